import PyProof.Rows.All
import Wide.All
import OpenK.AllK
import Wide.FinOn
import HandS.ForMost
import HandS.IsInst
import HandS.ClsMeth
import HandS.Codes
import HandS.Exc
import HandS.ExcOwn
import HandS.ExcInit
import HandS.ExcField
import HandS.ExcIs
import HandS.TryMany
import HandS.WordsExc
import HandS.CallSlots
import HandS.More
import KE.KExcIs
import KE.GoesEnum
import KE.GoesMore
import HandS.Defaults
import HandS.Property
import HandS.Zip
import HandS.Text
import HandS.Wide
import HandS.WideBits
import KE.IntBitsLaws
import PySem.Challenge.RW_lossway_k19_whole_finder_finds
set_option Elab.async false
set_option maxRecDepth 100000
namespace My
open PySem L2
set_option linter.all false

/-! ### an own `in` -/
section
variable {X : Cx} {CX : CXT} {k : Nat} {C g : Addr} {fd : FuncData} {ps : List Str} {sp : Sp} {E : XK}
def rOwnIn (C : Addr) (m : Bool → Bool) (sp : Sp) (E : XK) : R2 := fun x y H Q => ∃ a dx fs, y = .ref a ∧ H a = some (.ins C dx fs) ∧ sp [.ref a, x] H (fun v H' => ∃ b, v = .bl b ∧ Q (.bl (m b)) H') E
theorem op_notInOwn (mm : Meth X.K C "__contains__" g) (F : FnOk X.prog X.w X.K X.mg X.base CX k g fd ps sp) (hr : Room k X.A) (hb : Binds X.K fd ps []) (hx : Passes CX X E) : OpR X (compareOp .NotIn) (rOwnIn C not sp E) := by
  intro pins s σ H x y v u Q I rx ry h
  obtain ⟨a, dx, fs, rfl, ha, q⟩ := h
  cases (show u = Value.ref a from ry)
  obtain ⟨mA, O, _⟩ := ins_get I.hok ha
  obtain ⟨od, J, _⟩ := O.look
  obtain ⟨m, hF⟩ := I.fr
  refine PySem.W.notIn_K hF I.ok.mod.kin J mm.at_ mm.fn ?_
  refine wpAny_mono (run_fn (us := [.ref a, v]) (vs := [.ref a, x]) (ds := []) (dvs := []) F hr hb .nil hx I (.cons rfl (.cons rx .nil)) q) (fun w s' z => ?_) fun _ _ x => x
  obtain ⟨z', H', I', rz, b, eb, qz⟩ := z
  subst eb
  cases (show w = Value.bool b from rz)
  exact wpAny_truthy_bool ⟨.bl (!b), H', I', rfl, qz⟩
theorem op_inOwn (mm : Meth X.K C "__contains__" g) (F : FnOk X.prog X.w X.K X.mg X.base CX k g fd ps sp) (hr : Room k X.A) (hb : Binds X.K fd ps []) (hx : Passes CX X E) : OpR X (compareOp .In) (rOwnIn C id sp E) := by
  intro pins s σ H x y v u Q I rx ry h
  obtain ⟨a, dx, fs, rfl, ha, q⟩ := h
  cases (show u = Value.ref a from ry)
  obtain ⟨mA, O, _⟩ := ins_get I.hok ha
  obtain ⟨od, J, _⟩ := O.look
  obtain ⟨m, hF⟩ := I.fr
  refine PySem.W.in_K hF I.ok.mod.kin J mm.at_ mm.fn ?_
  refine wpAny_mono (run_fn (us := [.ref a, v]) (vs := [.ref a, x]) (ds := []) (dvs := []) F hr hb .nil hx I (.cons rfl (.cons rx .nil)) q) (fun w s' z => ?_) fun _ _ x => x
  obtain ⟨z', H', I', rz, b, eb, qz⟩ := z
  subst eb
  cases (show w = Value.bool b from rz)
  exact wpAny_truthy_bool ⟨.bl b, H', I', rfl, qz⟩
end

/-! ### heaps -/
/-- all that was tracked stands, but what is at a -/
def SameX (a : Addr) (H H' : Hp) : Prop := ∀ b o, b ≠ a → H b = some o → H' b = some o
theorem SameX.refl {a : Addr} {H : Hp} : SameX a H H := fun _ _ _ h => h
theorem SameX.trans {a : Addr} {H H1 H2 : Hp} (x : SameX a H H1) (y : SameX a H1 H2) : SameX a H H2 := fun b o n h => y b o n (x b o n h)
theorem SameX.upd {a : Addr} {H : Hp} {o : HO} : SameX a H (L2.upd H a o) := fun b _ n h => by
  rw [upd_ne n]
  exact h
theorem SameX.upd' {a : Addr} {H H1 : Hp} {o : HO} (x : SameX a H H1) : SameX a H (L2.upd H1 a o) := x.trans .upd
theorem SameX.of {a : Addr} {H H1 : Hp} (x : Same H H1) : SameX a H H1 := fun b o _ h => x b o h
theorem Same.new {H : Hp} {p : Addr} {o : HO} (h : H p = none) : Same H (upd H p o) := fun b u e => by
  rw [upd_ne (ne_of_none e h)]
  exact e
theorem SqL.now {K : PySem.W.Frag} {H : Hp} {a : Addr} {xs : List V} (h : H a = some (.lst xs)) : SqL K H a xs := SqL.of h

/-! ### the purse -/
/-- a purse's rows -/
def pur (c : Addr) (p r n s : Int) : List V := [.ref c, .int p, .int r, .int n, .int s]
structure Purse (a c : Addr) (H : Hp) : Prop where
  ex : ∃ (cs : List Int) (p : Nat) (r n s : Int), H a = some (.lst (pur c p r n s)) ∧ H c = some (.lst (cs.map V.int)) ∧ (∀ x ∈ cs, 0 ≤ x) ∧ p ≤ cs.length ∧ cs.length ≤ 63 ∧ 0 ≤ r ∧ 0 ≤ s ∧ s < 2147483647
theorem pur_ne {H : Hp} {a c c' : Addr} {p r n s : Int} {cs : List Int} (h : H a = some (.lst (pur c p r n s))) (h' : H c' = some (.lst (cs.map V.int))) : c' ≠ a := ne_of h' h (by
  intro e
  injection e with e
  cases cs with
  | nil => cases e
  | cons x r => injection e with e1 _; cases e1)
theorem lk1 {m f : Str} {v : V} (h : (m == f) = false) : List.lookup m [(f, v)] = none := by
  simp only [List.lookup, h]
theorem bl_t {p : Prop} [Decidable p] (h : p) : V.bl (decide p) = V.bl true := congrArg V.bl (decide_eq_true h)
theorem bl_f {p : Prop} [Decidable p] (h : ¬ p) : V.bl (decide p) = V.bl false := congrArg V.bl (decide_eq_false h)
theorem bln_t {p : Prop} [Decidable p] (h : p) : V.bl (!decide p) = V.bl false := by rw [decide_eq_true h]; rfl
theorem bln_f {p : Prop} [Decidable p] (h : ¬ p) : V.bl (!decide p) = V.bl true := by rw [decide_eq_false h]; rfl
theorem int_ne {a b : Int} (h : ¬ a = b) : ¬ V.int a = V.int b := fun e => h (V.int.inj e)
theorem int_eq {a b : Int} (h : a = b) : V.int a = V.int b := congrArg V.int h

theorem Purse.there {a c : Addr} {H : Hp} (P : Purse a c H) : (∃ xs, H a = some (.lst xs)) ∧ ∃ ys, H c = some (.lst ys) := by
  obtain ⟨cs, p, r, n, s, h1, h2, _⟩ := P.ex
  exact ⟨⟨_, h1⟩, _, h2⟩
/-- a purse stands where both of its lists stand -/
theorem Purse.keep {a c : Addr} {H H' : Hp} (P : Purse a c H) (h : H' a = H a) (h' : H' c = H c) : Purse a c H' := by
  obtain ⟨cs, p, r, n, s, h1, h2, q⟩ := P.ex
  exact ⟨cs, p, r, n, s, h.trans h1, h'.trans h2, q⟩
theorem Purse.same {a c : Addr} {H H' : Hp} (P : Purse a c H) (s : Same H H') : Purse a c H' := by
  obtain ⟨cs, p, r, n, z, h1, h2, q⟩ := P.ex
  exact ⟨cs, p, r, n, z, s _ _ h1, s _ _ h2, q⟩
theorem Purse.on {a c b : Addr} {H H' : Hp} (P : Purse a c H) (s : SameX b H H') (na : a ≠ b) (nc : c ≠ b) : Purse a c H' := by
  obtain ⟨cs, p, r, n, z, h1, h2, q⟩ := P.ex
  exact ⟨cs, p, r, n, z, s _ _ na h1, s _ _ nc h2, q⟩
theorem small1000' {n : Nat} (h : n < 100000) : n < sizeLine := Nat.lt_of_lt_of_le h (by decide)
theorem sqT_sm {K : PySem.W.Frag} {H H' : Hp} {a : Addr} {xs : List V} (h : SqT K H a xs) (s : Same H H') : SqT K H' a xs := by
  rcases h with (h | ⟨o, h⟩) | h
  · exact .inl (.inl (s _ _ h))
  · exact .inl (.inr ⟨o, s _ _ h⟩)
  · exact .inr h
/-! ### several except clauses, each with or without a name -/
section
open PySem.Spec PyProof.Rows
variable {X : Cx}
/-- a clause: its class, the slot of its name, its suite -/
abbrev Cl := Value × Option Nat × (Addr → Value → Option Addr → TS)
def unN (D : Ends) (i : Nat) : Ends := { nx := fun σ H => D.nx (σ.set i none) H, rt := D.rt, bk := fun σ H => D.bk (σ.set i none) H, ct := fun σ H => D.ct (σ.set i none) H }
def clGo (D : Ends) (o : Option Nat) (t : TS) (a : Addr) (σ : L2.St) (H : Hp) : Prop := match o with
  | none => t D σ H
  | some i => t (unN D i) (σ.set i (some (.ref a))) H
def wCl (K : PySem.W.Frag) (Wout : WX) (D : Ends) : List Cl → WX
  | [] => Wout
  | (c, o, ts) :: r => fun cls d σ H => ∃ b, PySem.W.exmOne K cls c = some b ∧ (b = true → ∀ a, H a = none → clGo D o (ts a cls d) a σ H) ∧ (b = false → wCl K Wout D r cls d σ H)
inductive ClOk (X : Cx) : List ExceptHandler → List Cl → Prop
  | nil : ClOk X [] []
  | bare {x : Str} {c : Value} {ts : Addr → Value → Option Addr → TS} {b0 : Stmt} {su : List Stmt} {np ps : Pos} {hs : List ExceptHandler} {l : List Cl} (nm : Names X x c)
      (ok : ∀ (a : Addr) (oe : Obj) (cls : Value) (d : Option Addr) (pn : List (Addr × Obj)), Zc cls d oe → (∃ vs, oe.data = .fields vs) → PSs (X.suite a ((a, oe) :: pn)) (b0 :: su) (ts a cls d)) (rest : ClOk X hs l) :
      ClOk X (.ExceptHandler (some (.Name x np)) none (b0 :: su) ps :: hs) ((c, none, ts) :: l)
  | named {x n : Str} {i : Nat} {c : Value} {ts : Addr → Value → Option Addr → TS} {b0 : Stmt} {su : List Stmt} {np ps : Pos} {hs : List ExceptHandler} {l : List Cl} (nd : X.N.Nodup) (hi : X.N[i]? = some n) (lc : X.env.kindOf n = some .local) (nm : Names X x c)
      (ok : ∀ (a : Addr) (oe : Obj) (cls : Value) (d : Option Addr) (pn : List (Addr × Obj)), Zc cls d oe → (∃ vs, oe.data = .fields vs) → PSs (X.suite a ((a, oe) :: pn)) (b0 :: su) (ts a cls d)) (rest : ClOk X hs l) :
      ClOk X (.ExceptHandler (some (.Name x np)) (some n) (b0 :: su) ps :: hs) ((c, some i, ts) :: l)
theorem ps_try_cl {body : List Stmt} {h0 : ExceptHandler} {hs : List ExceptHandler} {l : List Cl} {pos : Pos} {tb : WX → TS} {Wout : WX} (st : X.stack = X.env :: X.outer) (fr : X.env.frame = some X.env.locals) (tk : Takes X Wout)
    (hb : ∀ (W : WX) (pn : List (Addr × Obj)) (xe : Value → Shared → Prop), Takes (X.tr pn xe) W → PassesOwn (model X.prog X.w) X.A X.env xe → PSs (X.tr pn xe) body (tb W))
    (hh : ClOk X (h0 :: hs) l) : PS X (.Try body (h0 :: hs) [] [] pos) (fun D σ H => tb (wCl X.K Wout D l) D σ H) := by
  refine ⟨fun pins s σ H D I h => ?_⟩
  have ok := I.ok
  have frs0 : X.A.frames = some (X.env :: X.outer) := by
    rw [ok.frames, st]
  refine wpAny_Try_except (wpAny_mono ((hb (wCl X.K Wout D l) (X.pn ++ pins) (fun e t1 => wpAny (model X.prog X.w) X.A (noteFrame e X.env) (fun _ t2 =>
    wpAny (model X.prog X.w) X.A (setFlight e none) (fun _ t3 => wpAny (model X.prog X.w) X.A (handleBy e X.env (h0 :: hs)) (SP X pins D) X.xe t3) X.xe t2) X.xe t1)
      (fun u s' xx => ?_) PassesOwn.looking).run [] s σ H D (I.toTry _) h) (fun f s1 hsp => ?_) (fun _ _ z => z))
  · obtain ⟨a, B, sI, pins', σ', H', cls, d, rfl, J', nb, up, sky, na, os, ag, w⟩ := xx
    have J := J'.ofTry ok
    have sky2 : Sky B (X.env :: X.outer) a (Zc cls d) X.env.locals s'.heap := by
      rw [← st]
      exact sky
    refine Sky.land Zc.steady frs0 fr sky2 fun g1 fl1 up1 => ?_
    have J1 : Inv X pins σ' H' { s' with heap := g1 } := J.landed nb fl1.1 (up.trans up1) os ag
    obtain ⟨o1, vs1, at1, z1, dt1⟩ := fl1.there
    have off : a ∉ frs (X.env :: X.outer) := fun hm => by
      obtain ⟨_, o', e', hnf⟩ := fl1.2.2.1.mem hm
      rw [at1] at e'
      cases e'
      exact hnf _ dt1
    have offL : a ≠ X.env.locals := fun z => off (List.mem_filterMap.mpr ⟨X.env, List.mem_cons_self, by rw [fr, z]⟩)
    have offF : a ∉ X.fs := fun hm => by
      obtain ⟨e, he, q⟩ := List.mem_filterMap.mp hm
      exact off (List.mem_filterMap.mpr ⟨e, List.mem_cons_of_mem _ he, q⟩)
    have S1 := J1.suite at1 dt1 na offL offF
    have LT : PySem.W.Looks (model X.prog X.w) g1 (typeOf (.ref a)) cls := fun A Q E s k q => wpAny_typeOf_ref (k _ _ at1) (by rw [z1.1]; exact q)
    have ask : ∀ {x : Str} {np : Pos} {c : Value}, Names X x c → ∀ {Q : Value → Shared → Prop} {E : Value → Shared → Prop}, Q c { s' with heap := g1 } →
        wpAny (model X.prog X.w) (X.A.mark (some (.ref a))) (eval (.Name x np) X.env) Q E { s' with heap := g1 } := fun {x np c} nm {Q E} q => by
      obtain ⟨hg, hdb, h1 | ⟨h1, h2, h3⟩⟩ := nm
      · exact ld_glob (X := X.suite a ((a, o1) :: (X.pn ++ pins))) S1 hg h1 q hdb
      · exact ld_blt (X := X.suite a ((a, o1) :: (X.pn ++ pins))) S1 hg h1 h2 q h3 hdb
    have go : ∀ {hs' : List ExceptHandler} {l' : List Cl}, ClOk X hs' l' → wCl X.K Wout D l' cls d σ' H' → wpAny (model X.prog X.w) X.A (handleBy (.ref a) X.env hs') (SP X pins D) X.xe { s' with heap := g1 } := by
      intro hs' l' hk
      induction hk with
      | nil =>
        intro w
        refine wpAny_handleBy_nil ?_
        obtain ⟨_, _, _, oe, vs, Tr, _, _, he, hz, hd, h1, _⟩ := id fl1
        unfold PySem.passOn
        refine wpAny_bind (wpAny_field he hd h1 ?_)
        rw [if_neg (show ¬ ((Value.ref Tr == Value.none) = true) from by simp)]
        have last : wpAny (model X.prog X.w) X.A (setFlight (.ref a) X.env.frame) (fun _ t => wpAny (model X.prog X.w) X.A (throw (.ref a) : Sem Flow) (SP X pins D) X.xe t) X.xe { s' with heap := g1 } := by
          rw [fr]
          refine HandSPX.setFlight_upZ fl1 fun g2 hh2 up2 => wpAny_throw (tk _ _ ?_)
          exact ⟨a, B, sI, pins, σ', H', cls, d, rfl, J, nb, (up.trans up1).trans up2, .inr (.inr (by rw [st]; exact hh2)), na, os, ag, w⟩
        first
          | exact wpAny_bind (wpAny_pure (wpAny_bind last))
          | exact wpAny_bind last
      | bare nm su rest ih =>
        intro w
        obtain ⟨b, hb1, yes, no⟩ := w
        have LM := PySem.W.exm_one (M := model X.prog X.w) J1.kIn LT hb1
        refine wpAny_handleBy_cons (codeAny_handlers_test (ask nm (LM.here ?_))) (fun q => by cases q)
        cases b with
        | false => exact ih (no rfl)
        | true =>
          refine codeAny_handlers_suite (HandSPX.lands_againZ fl1 fun g2 fl2 up2 => ?_)
          have J2 : Inv X pins σ' H' { s' with heap := g2 } := J.landed nb fl2.1 ((up.trans up1).trans up2) os ag
          obtain ⟨o2, vs2, at2, z2, dt2⟩ := fl2.there
          refine wpAny_mono ((su a o2 cls d (X.pn ++ pins) z2 ⟨_, dt2⟩).run [] _ _ H' _ (J2.suite at2 dt2 na offL offF) (yes rfl a na)) (fun f t hsp => ?_) (fun _ _ z => z.elim)
          cases f with
          | ret u =>
            obtain ⟨v6, σ6, H6, S6, r6, q6⟩ := hsp
            exact ⟨_, _, _, S6.unsuite ok, r6, q6⟩
          | next => exact let ⟨_, _, S6, q6⟩ := hsp; ⟨_, _, S6.unsuite ok, q6⟩
          | brk => exact let ⟨_, _, S6, q6⟩ := hsp; ⟨_, _, S6.unsuite ok, q6⟩
          | cont => exact let ⟨_, _, S6, q6⟩ := hsp; ⟨_, _, S6.unsuite ok, q6⟩
      | named nd hi lc nm su rest ih =>
        intro w
        obtain ⟨b, hb1, yes, no⟩ := w
        have LM := PySem.W.exm_one (M := model X.prog X.w) J1.kIn LT hb1
        refine wpAny_handleBy_cons (codeAny_handlers_test (ask nm (LM.here ?_))) (fun q => by cases q)
        cases b with
        | false => exact ih (no rfl)
        | true =>
          refine codeAny_handlers_suite_as (HandSPX.lands_againZ fl1 fun g2 fl2 up2 => ?_)
          have J2 : Inv X pins σ' H' { s' with heap := g2 } := J.landed nb fl2.1 ((up.trans up1).trans up2) os ag
          obtain ⟨o2, vs2, at2, z2, dt2⟩ := fl2.there
          refine store_ok (X := X.suite a ((a, o2) :: (X.pn ++ pins))) (v := .ref a) (J2.suite at2 dt2 na offL offF) nd hi (.inl lc) rfl (fun t S5 => ?_) (.inr lc)
          refine wpAny_mono ((su a o2 cls d (X.pn ++ pins) z2 ⟨_, dt2⟩).run [] t _ H' _ S5 (yes rfl a na)) (fun f t6 hsp => ?_) (fun _ _ z => z.elim)
          cases f with
          | next =>
            obtain ⟨σ6, H6, S6, q6⟩ := hsp
            exact gone_ok (S6.unsuite ok) nd hi lc fun s7 J7 => ⟨_, _, J7, q6⟩
          | brk =>
            obtain ⟨σ6, H6, S6, q6⟩ := hsp
            exact gone_ok (S6.unsuite ok) nd hi lc fun s7 J7 => ⟨_, _, J7, q6⟩
          | cont =>
            obtain ⟨σ6, H6, S6, q6⟩ := hsp
            exact gone_ok (S6.unsuite ok) nd hi lc fun s7 J7 => ⟨_, _, J7, q6⟩
          | ret u =>
            obtain ⟨v6, σ6, H6, S6, r6, q6⟩ := hsp
            exact gone_ok (S6.unsuite ok) nd hi lc fun s7 J7 => ⟨_, _, _, J7, r6, q6⟩
    exact go hh w
  · cases f with
    | ret u => exact let ⟨v, σ', H', J', r, q⟩ := hsp; ⟨v, σ', H', J'.ofTry ok, r, q⟩
    | next =>
      obtain ⟨σ', H', J', q⟩ := hsp
      exact wpAny_execs_nil ⟨σ', H', J'.ofTry ok, q⟩
    | brk => exact let ⟨σ', H', J', q⟩ := hsp; ⟨σ', H', J'.ofTry ok, q⟩
    | cont => exact let ⟨σ', H', J', q⟩ := hsp; ⟨σ', H', J'.ofTry ok, q⟩
end
/-! ### own exceptions -/
/-- what the written part says of an own exception class: the class at C, its __init__ at f -/
structure XCls (K : PySem.W.Frag) (mg : Str → Option Value) (nm : Str) (C f : Addr) : Prop where
  g : mg nm = some (.ref C)
  o : OexC K C
  i : PySem.W.findIn K (.ref C) "__init__" = some (some (.ref f))
  t : PySem.W.typeIn K (.ref f) = some (.type "function")
  x : XfC K C
  e : ExcC K C
theorem xcls_mk {K : PySem.W.Frag} {mg : Str → Option Value} {nm : Str} {C f : Addr} {n q : Str} {N : Addr} {bs bm : List Value} {sn : List Str} {sub : List Value} {ab : Bool} {col : _} {dd : Option Addr} {k0 k1 k2 k3 k5 : Option Value}
    (g : mg nm = some (.ref C)) (l : K.lookup C = some (excClassObj n q C N bs bm true sn sub ab col dd k0 k1 k2 k3 k5 "ValueError.__new__")) (bm' : PySem.HandSPX.refsVE bm = true) (sa : PySem.W.findIn K (.ref C) "__setattr__" = some (some (.builtin "object.__setattr__")))
    (ex : PySem.W.subIn K (.ref C) (.type "BaseException") = some true) (ty : PySem.W.typeIn K (.ref C) = some (.type "type")) (kp : PySem.W.keepIn K (.ref C) = true) (i : PySem.W.findIn K (.ref C) "__init__" = some (some (.ref f)))
    (t : PySem.W.typeIn K (.ref f) = some (.type "function")) (ga : PySem.W.findIn K (.ref C) "__getattribute__" = some (some (.builtin "BaseException.__getattribute__"))) (gg : PySem.W.findIn K (.ref C) "__getattr__" = some none) (hd : PySem.W.hasDictIn K C = true)
    (ha : PySem.W.findIn K (.ref C) "__class__" = some (some (.builtin "object.__class__"))) (hn : PySem.W.specialIn K (.builtin "object.__class__") "__get__" = some (some (.builtin "getset_descriptor.__get__")))
    (ht : PySem.W.takesIn K (.builtin "object.__class__") = some true) (hm : PySem.W.mroIn K C (.type "object") = some true) : XCls K mg nm C f :=
  ⟨g, ⟨⟨n, q, N, bs, bm, sn, sub, ab, col, dd, k0, k1, k2, k3, k5, l, bm'⟩, sa, ex, ty, kp⟩, i, t, ⟨ga, gg, ex, hd⟩, ⟨ga, gg, ex, hd, ha, hn, ht, hm⟩⟩
/-- __init__ of such a class: one field is stored -/
def sp_xinit (K : PySem.W.Frag) (f : Str) : Sp := fun vs H Q _ => ∃ (a C : Addr) (v : V), vs = [.ref a, v] ∧ OexC K C ∧ PySem.W.findIn K (.ref C) f = some none ∧ H a = some (exo a C none) ∧
  ∀ dx, H dx = none → dx ≠ a → Q .non (upd (upd H dx (exd dx [(f, v)])) a (exo a C (some dx)))
/-- raise C(v): what follows holds wherever the new error's dict is told, all else standing -/
theorem mkO_of {K : PySem.W.Frag} {f : Str} {C : Addr} {v : V} {H : Hp} {E : XK} (O : OexC K C) (hn : PySem.W.findIn K (.ref C) f = some none) (k : ∀ d H', H d = none → Same H H' → H' d = some (.xd [(f, v)]) → E (.ref C) (some d) H') :
    [v].length ≤ 1000 ∧ ∀ a, H a = none → sp_xinit K f (.ref a :: ([v] ++ [])) (upd H a (exo a C none))
      (fun w H2 => w = .non ∧ ∃ (d : Addr) (fs : List (Str × V)), H2 a = some (exo a C (some d)) ∧ H2 d = some (exd d fs) ∧ H d = none ∧ E (.ref C) (some d) (upd (del H2 a) d (.xd fs))) (fun _ _ _ => False) := by
  refine ⟨Nat.succ_le_succ (Nat.zero_le _), fun a ha => ⟨a, C, v, rfl, O, hn, upd_same, fun dx hdx ne => ⟨rfl, dx, [(f, v)], upd_same, ?_, ?_, ?_⟩⟩⟩
  · rw [upd_ne ne]
    exact upd_same
  · rw [upd_ne ne] at hdx
    exact hdx
  · have hdx0 : H dx = none := by
      rw [upd_ne ne] at hdx
      exact hdx
    refine k dx _ hdx0 (fun b o e => ?_) upd_same
    have nb : b ≠ dx := ne_of_none e hdx0
    have na : b ≠ a := ne_of_none e ha
    rw [upd_ne nb, del_ne na, upd_ne na, upd_ne nb, upd_ne na]
    exact e
section
variable {X : Cx} {a : Addr} {oe : Obj} {cls : Value} {d : Option Addr} {pn : List (Addr × Obj)} {n : Str}
/-- e.n in a suite, e of whichever class it is -/
def tXg (K : PySem.W.Frag) (a : Addr) (cls : Value) (d : Option Addr) (f : Str) (te : TE) : TE := fun σ H Q => te σ H fun x H1 => x = .ref a ∧ ∃ (C dd : Addr) (fs : List (Str × V)) (v : V), cls = .ref C ∧ XfC K C ∧ PySem.W.findIn K (.ref C) f = some none ∧ d = some dd ∧ H1 dd = some (.xd fs) ∧ fs.lookup f = some v ∧ Q v H1
theorem pe_xg {e : Expr} {te : TE} {pos : Pos} (hz : Zc cls d oe) (hf : ∃ vs, oe.data = .fields vs) (he : PE (X.suite a ((a, oe) :: pn)) e te)
    (hb : attributeBase e n X.env (eval e X.env) = eval e X.env := by rfl) : PE (X.suite a ((a, oe) :: pn)) (.Attribute e n pos) (tXg X.K a cls d n te) := by
  refine ⟨fun pins s σ H Q I h => ?_⟩
  refine attr_of hb (thn (he.run pins s σ H _ I h) fun u s1 hh => ?_)
  obtain ⟨x, H1, I1, rx, ex, C, dd, fs, v, ec, T, hno, ed, ea, l, q⟩ := hh
  subst ex ec ed
  obtain rfl : u = Value.ref a := rx
  obtain ⟨mA, hns, hr⟩ := (show ObjOk X.prog X.w H1 s1.heap dd (.xd fs) from I1.hok dd _ ea)
  obtain ⟨od, ho, hl⟩ := lookIn_ns hns
  obtain ⟨u, hu, ru⟩ := RelO.some_of (v := v) (o := mA n) (by rw [← l]; exact hr n)
  obtain ⟨vs, hv⟩ := hf
  have J : PySem.W.InstAt s1.heap a oe C (some od) := ⟨(I1.pin (a, oe) (List.mem_append_left _ List.mem_cons_self)).1, hz.1, by unfold PySem.W.notCls; rw [hv] <;> rfl, by rw [hz.2]; exact ho⟩
  exact PySem.HandSPX.exc_get I1.kIn J T.ga T.gg T.exC (PySem.W.findObj_own T.hdC hno rfl (by rw [hl, hu])) (handed_of ru) ⟨v, H1, I1.tok _, ru, q⟩
/-- isinstance(e, c) in a suite -/
def rIsX (K : PySem.W.Frag) (a : Addr) (cls : Value) (d : Option Addr) : List V → Hp → VK → Prop := fun xs H Q => ∃ (c : V) (cv : Value) (b : Bool) (D dd : Addr) (fs : List (Str × V)), xs = [.ref a, c] ∧ (∀ u, RelV c u → u = cv) ∧ cls = .ref D ∧ ExcC K D ∧ d = some dd ∧ H dd = some (.xd fs) ∧
  PySem.W.kitOne K (.ref D) cv = some b ∧ Q (.bl b) H
theorem call_isX (hz : Zc cls d oe) (hf : ∃ vs, oe.data = .fields vs) : CallR (X.suite a ((a, oe) :: pn)) (.builtin "isinstance") (rIsX X.K a cls d) := by
  intro pins s σ H xs us Q I r h
  obtain ⟨c, cv, b, D, dd, fs, rfl, hcv, ec, C, ed, ea, e, q⟩ := h
  subst ec ed
  obtain ⟨u1, u2, rfl, r1, r2⟩ := vals2 r
  cases (show u1 = Value.ref a from r1)
  cases (hcv _ r2)
  obtain ⟨mA, hns, hr⟩ := (show ObjOk X.prog X.w H s.heap dd (.xd fs) from I.hok dd _ ea)
  obtain ⟨od, ho, hl⟩ := lookIn_ns hns
  obtain ⟨vs, hv⟩ := hf
  have J : PySem.W.InstAt s.heap a oe D (some od) := ⟨(I.pin (a, oe) (List.mem_append_left _ List.mem_cons_self)).1, hz.1, by unfold PySem.W.notCls; rw [hv] <;> rfl, by rw [hz.2]; exact ho⟩
  obtain ⟨cd, hc, _⟩ := PySem.W.any_some C.hd
  exact PySem.W.kia_one (PySem.W.kitx_exc (by rw [hc]; rfl) C.hg C.hk C.hs C.ha C.hn C.ht C.hm) I.kIn J e (fun z => nomatch z) fun tk => ⟨.bl b, H, I.tok tk, rfl, q⟩
end
section
variable {X : Cx} {CX' : CXT} {k : Nat} {f C : Addr} {fd : FuncData} {ps : List Str} {sp : Sp} {E : St → XK} {x m : Str} {p pos apos : Pos} {e o : Expr} {es : List Expr} {ta : TE} {t : TA}
/-- o.m(..), what it lets out wished for at the caller's slots -/
def tMethX (C : Addr) (m : Str) (sp : Sp) (E : St → XK) (ta : TE) (t : TA) : TE := fun σ H Q => ta σ H fun x H1 => ∃ a dx fs, x = .ref a ∧ H1 a = some (.ins C dx fs) ∧ fs.lookup m = none ∧ t σ H1 fun vs H2 => sp (x :: vs) H2 Q (E σ)
theorem pe_methX {pl : Sem Bool} (he : PE X o ta) (c : Cls X.K C) (hm : Meth X.K C m f) (F : FnOk X.prog X.w X.K X.mg X.base CX' k f fd ps sp) (hr : Room k X.A) (hb : Binds X.K fd ps []) (hx : ∀ σ, PassesAt CX' X σ (E σ)) (ha : PA X (e :: es) t)
    (hst : starEach (e :: es) X.env = (false, eval e X.env) :: starEach es X.env := by rfl) (hpl : (PySem.backTo pos (starEach es X.env)).any (·.1) = false := by rfl)
    (ht : eval (.Call (.Attribute o m apos) (e :: es) [] pos) X.env = (eval o X.env >>= fun ov => standAt apos.atName >>= fun _ => holding [ov] (getMethod ov m pl) >>= fun fr => callWith pos fr.1 fr.2 (PySem.backTo pos (starEach (e :: es) X.env)) (backToKw pos (keywordEach [] X.env))) := by rfl) :
    PE X (.Call (.Attribute o m apos) (e :: es) [] pos) (tMethX C m sp E ta t) := by
  refine ⟨fun pins s σ H Q I h => ?_⟩
  refine PySem.W.methodCall_KW (pl := pl) (thn (he.run pins s σ H _ I h) fun u s1 ⟨x, H1, I1, rx, a, dx, fs, ex, ea, l, q⟩ => ?_) ht
  subst ex
  obtain rfl : u = Value.ref a := rx
  refine getmeth_ok I1 ea c hm l ?_
  refine PySem.W.callWith_K (h₀ := X.base) I1.ok.mod.kin hm.kp (thn (ha.run pos pins s1 σ H1 _ I1 q) fun us s2 ⟨vs, H2, I2, r, q2⟩ => ⟨I2.kIn, ?_⟩) hst hpl
  exact run_fnS (us := .ref a :: us) (vs := .ref a :: vs) F hr hb (hx σ) I2 (.cons rfl r) q2
end
/-- a class that is only named -/
structure GCls (mg : Str → Option Value) (nm : Str) (C : Addr) : Prop where
  g : mg nm = some (.ref C)
/-- what a callee lets out, whatever the slots hold -/
def anyW (n : Nat) (W : WX) : XK := fun cls d H => ∀ σ : L2.St, σ.length = n → W cls d σ H
theorem passes_any {X : Cx} {W : WX} (n : Nat) (tk : Takes X W) (hn : X.N.length = n := by rfl) : Passes (L2.CX X.prog X.w) X (anyW n W) :=
  fun _ σ _ _ e s' I c => tk e s' (XE.of_call I (fun cls d H' h => h σ (I.len.trans hn)) c)
def top (i : Nat) : Stmt := PySem.Challenge.pw_lossway_k19_whole_finder_finds.main.body.getD i (.Pass ⟨0, 0, 0, 0⟩)
abbrev s_InvalidNumber_init_ : Stmt := inClass (top 3) 0
theorem st_InvalidNumber_init_ {t : TS} {D : Ends} {H : Hp} {v0 v1 : V} (h : t D [some v0, some v1] H) : t D (L2.start ["self", "number"] [v0, v1]) H := h
theorem sc_InvalidNumber_init_ : FnScope ["self", "number"] ["self", "number"] (defScope s_InvalidNumber_init_) := ⟨rfl, rfl, rfl, by decide +kernel, rfl, by decide +kernel, by decide +kernel⟩
abbrev s_InvalidSetting_init_ : Stmt := inClass (top 4) 0
theorem st_InvalidSetting_init_ {t : TS} {D : Ends} {H : Hp} {v0 v1 : V} (h : t D [some v0, some v1] H) : t D (L2.start ["self", "setting"] [v0, v1]) H := h
theorem sc_InvalidSetting_init_ : FnScope ["self", "setting"] ["self", "setting"] (defScope s_InvalidSetting_init_) := ⟨rfl, rfl, rfl, by decide +kernel, rfl, by decide +kernel, by decide +kernel⟩
abbrev s_is_integer : Stmt := top 6
theorem st_is_integer {t : TS} {D : Ends} {H : Hp} {v0 : V} (h : t D [some v0] H) : t D (L2.start ["value"] [v0]) H := h
theorem sc_is_integer : FnScope ["value"] ["value"] (defScope s_is_integer) := ⟨rfl, rfl, rfl, by decide +kernel, rfl, by decide +kernel, by decide +kernel⟩
abbrev s_is_between : Stmt := top 7
theorem st_is_between {t : TS} {D : Ends} {H : Hp} {v0 v1 v2 : V} (h : t D [some v0, some v1, some v2] H) : t D (L2.start ["value", "low", "high"] [v0, v1, v2]) H := h
theorem sc_is_between : FnScope ["value", "low", "high"] ["value", "low", "high"] (defScope s_is_between) := ⟨rfl, rfl, rfl, by decide +kernel, rfl, by decide +kernel, by decide +kernel⟩
abbrev s_is_at_least : Stmt := top 8
theorem st_is_at_least {t : TS} {D : Ends} {H : Hp} {v0 v1 : V} (h : t D [some v0, some v1] H) : t D (L2.start ["value", "low"] [v0, v1]) H := h
theorem sc_is_at_least : FnScope ["value", "low"] ["value", "low"] (defScope s_is_at_least) := ⟨rfl, rfl, rfl, by decide +kernel, rfl, by decide +kernel, by decide +kernel⟩
abbrev s_require_count : Stmt := top 12
theorem st_require_count {t : TS} {D : Ends} {H : Hp} {v0 : V} (h : t D [some v0] H) : t D (L2.start ["count"] [v0]) H := h
theorem sc_require_count : FnScope ["count"] ["count"] (defScope s_require_count) := ⟨rfl, rfl, rfl, by decide +kernel, rfl, by decide +kernel, by decide +kernel⟩
abbrev s_Finder_init_ : Stmt := inClass (top 13) 0
theorem st_Finder_init_ {t : TS} {D : Ends} {H : Hp} {v0 v1 v2 : V} (h : t D [some v0, some v1, some v2] H) : t D (L2.start ["self", "low", "high"] [v0, v1, v2]) H := h
theorem sc_Finder_init_ : FnScope ["self", "low", "high"] ["self", "low", "high"] (defScope s_Finder_init_) := ⟨rfl, rfl, rfl, by decide +kernel, rfl, by decide +kernel, by decide +kernel⟩
abbrev s_Finder_trial : Stmt := inClass (top 13) 1
theorem st_Finder_trial {t : TS} {D : Ends} {H : Hp} {v0 : V} (h : t D [some v0] H) : t D (L2.start ["self"] [v0]) H := h
theorem sc_Finder_trial : FnScope ["self"] ["self"] (defScope s_Finder_trial) := ⟨rfl, rfl, rfl, by decide +kernel, rfl, by decide +kernel, by decide +kernel⟩
abbrev s_Finder_passed : Stmt := inClass (top 13) 2
theorem st_Finder_passed {t : TS} {D : Ends} {H : Hp} {v0 v1 : V} (h : t D [some v0, some v1] H) : t D (L2.start ["self", "count"] [v0, v1]) H := h
theorem sc_Finder_passed : FnScope ["self", "count"] ["self", "count"] (defScope s_Finder_passed) := ⟨rfl, rfl, rfl, by decide +kernel, rfl, by decide +kernel, by decide +kernel⟩
abbrev s_Finder_failed : Stmt := inClass (top 13) 3
theorem st_Finder_failed {t : TS} {D : Ends} {H : Hp} {v0 v1 : V} (h : t D [some v0, some v1] H) : t D (L2.start ["self", "count"] [v0, v1]) H := h
theorem sc_Finder_failed : FnScope ["self", "count"] ["self", "count"] (defScope s_Finder_failed) := ⟨rfl, rfl, rfl, by decide +kernel, rfl, by decide +kernel, by decide +kernel⟩
abbrev s_Finder_copied : Stmt := inClass (top 13) 4
theorem st_Finder_copied {t : TS} {D : Ends} {H : Hp} {v0 : V} (h : t D [some v0] H) : t D (L2.start ["self"] [v0]) H := h
theorem sc_Finder_copied : FnScope ["self"] ["self"] (defScope s_Finder_copied) := ⟨rfl, rfl, rfl, by decide +kernel, rfl, by decide +kernel, by decide +kernel⟩
abbrev s__law_whole : Stmt := top 15
theorem st__law_whole {t : TS} {D : Ends} {H : Hp} {v0 : V} (h : t D [some v0] H) : t D (L2.start ["value"] [v0]) H := h
theorem sc__law_whole : FnScope ["value"] ["value"] (defScope s__law_whole) := ⟨rfl, rfl, rfl, by decide +kernel, rfl, by decide +kernel, by decide +kernel⟩
abbrev s__law_bag : Stmt := top 16
theorem st__law_bag {t : TS} {D : Ends} {H : Hp} {v0 : V} (h : t D [some v0, none, none, none] H) : t D (L2.start ["script", "great", "cells", "cell"] [v0]) H := h
theorem sc__law_bag : FnScope ["script", "great", "cells", "cell"] ["script"] (defScope s__law_bag) := ⟨rfl, rfl, rfl, by decide +kernel, rfl, by decide +kernel, by decide +kernel⟩
abbrev s__law_take : Stmt := top 17
theorem st__law_take {t : TS} {D : Ends} {H : Hp} {v0 v1 : V} (h : t D [some v0, some v1, none, none, none, none] H) : t D (L2.start ["bag", "many", "left", "cell", "one", "two"] [v0, v1]) H := h
theorem sc__law_take : FnScope ["bag", "many", "left", "cell", "one", "two"] ["bag", "many"] (defScope s__law_take) := ⟨rfl, rfl, rfl, by decide +kernel, rfl, by decide +kernel, by decide +kernel⟩
abbrev s__law_lesser : Stmt := top 18
theorem st__law_lesser {t : TS} {D : Ends} {H : Hp} {v0 v1 : V} (h : t D [some v0, some v1] H) : t D (L2.start ["one", "two"] [v0, v1]) H := h
theorem sc__law_lesser : FnScope ["one", "two"] ["one", "two"] (defScope s__law_lesser) := ⟨rfl, rfl, rfl, by decide +kernel, rfl, by decide +kernel, by decide +kernel⟩
abbrev s__law_greater : Stmt := top 19
theorem st__law_greater {t : TS} {D : Ends} {H : Hp} {v0 v1 : V} (h : t D [some v0, some v1] H) : t D (L2.start ["one", "two"] [v0, v1]) H := h
theorem sc__law_greater : FnScope ["one", "two"] ["one", "two"] (defScope s__law_greater) := ⟨rfl, rfl, rfl, by decide +kernel, rfl, by decide +kernel, by decide +kernel⟩
abbrev s__law_bounds : Stmt := top 20
theorem st__law_bounds {t : TS} {D : Ends} {H : Hp} {v0 : V} (h : t D [some v0, none, none, none] H) : t D (L2.start ["bag", "floor", "way", "roof"] [v0]) H := h
theorem sc__law_bounds : FnScope ["bag", "floor", "way", "roof"] ["bag"] (defScope s__law_bounds) := ⟨rfl, rfl, rfl, by decide +kernel, rfl, by decide +kernel, by decide +kernel⟩
abbrev s__law_path : Stmt := top 21
theorem st__law_path {t : TS} {D : Ends} {H : Hp} {v0 : V} (h : t D [some v0, none, none, none] H) : t D (L2.start ["bag", "pair", "way", "most"] [v0]) H := h
theorem sc__law_path : FnScope ["bag", "pair", "way", "most"] ["bag"] (defScope s__law_path) := ⟨rfl, rfl, rfl, by decide +kernel, rfl, by decide +kernel, by decide +kernel⟩
abbrev s__law_seen : Stmt := top 22
theorem st__law_seen {t : TS} {D : Ends} {H : Hp} {v0 v1 : V} (h : t D [some v0, some v1, none, none] H) : t D (L2.start ["finder", "path", "told", "one"] [v0, v1]) H := h
theorem sc__law_seen : FnScope ["finder", "path", "told", "one"] ["finder", "path"] (defScope s__law_seen) := ⟨rfl, rfl, rfl, by decide +kernel, rfl, by decide +kernel, by decide +kernel⟩
abbrev s__law_aside : Stmt := top 23
theorem st__law_aside {t : TS} {D : Ends} {H : Hp} {v0 v1 v2 v3 : V} (h : t D [some v0, some v1, some v2, some v3, none, none, none] H) : t D (L2.start ["bag", "finder", "path", "seen", "carried", "now", "other"] [v0, v1, v2, v3]) H := h
theorem sc__law_aside : FnScope ["bag", "finder", "path", "seen", "carried", "now", "other"] ["bag", "finder", "path", "seen"] (defScope s__law_aside) := ⟨rfl, rfl, rfl, by decide +kernel, rfl, by decide +kernel, by decide +kernel⟩
abbrev s__law_answer : Stmt := top 24
theorem st__law_answer {t : TS} {D : Ends} {H : Hp} {v0 v1 v2 v3 : V} (h : t D [some v0, some v1, some v2, some v3] H) : t D (L2.start ["bag", "finder", "path", "aim"] [v0, v1, v2, v3]) H := h
theorem sc__law_answer : FnScope ["bag", "finder", "path", "aim"] ["bag", "finder", "path", "aim"] (defScope s__law_answer) := ⟨rfl, rfl, rfl, by decide +kernel, rfl, by decide +kernel, by decide +kernel⟩
abbrev s__law_step : Stmt := top 25
theorem st__law_step {t : TS} {D : Ends} {H : Hp} {v0 v1 v2 : V} (h : t D [some v0, some v1, some v2, none, none] H) : t D (L2.start ["bag", "finder", "path", "seen", "now"] [v0, v1, v2]) H := h
theorem sc__law_step : FnScope ["bag", "finder", "path", "seen", "now"] ["bag", "finder", "path"] (defScope s__law_step) := ⟨rfl, rfl, rfl, by decide +kernel, rfl, by decide +kernel, by decide +kernel⟩
abbrev s__law_ended : Stmt := top 26
theorem st__law_ended {t : TS} {D : Ends} {H : Hp} {v0 v1 v2 : V} (h : t D [some v0, some v1, some v2, none, none, none] H) : t D (L2.start ["bag", "finder", "path", "width", "due", "one"] [v0, v1, v2]) H := h
theorem sc__law_ended : FnScope ["bag", "finder", "path", "width", "due", "one"] ["bag", "finder", "path"] (defScope s__law_ended) := ⟨rfl, rfl, rfl, by decide +kernel, rfl, by decide +kernel, by decide +kernel⟩
abbrev s_law : Stmt := top 27
theorem st_law {t : TS} {D : Ends} {H : Hp} {v0 : V} (h : t D [some v0, none, none, none, none, none, none, none] H) : t D (L2.start ["script", "bag", "paths", "pair", "turn", "side", "other", "path"] [v0]) H := h
theorem sc_law : FnScope ["script", "bag", "paths", "pair", "turn", "side", "other", "path"] ["script"] (defScope s_law) := ⟨rfl, rfl, rfl, by decide +kernel, rfl, by decide +kernel, by decide +kernel⟩

set_option maxHeartbeats 0 in
structure Txt (K : PySem.W.Frag) (mg : Str → Option Value) where
  c_Finder : Addr
  g_Finder : mg "Finder" = some (.ref c_Finder)
  cl_Finder : Cls K c_Finder
  n_Finder_size : NoAttr K c_Finder "size"
  n_Finder_ceiling : NoAttr K c_Finder "ceiling"
  n_Finder_strikes : NoAttr K c_Finder "strikes"
  c_LossError : Addr
  c_InvalidNumber : Addr
  c_InvalidSetting : Addr
  a_InvalidNumber_init_ : Addr
  fd_InvalidNumber_init_ : FuncData
  F_InvalidNumber_init_ : Fun K "__init__" "InvalidNumber.__init__" s_InvalidNumber_init_ a_InvalidNumber_init_ fd_InvalidNumber_init_
  B_InvalidNumber_init_ : Binds K fd_InvalidNumber_init_ ["self", "number"] []
  a_InvalidSetting_init_ : Addr
  fd_InvalidSetting_init_ : FuncData
  F_InvalidSetting_init_ : Fun K "__init__" "InvalidSetting.__init__" s_InvalidSetting_init_ a_InvalidSetting_init_ fd_InvalidSetting_init_
  B_InvalidSetting_init_ : Binds K fd_InvalidSetting_init_ ["self", "setting"] []
  a_is_integer : Addr
  fd_is_integer : FuncData
  F_is_integer : Fun K "is_integer" "is_integer" s_is_integer a_is_integer fd_is_integer
  B_is_integer : Binds K fd_is_integer ["value"] []
  g_is_integer : mg "is_integer" = some (.ref a_is_integer)
  a_is_between : Addr
  fd_is_between : FuncData
  F_is_between : Fun K "is_between" "is_between" s_is_between a_is_between fd_is_between
  B_is_between : Binds K fd_is_between ["value", "low", "high"] []
  g_is_between : mg "is_between" = some (.ref a_is_between)
  a_is_at_least : Addr
  fd_is_at_least : FuncData
  F_is_at_least : Fun K "is_at_least" "is_at_least" s_is_at_least a_is_at_least fd_is_at_least
  B_is_at_least : Binds K fd_is_at_least ["value", "low"] []
  g_is_at_least : mg "is_at_least" = some (.ref a_is_at_least)
  a_require_count : Addr
  fd_require_count : FuncData
  F_require_count : Fun K "require_count" "require_count" s_require_count a_require_count fd_require_count
  B_require_count : Binds K fd_require_count ["count"] []
  g_require_count : mg "require_count" = some (.ref a_require_count)
  a_Finder_init_ : Addr
  fd_Finder_init_ : FuncData
  F_Finder_init_ : Fun K "__init__" "Finder.__init__" s_Finder_init_ a_Finder_init_ fd_Finder_init_
  B_Finder_init_ : Binds K fd_Finder_init_ ["self", "low", "high"] []
  M_Finder : Mk K c_Finder a_Finder_init_
  a_Finder_trial : Addr
  fd_Finder_trial : FuncData
  F_Finder_trial : Fun K "trial" "Finder.trial" s_Finder_trial a_Finder_trial fd_Finder_trial
  B_Finder_trial : Binds K fd_Finder_trial ["self"] []
  m_Finder_trial : Meth K c_Finder "trial" a_Finder_trial
  a_Finder_passed : Addr
  fd_Finder_passed : FuncData
  F_Finder_passed : Fun K "passed" "Finder.passed" s_Finder_passed a_Finder_passed fd_Finder_passed
  B_Finder_passed : Binds K fd_Finder_passed ["self", "count"] []
  m_Finder_passed : Meth K c_Finder "passed" a_Finder_passed
  a_Finder_failed : Addr
  fd_Finder_failed : FuncData
  F_Finder_failed : Fun K "failed" "Finder.failed" s_Finder_failed a_Finder_failed fd_Finder_failed
  B_Finder_failed : Binds K fd_Finder_failed ["self", "count"] []
  m_Finder_failed : Meth K c_Finder "failed" a_Finder_failed
  a_Finder_copied : Addr
  fd_Finder_copied : FuncData
  F_Finder_copied : Fun K "copied" "Finder.copied" s_Finder_copied a_Finder_copied fd_Finder_copied
  B_Finder_copied : Binds K fd_Finder_copied ["self"] []
  m_Finder_copied : Meth K c_Finder "copied" a_Finder_copied
  a__law_whole : Addr
  fd__law_whole : FuncData
  F__law_whole : Fun K "_law_whole" "_law_whole" s__law_whole a__law_whole fd__law_whole
  B__law_whole : Binds K fd__law_whole ["value"] []
  g__law_whole : mg "_law_whole" = some (.ref a__law_whole)
  a__law_bag : Addr
  fd__law_bag : FuncData
  F__law_bag : Fun K "_law_bag" "_law_bag" s__law_bag a__law_bag fd__law_bag
  B__law_bag : Binds K fd__law_bag ["script"] []
  g__law_bag : mg "_law_bag" = some (.ref a__law_bag)
  a__law_take : Addr
  fd__law_take : FuncData
  F__law_take : Fun K "_law_take" "_law_take" s__law_take a__law_take fd__law_take
  B__law_take : Binds K fd__law_take ["bag", "many"] []
  g__law_take : mg "_law_take" = some (.ref a__law_take)
  a__law_lesser : Addr
  fd__law_lesser : FuncData
  F__law_lesser : Fun K "_law_lesser" "_law_lesser" s__law_lesser a__law_lesser fd__law_lesser
  B__law_lesser : Binds K fd__law_lesser ["one", "two"] []
  g__law_lesser : mg "_law_lesser" = some (.ref a__law_lesser)
  a__law_greater : Addr
  fd__law_greater : FuncData
  F__law_greater : Fun K "_law_greater" "_law_greater" s__law_greater a__law_greater fd__law_greater
  B__law_greater : Binds K fd__law_greater ["one", "two"] []
  g__law_greater : mg "_law_greater" = some (.ref a__law_greater)
  a__law_bounds : Addr
  fd__law_bounds : FuncData
  F__law_bounds : Fun K "_law_bounds" "_law_bounds" s__law_bounds a__law_bounds fd__law_bounds
  B__law_bounds : Binds K fd__law_bounds ["bag"] []
  g__law_bounds : mg "_law_bounds" = some (.ref a__law_bounds)
  a__law_path : Addr
  fd__law_path : FuncData
  F__law_path : Fun K "_law_path" "_law_path" s__law_path a__law_path fd__law_path
  B__law_path : Binds K fd__law_path ["bag"] []
  g__law_path : mg "_law_path" = some (.ref a__law_path)
  a__law_seen : Addr
  fd__law_seen : FuncData
  F__law_seen : Fun K "_law_seen" "_law_seen" s__law_seen a__law_seen fd__law_seen
  B__law_seen : Binds K fd__law_seen ["finder", "path"] []
  g__law_seen : mg "_law_seen" = some (.ref a__law_seen)
  a__law_aside : Addr
  fd__law_aside : FuncData
  F__law_aside : Fun K "_law_aside" "_law_aside" s__law_aside a__law_aside fd__law_aside
  B__law_aside : Binds K fd__law_aside ["bag", "finder", "path", "seen"] []
  g__law_aside : mg "_law_aside" = some (.ref a__law_aside)
  a__law_answer : Addr
  fd__law_answer : FuncData
  F__law_answer : Fun K "_law_answer" "_law_answer" s__law_answer a__law_answer fd__law_answer
  B__law_answer : Binds K fd__law_answer ["bag", "finder", "path", "aim"] []
  g__law_answer : mg "_law_answer" = some (.ref a__law_answer)
  a__law_step : Addr
  fd__law_step : FuncData
  F__law_step : Fun K "_law_step" "_law_step" s__law_step a__law_step fd__law_step
  B__law_step : Binds K fd__law_step ["bag", "finder", "path"] []
  g__law_step : mg "_law_step" = some (.ref a__law_step)
  a__law_ended : Addr
  fd__law_ended : FuncData
  F__law_ended : Fun K "_law_ended" "_law_ended" s__law_ended a__law_ended fd__law_ended
  B__law_ended : Binds K fd__law_ended ["bag", "finder", "path"] []
  g__law_ended : mg "_law_ended" = some (.ref a__law_ended)
  a_law : Addr
  fd_law : FuncData
  F_law : Fun K "law" "law" s_law a_law fd_law
  B_law : Binds K fd_law ["script"] []
  g_law : mg "law" = some (.ref a_law)
  X_LossError : GCls mg "LossError" c_LossError
  X_InvalidNumber : XCls K mg "InvalidNumber" c_InvalidNumber a_InvalidNumber_init_
  nX_InvalidNumber : PySem.W.findIn K (.ref c_InvalidNumber) "number" = some none
  X_InvalidSetting : XCls K mg "InvalidSetting" c_InvalidSetting a_InvalidSetting_init_
  nX_InvalidSetting : PySem.W.findIn K (.ref c_InvalidSetting) "setting" = some none
  b_abs : mg "abs" = none
  b_all : mg "all" = none
  b_bool : mg "bool" = none
  b_int : mg "int" = none
  b_isinstance : mg "isinstance" = none
  b_len : mg "len" = none
  b_min : mg "min" = none
  b_range : mg "range" = none
  b_sum : mg "sum" = none
  u_MOST_BYTES : Value
  g_MOST_BYTES : mg "MOST_BYTES" = some u_MOST_BYTES
  r_MOST_BYTES : RelV (.int 1400) u_MOST_BYTES
  u_MOST_STRIKES : Value
  g_MOST_STRIKES : mg "MOST_STRIKES" = some u_MOST_STRIKES
  r_MOST_STRIKES : RelV (.int 2) u_MOST_STRIKES

section
variable {P : Program} {w : World} {K : PySem.W.Frag} {mg : Str → Option Value} {base : Heap}
/-! ### kinds of values -/
/-- whether x is an int and no bool, by its kind -/
def IntK (K : PySem.W.Frag) (H : Hp) (x : V) (r : Bool) : Prop := ∃ (t : Value) (i b : Bool), TyX K H x t ∧ PySem.W.kitOne K t (.type "int") = some i ∧ PySem.W.kitOne K t (.type "bool") = some b ∧ r = (i && !b)
theorem intK_int {K : PySem.W.Frag} {H : Hp} (n : Int) : IntK K H (.int n) true := ⟨.type "int", true, false, .base (.int n), kit_ty (by decide +kernel), kit_ty (by decide +kernel), rfl⟩
/-- isinstance(x, int) and not isinstance(x, bool) -/
def sp_is_integer (K : PySem.W.Frag) : Sp := fun vs H Q _ => ∃ (x : V) (r : Bool), vs = [x] ∧ IntK K H x r ∧ Q (.bl r) H
def sp_is_between (K : PySem.W.Frag) : Sp := fun vs H Q _ => ∃ (x : V) (lo hi : Int), vs = [x, .int lo, .int hi] ∧ ((∃ n, x = .int n ∧ Q (.bl (decide (lo ≤ n) && decide (n ≤ hi))) H) ∨ (IntK K H x false ∧ Q (.bl false) H))
theorem ok_is_integer (T : Txt K mg) : FnOk P w K mg base CX0 1 T.a_is_integer T.fd_is_integer ["value"] (sp_is_integer K) := by
  have S := sc_is_integer
  refine T.F_is_integer.ok S (fun vs H Q E h => ?_) (fun cdv A outer s H vs Q E hr h => ?_)
  · obtain ⟨x, r, rfl, _⟩ := h
    rfl
  · obtain ⟨x, r, rfl, ⟨t, i, b, ty, hi, hb, rfl⟩, k⟩ := h
    refine ⟨_, (pss_one (ps_ret (pe_and (pe_callB (id := "isinstance") call_isi (by rfl) T.b_isinstance (by decide +kernel) (pa_cons (pv 0) (pa_cons (pe_bltn (v := .ty "int") (u := .type "int") (by rfl) T.b_int (by decide +kernel) rfl) pa_nil))) (pe_one (pe_not (pe_callB (id := "isinstance") call_isi (by rfl) T.b_isinstance (by decide +kernel) (pa_cons (pv 0) (pa_cons (pe_bltn (v := .ty "bool") (u := .type "bool") (by rfl) T.b_bool (by decide +kernel) rfl) pa_nil)))))))), ?_⟩
    refine ⟨_, rfl, _, _, _, _, i, rfl, .ty _, ty, hi, i, rfl, ?_⟩
    cases i with
    | false => exact iteF k
    | true => exact iteT ⟨_, rfl, _, _, _, _, b, rfl, .ty _, ty, hb, b, rfl, k⟩
theorem ok_is_between (T : Txt K mg) : FnOk P w K mg base CX0 2 T.a_is_between T.fd_is_between ["value", "low", "high"] (sp_is_between K) := by
  have S := sc_is_between
  refine T.F_is_between.ok S (fun vs H Q E h => ?_) (fun cdv A outer s H vs Q E hr h => ?_)
  · obtain ⟨x, lo, hi, rfl, _⟩ := h
    rfl
  · obtain ⟨x, lo, hi, rfl, h⟩ := h
    refine ⟨_, (pss_one (ps_ret (pe_and (pe_call (ok_is_integer T) (hr.mono (by decide)) rfl T.g_is_integer T.F_is_integer.kp T.B_is_integer .nil pass0 (pa_cons (pv 0) pa_nil)) (pe_one (pe_chain op_le op_le (pv 1) (pv 0) (pv 2)))))), ?_⟩
    rcases h with ⟨n, rfl, k⟩ | ⟨hk, k⟩
    · refine ⟨_, rfl, _, true, rfl, intK_int n, true, rfl, iteT ?_⟩
      refine ⟨_, rfl, _, rfl, _, _, rfl, rfl, _, rfl, ?_⟩
      by_cases q : lo ≤ n
      · rw [decide_eq_true q, Bool.true_and] at k
        rw [decide_eq_true q]
        exact iteT ⟨_, rfl, _, _, rfl, rfl, k⟩
      · rw [decide_eq_false q, Bool.false_and] at k
        rw [decide_eq_false q]
        exact iteF k
    · exact ⟨_, rfl, _, false, rfl, hk, false, rfl, iteF k⟩
/-! ### sequences, items by their kinds -/
theorem tyX_same {K : PySem.W.Frag} {H H' : Hp} {x : V} {t : Value} (h : TyX K H x t) (s : Same H H') : TyX K H' x t := by
  cases h with
  | base b =>
    refine .base ?_
    cases b with
    | non => exact .non
    | bl y => exact .bl y
    | int i => exact .int i
    | str y => exact .str y
    | flt y => exact .flt y
    | lst e => exact .lst (s _ _ e)
    | frz e => exact .frz (s _ _ e)
    | tup e => exact .tup (s _ _ e)
    | dK e => exact .dK (s _ _ e)
    | dT e => exact .dT (s _ _ e)
    | ins e cl ha hn ht hm => exact .ins (s _ _ e) cl ha hn ht hm
  | byt b => exact .byt b
  | set e => exact .set (s _ _ e)
  | kList e c => exact .kList e c
  | kTuple e c => exact .kTuple e c
  | kDict e c => exact .kDict e c
  | fTuple e => exact .fTuple (s _ _ e)
  | fDict e => exact .fDict (s _ _ e)
theorem IntK.same {K : PySem.W.Frag} {H H' : Hp} {x : V} {r : Bool} (h : IntK K H x r) (s : Same H H') : IntK K H' x r := by
  obtain ⟨t, i, b, ty, h1, h2, h3⟩ := h
  exact ⟨t, i, b, tyX_same ty s, h1, h2, h3⟩
/-- x is the int n, or no int at all -/
def Kd (K : PySem.W.Frag) (H : Hp) (x : V) : Option Int → Prop
  | some n => x = .int n
  | none => IntK K H x false
theorem Kd.same {K : PySem.W.Frag} {H H' : Hp} {x : V} {o : Option Int} (h : Kd K H x o) (s : Same H H') : Kd K H' x o := by
  cases o with
  | some n => exact h
  | none => exact IntK.same h s
/-- what lies in lo .. hi -/
def inR (lo hi : Int) : Option Int → Bool
  | some n => decide (lo ≤ n) && decide (n ≤ hi)
  | none => false
/-- a list or a tuple -/
def SeqA (K : PySem.W.Frag) (H : Hp) (a : Addr) (xs : List V) : Prop := SqL K H a xs ∨ SqT K H a xs
theorem SeqA.lst {K : PySem.W.Frag} {H : Hp} {a : Addr} {xs : List V} (h : H a = some (.lst xs)) : SeqA K H a xs := .inl (SqL.of h)
theorem SeqA.tup {K : PySem.W.Frag} {H : Hp} {a : Addr} {xs : List V} (h : H a = some (.tup xs)) : SeqA K H a xs := .inr (SqT.of h)
theorem SeqA.sm {K : PySem.W.Frag} {H H' : Hp} {a : Addr} {xs : List V} (h : SeqA K H a xs) (s : Same H H') : SeqA K H' a xs := h.elim (fun h => .inl (s.seq h)) fun h => .inr (sqT_sm h s)
/-- whether x is a sequence, by its kind -/
def SeqK (K : PySem.W.Frag) (H : Hp) (x : V) (r : Bool) : Prop := ∃ t, TyX K H x t ∧ PySem.W.kitAny K t [.type "list", .type "tuple"] = some r
theorem kit2 {K : PySem.W.Frag} {t : Value} {a b : Bool} (h1 : PySem.W.kitOne K t (.type "list") = some a) (h2 : PySem.W.kitOne K t (.type "tuple") = some b) : PySem.W.kitAny K t [.type "list", .type "tuple"] = some (a || b) := by
  unfold PySem.W.kitAny
  rw [h1]
  cases a with
  | true => rfl
  | false =>
    show PySem.W.kitAny K t [.type "tuple"] = some b
    unfold PySem.W.kitAny
    rw [h2]
    cases b <;> rfl
theorem seqK_ty {K : PySem.W.Frag} {H : Hp} {x : V} {n : String} {a b : Bool} (t : TyX K H x (.type n)) (h1 : kitB n "list" = some a) (h2 : kitB n "tuple" = some b) : SeqK K H x (a || b) := ⟨_, t, kit2 (kit_ty h1) (kit_ty h2)⟩
theorem seqK_of {K : PySem.W.Frag} {H : Hp} {a : Addr} {xs : List V} (h : SeqA K H a xs) : SeqK K H (.ref a) true := by
  rcases h with h | h
  · rcases h with (h | ⟨o, h⟩) | ⟨o, its, n, hk, hc, _⟩
    · exact seqK_ty (a := true) (b := false) (.base (.lst h)) (by decide +kernel) (by decide +kernel)
    · exact seqK_ty (a := true) (b := false) (.base (.frz h)) (by decide +kernel) (by decide +kernel)
    · exact seqK_ty (a := true) (b := false) (.kList hk hc) (by decide +kernel) (by decide +kernel)
  · rcases h with (h | ⟨o, h⟩) | ⟨o, its, n, hk, hc, _⟩
    · exact seqK_ty (a := false) (b := true) (.base (.tup h)) (by decide +kernel) (by decide +kernel)
    · exact seqK_ty (a := false) (b := true) (.fTuple h) (by decide +kernel) (by decide +kernel)
    · exact seqK_ty (a := false) (b := true) (.kTuple hk hc) (by decide +kernel) (by decide +kernel)
/-! ### lists stay lists -/
def Typ (H H' : Hp) : Prop := ∀ a o, H a = some o → H' a = some o ∨ ((∃ xs, o = .lst xs) ∧ ∃ ys, H' a = some (.lst ys))
theorem Typ.refl (H : Hp) : Typ H H := fun _ _ h => .inl h
theorem Typ.of {H H' : Hp} (s : Same H H') : Typ H H' := fun _ _ h => .inl (s _ _ h)
theorem Typ.trans {H H1 H2 : Hp} (x : Typ H H1) (y : Typ H1 H2) : Typ H H2 := fun a o h => by
  rcases x a o h with h1 | ⟨hx, ys, h1⟩
  · exact y a o h1
  · rcases y a _ h1 with h2 | ⟨_, zs, h2⟩
    · exact .inr ⟨hx, ys, h2⟩
    · exact .inr ⟨hx, zs, h2⟩
theorem Typ.upd {H : Hp} {a : Addr} {xs ys : List V} (h : H a = some (.lst xs)) : Typ H (L2.upd H a (.lst ys)) := fun b o hb => by
  by_cases q : b = a
  · subst q
    rw [h] at hb
    cases hb
    exact .inr ⟨⟨_, rfl⟩, ys, upd_same⟩
  · exact .inl (by rw [upd_ne q]; exact hb)
theorem Typ.purse {H H' : Hp} {p c : Addr} (P : Purse p c H) (P' : Purse p c H') (s : SameX p H H') : Typ H H' := fun b o hb => by
  by_cases q : b = p
  · subst q
    obtain ⟨⟨xs, h⟩, _⟩ := P.there
    obtain ⟨⟨ys, h'⟩, _⟩ := P'.there
    rw [h] at hb
    cases hb
    exact .inr ⟨⟨_, rfl⟩, ys, h'⟩
  · exact .inl (s b o q hb)
theorem tyX_typ {K : PySem.W.Frag} {H H' : Hp} {x : V} {t : Value} (h : TyX K H x t) (s : Typ H H') : TyX K H' x t := by
  cases h with
  | base b =>
    refine .base ?_
    cases b with
    | non => exact .non
    | bl y => exact .bl y
    | int i => exact .int i
    | str y => exact .str y
    | flt y => exact .flt y
    | lst e => exact (s _ _ e).elim (fun h => .lst h) fun ⟨_, ys, h⟩ => .lst h
    | frz e => exact (s _ _ e).elim (fun h => .frz h) fun ⟨⟨_, z⟩, _⟩ => nomatch z
    | tup e => exact (s _ _ e).elim (fun h => .tup h) fun ⟨⟨_, z⟩, _⟩ => nomatch z
    | dK e => exact (s _ _ e).elim (fun h => .dK h) fun ⟨⟨_, z⟩, _⟩ => nomatch z
    | dT e => exact (s _ _ e).elim (fun h => .dT h) fun ⟨⟨_, z⟩, _⟩ => nomatch z
    | ins e cl ha hn ht hm => exact (s _ _ e).elim (fun h => .ins h cl ha hn ht hm) fun ⟨⟨_, z⟩, _⟩ => nomatch z
  | byt b => exact .byt b
  | set e => exact (s _ _ e).elim (fun h => .set h) fun ⟨⟨_, z⟩, _⟩ => nomatch z
  | kList e c => exact .kList e c
  | kTuple e c => exact .kTuple e c
  | kDict e c => exact .kDict e c
  | fTuple e => exact (s _ _ e).elim (fun h => .fTuple h) fun ⟨⟨_, z⟩, _⟩ => nomatch z
  | fDict e => exact (s _ _ e).elim (fun h => .fDict h) fun ⟨⟨_, z⟩, _⟩ => nomatch z
theorem Kd.typ {K : PySem.W.Frag} {H H' : Hp} {x : V} {o : Option Int} (h : Kd K H x o) (s : Typ H H') : Kd K H' x o := by
  cases o with
  | some n => exact h
  | none =>
    obtain ⟨t, i, b, ty, h1, h2, h3⟩ := (show IntK K H x false from h)
    exact ⟨t, i, b, tyX_typ ty s, h1, h2, h3⟩
theorem intK_no {K : PySem.W.Frag} {H : Hp} {x : V} {n : String} {i b : Bool} (t : TyX K H x (.type n)) (h1 : kitB n "int" = some i) (h2 : kitB n "bool" = some b) (h : (i && !b) = false) : IntK K H x false := ⟨_, i, b, t, kit_ty h1, kit_ty h2, h.symm⟩
theorem ixN_nat {n j : Nat} {z : Int} (e : z = (j : Int)) (h : j < n) : ixN n z = some j := by
  subst e
  unfold ixN
  rw [if_pos (by omega), if_pos (by omega)]
  rfl
/-! ### equality of words -/
theorem dec_int (a b : Int) : decide (V.int a = V.int b) = decide (a = b) := by
  by_cases e : a = b
  · rw [decide_eq_true e, decide_eq_true (congrArg V.int e)]
  · rw [decide_eq_false e, decide_eq_false (fun q => e (V.int.inj q))]
theorem dec_bl (a b : Bool) : decide (V.bl a = V.bl b) = (a == b) := by
  cases a <;> cases b <;> rfl
/-! ### steps: readings by their form -/
section
variable {K : PySem.W.Frag} {σ : L2.St} {H : Hp} {Q : VK} {QL : List V → Hp → Prop} {QB : Bool → Hp → Prop} {QO : Option Int → Hp → Prop} {QS : L2.St → Hp → Prop} {v w : V} {a0 a1 a2 a3 a4 a5 a6 a7 a8 a9 a10 a11 a12 a13 a14 a15 a16 a17 a18 a19 : Option V} {te tb tc : TE} {ta : TA} {t u : TT} {ts us : TS} {D : Ends} {g : TG}
def rTupOf (K : PySem.W.Frag) : List V → Hp → VK → Prop := fun xs H Q => ∃ p ys, xs = [.ref p] ∧ ((SqL K H p ys ∧ ∀ l, H l = none → Q (.ref l) (L2.upd H l (.tup ys))) ∨ SqT K H p ys ∧ Q (.ref p) H)
theorem call_tupK {X : Cx} {K : PySem.W.Frag} (e : X.K = K) : CallR X (.type "tuple") (rTupOf K) := e ▸ call_tuple_of
def rLstOf (K : PySem.W.Frag) : List V → Hp → VK → Prop := fun xs H Q => ∃ p ys, xs = [.ref p] ∧ (SqL K H p ys ∨ SqT K H p ys) ∧ ∀ l, H l = none → Q (.ref l) (L2.upd H l (.lst ys))
theorem call_listK {X : Cx} {K : PySem.W.Frag} (e : X.K = K) : CallR X (.type "list") (rLstOf K) := e ▸ call_list_of
def rLenOf (K : PySem.W.Frag) : List V → Hp → VK → Prop := fun xs H Q => ∃ p ys, xs = [.ref p] ∧ (SqL K H p ys ∨ SqT K H p ys) ∧ Q (.int (ys.length : Int)) H
theorem call_lenK {X : Cx} {K : PySem.W.Frag} (e : X.K = K) : CallR X (.builtin "len") (rLenOf K) := e ▸ call_len_seq
theorem all_cons {α : Type} {p : α → Prop} {a : α} {l : List α} (h : p a) (r : ∀ q ∈ l, p q) : ∀ q ∈ a :: l, p q := fun q hq => by
  rcases List.mem_cons.mp hq with e | e
  · rw [e]; exact h
  · exact r q e
theorem x_v0 (q : Q v H) : tVar 0 (some v :: σ) H Q := ⟨_, rfl, q⟩
theorem x_g0 (q : QS (some v :: σ) H) : gName 0 v (a0 :: σ) H QS := q
theorem x_v1 (q : Q v H) : tVar 1 (a0 :: some v :: σ) H Q := ⟨_, rfl, q⟩
theorem x_g1 (q : QS (a0 :: some v :: σ) H) : gName 1 v (a0 :: a1 :: σ) H QS := q
theorem x_v2 (q : Q v H) : tVar 2 (a0 :: a1 :: some v :: σ) H Q := ⟨_, rfl, q⟩
theorem x_g2 (q : QS (a0 :: a1 :: some v :: σ) H) : gName 2 v (a0 :: a1 :: a2 :: σ) H QS := q
theorem x_v3 (q : Q v H) : tVar 3 (a0 :: a1 :: a2 :: some v :: σ) H Q := ⟨_, rfl, q⟩
theorem x_g3 (q : QS (a0 :: a1 :: a2 :: some v :: σ) H) : gName 3 v (a0 :: a1 :: a2 :: a3 :: σ) H QS := q
theorem x_v4 (q : Q v H) : tVar 4 (a0 :: a1 :: a2 :: a3 :: some v :: σ) H Q := ⟨_, rfl, q⟩
theorem x_g4 (q : QS (a0 :: a1 :: a2 :: a3 :: some v :: σ) H) : gName 4 v (a0 :: a1 :: a2 :: a3 :: a4 :: σ) H QS := q
theorem x_v5 (q : Q v H) : tVar 5 (a0 :: a1 :: a2 :: a3 :: a4 :: some v :: σ) H Q := ⟨_, rfl, q⟩
theorem x_g5 (q : QS (a0 :: a1 :: a2 :: a3 :: a4 :: some v :: σ) H) : gName 5 v (a0 :: a1 :: a2 :: a3 :: a4 :: a5 :: σ) H QS := q
theorem x_v6 (q : Q v H) : tVar 6 (a0 :: a1 :: a2 :: a3 :: a4 :: a5 :: some v :: σ) H Q := ⟨_, rfl, q⟩
theorem x_g6 (q : QS (a0 :: a1 :: a2 :: a3 :: a4 :: a5 :: some v :: σ) H) : gName 6 v (a0 :: a1 :: a2 :: a3 :: a4 :: a5 :: a6 :: σ) H QS := q
theorem x_v7 (q : Q v H) : tVar 7 (a0 :: a1 :: a2 :: a3 :: a4 :: a5 :: a6 :: some v :: σ) H Q := ⟨_, rfl, q⟩
theorem x_g7 (q : QS (a0 :: a1 :: a2 :: a3 :: a4 :: a5 :: a6 :: some v :: σ) H) : gName 7 v (a0 :: a1 :: a2 :: a3 :: a4 :: a5 :: a6 :: a7 :: σ) H QS := q
theorem x_v8 (q : Q v H) : tVar 8 (a0 :: a1 :: a2 :: a3 :: a4 :: a5 :: a6 :: a7 :: some v :: σ) H Q := ⟨_, rfl, q⟩
theorem x_g8 (q : QS (a0 :: a1 :: a2 :: a3 :: a4 :: a5 :: a6 :: a7 :: some v :: σ) H) : gName 8 v (a0 :: a1 :: a2 :: a3 :: a4 :: a5 :: a6 :: a7 :: a8 :: σ) H QS := q
theorem x_v9 (q : Q v H) : tVar 9 (a0 :: a1 :: a2 :: a3 :: a4 :: a5 :: a6 :: a7 :: a8 :: some v :: σ) H Q := ⟨_, rfl, q⟩
theorem x_g9 (q : QS (a0 :: a1 :: a2 :: a3 :: a4 :: a5 :: a6 :: a7 :: a8 :: some v :: σ) H) : gName 9 v (a0 :: a1 :: a2 :: a3 :: a4 :: a5 :: a6 :: a7 :: a8 :: a9 :: σ) H QS := q
theorem x_v10 (q : Q v H) : tVar 10 (a0 :: a1 :: a2 :: a3 :: a4 :: a5 :: a6 :: a7 :: a8 :: a9 :: some v :: σ) H Q := ⟨_, rfl, q⟩
theorem x_g10 (q : QS (a0 :: a1 :: a2 :: a3 :: a4 :: a5 :: a6 :: a7 :: a8 :: a9 :: some v :: σ) H) : gName 10 v (a0 :: a1 :: a2 :: a3 :: a4 :: a5 :: a6 :: a7 :: a8 :: a9 :: a10 :: σ) H QS := q
theorem x_v11 (q : Q v H) : tVar 11 (a0 :: a1 :: a2 :: a3 :: a4 :: a5 :: a6 :: a7 :: a8 :: a9 :: a10 :: some v :: σ) H Q := ⟨_, rfl, q⟩
theorem x_g11 (q : QS (a0 :: a1 :: a2 :: a3 :: a4 :: a5 :: a6 :: a7 :: a8 :: a9 :: a10 :: some v :: σ) H) : gName 11 v (a0 :: a1 :: a2 :: a3 :: a4 :: a5 :: a6 :: a7 :: a8 :: a9 :: a10 :: a11 :: σ) H QS := q
theorem x_v12 (q : Q v H) : tVar 12 (a0 :: a1 :: a2 :: a3 :: a4 :: a5 :: a6 :: a7 :: a8 :: a9 :: a10 :: a11 :: some v :: σ) H Q := ⟨_, rfl, q⟩
theorem x_g12 (q : QS (a0 :: a1 :: a2 :: a3 :: a4 :: a5 :: a6 :: a7 :: a8 :: a9 :: a10 :: a11 :: some v :: σ) H) : gName 12 v (a0 :: a1 :: a2 :: a3 :: a4 :: a5 :: a6 :: a7 :: a8 :: a9 :: a10 :: a11 :: a12 :: σ) H QS := q
theorem x_v13 (q : Q v H) : tVar 13 (a0 :: a1 :: a2 :: a3 :: a4 :: a5 :: a6 :: a7 :: a8 :: a9 :: a10 :: a11 :: a12 :: some v :: σ) H Q := ⟨_, rfl, q⟩
theorem x_g13 (q : QS (a0 :: a1 :: a2 :: a3 :: a4 :: a5 :: a6 :: a7 :: a8 :: a9 :: a10 :: a11 :: a12 :: some v :: σ) H) : gName 13 v (a0 :: a1 :: a2 :: a3 :: a4 :: a5 :: a6 :: a7 :: a8 :: a9 :: a10 :: a11 :: a12 :: a13 :: σ) H QS := q
theorem x_v14 (q : Q v H) : tVar 14 (a0 :: a1 :: a2 :: a3 :: a4 :: a5 :: a6 :: a7 :: a8 :: a9 :: a10 :: a11 :: a12 :: a13 :: some v :: σ) H Q := ⟨_, rfl, q⟩
theorem x_g14 (q : QS (a0 :: a1 :: a2 :: a3 :: a4 :: a5 :: a6 :: a7 :: a8 :: a9 :: a10 :: a11 :: a12 :: a13 :: some v :: σ) H) : gName 14 v (a0 :: a1 :: a2 :: a3 :: a4 :: a5 :: a6 :: a7 :: a8 :: a9 :: a10 :: a11 :: a12 :: a13 :: a14 :: σ) H QS := q
theorem x_v15 (q : Q v H) : tVar 15 (a0 :: a1 :: a2 :: a3 :: a4 :: a5 :: a6 :: a7 :: a8 :: a9 :: a10 :: a11 :: a12 :: a13 :: a14 :: some v :: σ) H Q := ⟨_, rfl, q⟩
theorem x_g15 (q : QS (a0 :: a1 :: a2 :: a3 :: a4 :: a5 :: a6 :: a7 :: a8 :: a9 :: a10 :: a11 :: a12 :: a13 :: a14 :: some v :: σ) H) : gName 15 v (a0 :: a1 :: a2 :: a3 :: a4 :: a5 :: a6 :: a7 :: a8 :: a9 :: a10 :: a11 :: a12 :: a13 :: a14 :: a15 :: σ) H QS := q
theorem x_v16 (q : Q v H) : tVar 16 (a0 :: a1 :: a2 :: a3 :: a4 :: a5 :: a6 :: a7 :: a8 :: a9 :: a10 :: a11 :: a12 :: a13 :: a14 :: a15 :: some v :: σ) H Q := ⟨_, rfl, q⟩
theorem x_g16 (q : QS (a0 :: a1 :: a2 :: a3 :: a4 :: a5 :: a6 :: a7 :: a8 :: a9 :: a10 :: a11 :: a12 :: a13 :: a14 :: a15 :: some v :: σ) H) : gName 16 v (a0 :: a1 :: a2 :: a3 :: a4 :: a5 :: a6 :: a7 :: a8 :: a9 :: a10 :: a11 :: a12 :: a13 :: a14 :: a15 :: a16 :: σ) H QS := q
theorem x_v17 (q : Q v H) : tVar 17 (a0 :: a1 :: a2 :: a3 :: a4 :: a5 :: a6 :: a7 :: a8 :: a9 :: a10 :: a11 :: a12 :: a13 :: a14 :: a15 :: a16 :: some v :: σ) H Q := ⟨_, rfl, q⟩
theorem x_g17 (q : QS (a0 :: a1 :: a2 :: a3 :: a4 :: a5 :: a6 :: a7 :: a8 :: a9 :: a10 :: a11 :: a12 :: a13 :: a14 :: a15 :: a16 :: some v :: σ) H) : gName 17 v (a0 :: a1 :: a2 :: a3 :: a4 :: a5 :: a6 :: a7 :: a8 :: a9 :: a10 :: a11 :: a12 :: a13 :: a14 :: a15 :: a16 :: a17 :: σ) H QS := q
theorem x_v18 (q : Q v H) : tVar 18 (a0 :: a1 :: a2 :: a3 :: a4 :: a5 :: a6 :: a7 :: a8 :: a9 :: a10 :: a11 :: a12 :: a13 :: a14 :: a15 :: a16 :: a17 :: some v :: σ) H Q := ⟨_, rfl, q⟩
theorem x_g18 (q : QS (a0 :: a1 :: a2 :: a3 :: a4 :: a5 :: a6 :: a7 :: a8 :: a9 :: a10 :: a11 :: a12 :: a13 :: a14 :: a15 :: a16 :: a17 :: some v :: σ) H) : gName 18 v (a0 :: a1 :: a2 :: a3 :: a4 :: a5 :: a6 :: a7 :: a8 :: a9 :: a10 :: a11 :: a12 :: a13 :: a14 :: a15 :: a16 :: a17 :: a18 :: σ) H QS := q
theorem x_v19 (q : Q v H) : tVar 19 (a0 :: a1 :: a2 :: a3 :: a4 :: a5 :: a6 :: a7 :: a8 :: a9 :: a10 :: a11 :: a12 :: a13 :: a14 :: a15 :: a16 :: a17 :: a18 :: some v :: σ) H Q := ⟨_, rfl, q⟩
theorem x_g19 (q : QS (a0 :: a1 :: a2 :: a3 :: a4 :: a5 :: a6 :: a7 :: a8 :: a9 :: a10 :: a11 :: a12 :: a13 :: a14 :: a15 :: a16 :: a17 :: a18 :: some v :: σ) H) : gName 19 v (a0 :: a1 :: a2 :: a3 :: a4 :: a5 :: a6 :: a7 :: a8 :: a9 :: a10 :: a11 :: a12 :: a13 :: a14 :: a15 :: a16 :: a17 :: a18 :: a19 :: σ) H QS := q
theorem x_c (q : Q v H) : tC v σ H Q := q
theorem x_op {r : R2} (q : te σ H fun x H1 => tb σ H1 fun y H2 => r x y H2 Q) : tOp r te tb σ H Q := q
theorem x_un {r : V → Hp → VK → Prop} (q : te σ H fun x H1 => r x H1 Q) : tUn r te σ H Q := q
theorem x_test (q : te σ H fun x H1 => ∃ k, x = .bl k ∧ QB k H1) : tTest te σ H QB := q
theorem x_tB (q : te σ H fun x H1 => ∃ k, x = .bl k ∧ QB k H1) : tB te σ H QB := q
theorem x_and (q : t σ H fun c H1 => if c = true then u σ H1 QB else QB false H1) : tAnd t u σ H QB := q
theorem x_or (q : t σ H fun c H1 => if c = true then QB true H1 else u σ H1 QB) : tOr t u σ H QB := q
theorem x_not (q : t σ H fun c H1 => QB (!c) H1) : tNot t σ H QB := q
theorem x_andV (q : te σ H fun x H1 => ∃ c, x = .bl c ∧ if c = true then tb σ H1 Q else Q (.bl false) H1) : tAndV te tb σ H Q := q
theorem x_orV (q : te σ H fun x H1 => ∃ c, x = .bl c ∧ if c = true then Q (.bl true) H1 else tb σ H1 Q) : tOrV te tb σ H Q := q
theorem x_notV (q : te σ H fun x H1 => ∃ c, x = .bl c ∧ Q (.bl (!c)) H1) : tNotV te σ H Q := q
theorem x_if (q : t σ H fun c H1 => if c = true then te σ H1 Q else tb σ H1 Q) : tIf t te tb σ H Q := q
theorem x_ifS (q : t σ H fun b H1 => if b = true then ts D σ H1 else us D σ H1) : tIfS t ts us D σ H := q
theorem x_seq (q : ts ⟨us D, D.rt, D.bk, D.ct⟩ σ H) : tSeq ts us D σ H := q
theorem x_next (q : D.nx σ H) : tNext D σ H := q
theorem x_brk (q : D.bk σ H) : tBreak D σ H := q
theorem x_cont (q : D.ct σ H) : tCont D σ H := q
theorem x_nx {f : L2.St → Hp → Prop} {r : VK} {b c : L2.St → Hp → Prop} (q : f σ H) : Ends.nx ⟨f, r, b, c⟩ σ H := q
theorem x_rt {f : VK} {n b c : L2.St → Hp → Prop} (q : f v H) : Ends.rt ⟨n, f, b, c⟩ v H := q
theorem x_bk {f : L2.St → Hp → Prop} {r : VK} {n c : L2.St → Hp → Prop} (q : f σ H) : Ends.bk ⟨n, r, f, c⟩ σ H := q
theorem x_ct {f : L2.St → Hp → Prop} {r : VK} {n b : L2.St → Hp → Prop} (q : f σ H) : Ends.ct ⟨n, r, b, f⟩ σ H := q
theorem x_drop (q : te σ H fun _ H1 => D.nx σ H1) : tDrop te D σ H := q
theorem x_ret (q : te σ H fun x H1 => D.rt x H1) : tRet te D σ H := q
theorem x_retN (q : D.rt .non H) : tRetN D σ H := q
theorem x_asg (q : te σ H fun x H1 => g x σ H1 D.nx) : tAsg te g D σ H := q
theorem x_nil (q : QL [] H) : tNil σ H QL := q
theorem x_cons (q : te σ H fun x H1 => ta σ H1 fun xs H2 => QL (x :: xs) H2) : tCons te ta σ H QL := q
theorem x_call {sp : Sp} {dvs : List V} {E : XK} (q : ta σ H fun vs H1 => sp (vs ++ dvs) H1 Q E) : tCall sp dvs E ta σ H Q := q
theorem x_cb {r : List V → Hp → VK → Prop} (q : ta σ H fun vs H1 => r vs H1 Q) : tCB r ta σ H Q := q
theorem x_bm {T : String} {r : V → List V → Hp → VK → Prop} (q : te σ H fun x H1 => tyV K T x H1 ∧ ta σ H1 fun xs H2 => r x xs H2 Q) : tBM K T r te ta σ H Q := q
theorem x_sl {r : V → Option Int → Option Int → Hp → VK → Prop} {tl th : TO} (q : te σ H fun x H1 => tl σ H1 fun l H2 => th σ H2 fun u H3 => r x l u H3 Q) : tSl r te tl th σ H Q := q
theorem x_np (q : QO none H) : tNoPart σ H QO := q
theorem x_pt (q : te σ H fun x H1 => ∃ i, x = .int i ∧ QO (some i) H1) : tPart te σ H QO := q
theorem x_exI {P : Int → Prop} {i : Int} (q : P i) : ∃ k, V.int i = V.int k ∧ P k := ⟨_, rfl, q⟩
theorem x_exB {P : Bool → Prop} {b : Bool} (q : P b) : ∃ k, V.bl b = V.bl k ∧ P k := ⟨_, rfl, q⟩
theorem x_I0 {f : Int → Int → V} {i j : Int} (q : Q (f i j) H) : rI0 f (.int i) (.int j) H Q := ⟨_, _, rfl, rfl, q⟩
theorem x_eqI {i j : Int} (q : Q (.bl (decide (i = j))) H) : rEq (.int i) (.int j) H Q := ⟨rfl, by rw [My.dec_int]; exact q⟩
theorem x_neI {i j : Int} (q : Q (.bl (!decide (i = j))) H) : rNe (.int i) (.int j) H Q := ⟨rfl, by rw [My.dec_int]; exact q⟩
theorem x_eqS {i j : Str} (q : Q (.bl (decide (i = j))) H) : rEq (.str i) (.str j) H Q := ⟨rfl, by
  have e : decide (V.str i = V.str j) = decide (i = j) := by
    by_cases h : i = j
    · rw [decide_eq_true h, decide_eq_true (congrArg V.str h)]
    · rw [decide_eq_false h, decide_eq_false (fun z => h (V.str.inj z))]
  rw [e]; exact q⟩
theorem x_neS {i j : Str} (q : Q (.bl (!decide (i = j))) H) : rNe (.str i) (.str j) H Q := ⟨rfl, by
  have e : decide (V.str i = V.str j) = decide (i = j) := by
    by_cases h : i = j
    · rw [decide_eq_true h, decide_eq_true (congrArg V.str h)]
    · rw [decide_eq_false h, decide_eq_false (fun z => h (V.str.inj z))]
  rw [e]; exact q⟩
def brB (b : Bool) (p q : Prop) : Prop := (b = true → p) ∧ (b = false → q)
theorem x_ite {b : Bool} {p q : Prop} (h : brB b p q) : if b = true then p else q := by
  cases b with
  | true => rw [if_pos rfl]; exact h.1 rfl
  | false => rw [if_neg Bool.false_ne_true]; exact h.2 rfl
theorem x_brT {p q : Prop} (h : p) : brB true p q := ⟨fun _ => h, fun z => nomatch z⟩
theorem x_brF {p q : Prop} (h : q) : brB false p q := ⟨fun z => (nomatch z), fun _ => h⟩
theorem x_brN {b : Bool} {p q : Prop} (h : brB b q p) : brB (!b) p q := by
  cases b with
  | true => exact x_brF (h.1 rfl)
  | false => exact x_brT (h.2 rfl)
theorem br2 {b : Bool} {p q : Prop} (h1 : b = true → p) (h2 : b = false → q) : brB b p q := ⟨h1, h2⟩
theorem brD {c : Prop} [Decidable c] {p q : Prop} (h1 : c → p) (h2 : ¬ c → q) : brB (decide c) p q := ⟨fun h => h1 (of_decide_eq_true h), fun h => h2 (of_decide_eq_false h)⟩
theorem brT {b : Bool} {p q : Prop} (e : b = true) (h : p) : brB b p q := ⟨fun _ => h, fun z => by rw [e] at z; cases z⟩
theorem brF {b : Bool} {p q : Prop} (e : b = false) (h : q) : brB b p q := ⟨fun z => (by rw [e] at z; cases z), fun _ => h⟩
theorem brDT {c : Prop} [Decidable c] {p q : Prop} (e : c) (h : p) : brB (decide c) p q := brT (decide_eq_true e) h
theorem brDF {c : Prop} [Decidable c] {p q : Prop} (e : ¬ c) (h : q) : brB (decide c) p q := brF (decide_eq_false e) h
theorem x_ixL {a : Addr} {xs : List V} {i : Int} (h : H a = some (.lst xs)) (hi : atI xs i = some v) (q : Q v H) : rIxL K (.ref a) (.int i) H Q := ⟨_, _, _, _, rfl, rfl, SqL.of h, hi, q⟩
theorem x_ixT {a : Addr} {xs : List V} {i : Int} (h : H a = some (.tup xs)) (hi : atI xs i = some v) (q : Q v H) : rIxT K (.ref a) (.int i) H Q := ⟨_, _, _, _, rfl, rfl, SqT.of h, hi, q⟩
def rNewL (xs : List V) (H : Hp) (Q : VK) : Prop := xs.length ≤ sizeLine ∧ ∀ p, H p = none → Q (.ref p) (L2.upd H p (.lst xs))
def rNewT (xs : List V) (H : Hp) (Q : VK) : Prop := xs.length ≤ sizeLine ∧ ∀ p, H p = none → Q (.ref p) (L2.upd H p (.tup xs))
theorem x_lst (q : ta σ H fun xs H1 => rNewL xs H1 Q) : tLst ta σ H Q := q
theorem x_tup (q : ta σ H fun xs H1 => rNewT xs H1 Q) : tTup ta σ H Q := q
theorem x_new {n : Nat} {P : Prop} (h : n ≤ 100000) (q : P) : n ≤ sizeLine ∧ P := ⟨Nat.le_trans h (by decide), q⟩
theorem x_sFld {f : Str} (q : tb σ H fun y H1 => te σ H1 fun x H2 => ∃ a C dx fs, x = .ref a ∧ H2 a = some (.ins C dx fs) ∧ Cls K C ∧ NoAttr K C f ∧ fs.length < 1000 ∧ D.nx σ (L2.upd H2 a (.ins C dx (putF f y fs)))) : sFld K te tb f D σ H := q
theorem x_fld {f : Str} (q : te σ H fun x H1 => ∃ a C dx fs v, x = .ref a ∧ H1 a = some (.ins C dx fs) ∧ Cls K C ∧ NoAttr K C f ∧ fs.lookup f = some v ∧ Q v H1) : tFld K te f σ H Q := q
/-- a field is stored -/
theorem fstore {f : Str} {y : V} {p C dx : Addr} {fs fs' : List (Str × V)} {P : Hp → Prop} (h : H p = some (.ins C dx fs)) (c : Cls K C) (n : NoAttr K C f) (l : fs.length < 1000) (e : putF f y fs = fs') (q : ∀ H', SameX p H H' → H' p = some (.ins C dx fs') → P H') :
    ∃ a C dx fs, V.ref p = .ref a ∧ H a = some (.ins C dx fs) ∧ Cls K C ∧ NoAttr K C f ∧ fs.length < 1000 ∧ P (L2.upd H a (.ins C dx (putF f y fs))) := ⟨p, C, dx, fs, rfl, h, c, n, l, q _ SameX.upd (by rw [e]; exact upd_same)⟩
/-- a field is read -/
theorem fget {f : Str} {v : V} {p C dx : Addr} {fs : List (Str × V)} {P : V → Prop} (h : H p = some (.ins C dx fs)) (c : Cls K C) (n : NoAttr K C f) (e : fs.lookup f = some v) (q : P v) :
    ∃ a C dx fs v, V.ref p = .ref a ∧ H a = some (.ins C dx fs) ∧ Cls K C ∧ NoAttr K C f ∧ fs.lookup f = some v ∧ P v := ⟨p, C, dx, fs, v, rfl, h, c, n, e, q⟩
/-- tuple(seq) -/
theorem tupleOf {a : Addr} {xs : List V} (h : SeqA K H a xs) (q : ∀ l H', Same H H' → SqT K H' l xs → Q (.ref l) H') :
    rTupOf K [.ref a] H Q :=
  ⟨a, xs, rfl, h.elim (fun h => .inl ⟨h, fun l hl => q l _ (Same.new hl) (SqT.of upd_same)⟩) fun h => .inr ⟨h, q a H (Same.refl H) h⟩⟩
/-- list(seq) -/
theorem listOf {a : Addr} {xs : List V} (h : SeqA K H a xs) (q : ∀ l H', H l = none → Same H H' → H' l = some (.lst xs) → Q (.ref l) H') :
    rLstOf K [.ref a] H Q := ⟨a, xs, rfl, h, fun l hl => q l _ hl (Same.new hl) upd_same⟩
/-- new lists, new tuples, sums of lists, appends, by what stands afterwards -/
theorem newList {xs : List V} (h : xs.length ≤ 100000) (q : ∀ l H', H l = none → Same H H' → H' l = some (.lst xs) → Q (.ref l) H') : rNewL xs H Q := ⟨Nat.le_trans h (by decide), fun l hl => q l _ hl (Same.new hl) upd_same⟩
theorem newTup {xs : List V} (h : xs.length ≤ 100000) (q : ∀ l H', H l = none → Same H H' → H' l = some (.tup xs) → Q (.ref l) H') : rNewT xs H Q := ⟨Nat.le_trans h (by decide), fun l hl => q l _ hl (Same.new hl) upd_same⟩
theorem catList {a b : Addr} {xs zs : List V} (ha : H a = some (.lst xs)) (hb : H b = some (.lst zs)) (h : xs.length + zs.length ≤ 100000) (q : ∀ l H', H l = none → Same H H' → H' l = some (.lst (xs ++ zs)) → Q (.ref l) H') : rCat (.ref a) (.ref b) H Q :=
  ⟨a, b, xs, zs, rfl, rfl, ha, hb, Nat.le_trans h (by decide), fun l hl => q l _ hl (Same.new hl) upd_same⟩
theorem appList {a : Addr} {xs : List V} {y : V} (ha : H a = some (.lst xs)) (h : xs.length < 100000) (q : ∀ H', SameX a H H' → H' a = some (.lst (xs ++ [y])) → Q .non H') : rAppend (.ref a) [y] H Q := ⟨a, xs, y, rfl, rfl, ha, Nat.lt_of_lt_of_le h (by decide), q _ SameX.upd upd_same⟩
theorem isList {a : Addr} {xs : List V} (ha : H a = some (.lst xs)) : tyV K "list" (.ref a) H := .inl ⟨rfl, xs, SqL.of ha⟩
theorem ixL {a : Addr} {xs : List V} {i : Nat} (ha : H a = some (.lst xs)) (hi : xs[i]? = some v) (q : Q v H) : rIxL K (.ref a) (.int (i : Int)) H Q := ⟨a, xs, i, v, rfl, rfl, SqL.of ha, atI_nat hi, q⟩
theorem ixT {a : Addr} {xs : List V} {i : Nat} (ha : SqT K H a xs) (hi : xs[i]? = some v) (q : Q v H) : rIxT K (.ref a) (.int (i : Int)) H Q := ⟨a, xs, i, v, rfl, rfl, ha, atI_nat hi, q⟩
theorem setL {a : Addr} {xs : List V} {i : Nat} {P : Hp → Prop} (ha : H a = some (.lst xs)) (hi : i < xs.length) (q : ∀ H', SameX a H H' → H' a = some (.lst (xs.set i v)) → P H') : rSetL (.ref a) (.int (i : Int)) v H P := ⟨a, xs, i, i, rfl, rfl, ha, ixN_nat rfl hi, q _ SameX.upd upd_same⟩
theorem lenA {a : Addr} {xs : List V} (h : SeqA K H a xs) (q : Q (.int (xs.length : Int)) H) : rLenOf K [.ref a] H Q := ⟨a, xs, rfl, h, q⟩
/-- what a for asks once its turns are known -/
def forK (J : It) (g : TG) (tb : TS) (D : Ends) (σ : L2.St) (H : Hp) : Prop := ∃ W : Nat → Nat → L2.St → Hp → Prop, (∃ m, W 0 m σ H) ∧ ∀ i m σ H, W i m σ H →
  (J.stop i H ∧ D.nx σ H) ∨ (J.go i H ∧ ∃ N : L2.St → Hp → Prop, (∀ σ' H', N σ' H' → ∃ m', m' < m ∧ W (i + 1) m' σ' H') ∧ ∀ x H', J.yld i H x H' → g x σ H' fun σ2 H2 => tb { D with nx := N, ct := N, bk := D.nx } σ2 H2)
def forI (g : TG) (tb : TS) (D : Ends) (σ : L2.St) (n : Int) (H : Hp) : Prop := ∃ j : Int, [V.int n] = [.int j] ∧ -(2 ^ 62) ≤ j ∧ j < 2 ^ 62 ∧ forK (Itr 0 j.toNat) g tb D σ H
theorem x_for1 (q : ta σ H fun vs H1 => ∃ j : Int, vs = [.int j] ∧ -(2 ^ 62) ≤ j ∧ j < 2 ^ 62 ∧ forK (Itr 0 j.toNat) g ts D σ H1) : tFor (iRng1 ta) g ts D σ H := q
theorem x_forL (q : te σ H fun x H1 => ∃ a, x = .ref a ∧ (∃ xs, SqL K H1 a xs) ∧ forK (Itl K a) g ts D σ H1) : tFor (iList K te) g ts D σ H := q
theorem x_forT (q : te σ H fun x H1 => ∃ a, x = .ref a ∧ (∃ xs, SqT K H1 a xs) ∧ forK (Itt K a) g ts D σ H1) : tFor (iTup K te) g ts D σ H := q
theorem rng1 {n : Int} (h0 : -100000 ≤ n) (h1 : n ≤ 100000) (q : forK (Itr 0 n.toNat) g ts D σ H) : ∃ j : Int, [V.int n] = [.int j] ∧ -(2 ^ 62) ≤ j ∧ j < 2 ^ 62 ∧ forK (Itr 0 j.toNat) g ts D σ H := ⟨n, rfl, by omega, by omega, q⟩
theorem overL {a : Addr} {xs : List V} (h : SqL K H a xs) (q : forK (Itl K a) g ts D σ H) : ∃ b, V.ref a = .ref b ∧ (∃ xs, SqL K H b xs) ∧ forK (Itl K b) g ts D σ H := ⟨a, rfl, ⟨_, h⟩, q⟩
theorem overT {a : Addr} {xs : List V} (h : SqT K H a xs) (q : forK (Itt K a) g ts D σ H) : ∃ b, V.ref a = .ref b ∧ (∃ xs, SqT K H b xs) ∧ forK (Itt K b) g ts D σ H := ⟨a, rfl, ⟨_, h⟩, q⟩
end
/-! ### steps: more readings by their form -/
theorem pe_fldK {X : Cx} {K : PySem.W.Frag} {e : Expr} {f : Str} {pos : Pos} {ta : TE} (eK : X.K = K) (he : PE X e ta) (hb : attributeBase e f X.env (eval e X.env) = eval e X.env) : PE X (.Attribute e f pos) (tFld K ta f) := eK ▸ pe_fld he hb
section
variable {K : PySem.W.Frag} {σ : L2.St} {H : Hp} {Q : VK} {QS : L2.St → Hp → Prop} {v : V} {te tb ti : TE} {tt : TT} {D : Ends}
theorem x_gsub {to ti : TE} {t : TSet} (q : to σ H fun o H1 => ti σ H1 fun i H2 => t o i v H2 fun H3 => QS σ H3) : gSub to ti t v σ H QS := q
theorem x_int1 {P : Int → Prop} {R : Prop} {i : Int} (q : P i) : (∃ k, [V.int i] = [V.int k] ∧ P k) ∨ R := .inl ⟨i, rfl, q⟩
theorem x_exL {P : Int → Prop} {i : Int} (q : P i) : ∃ k, [V.int i] = [V.int k] ∧ P k := ⟨i, rfl, q⟩
theorem min_if (i j : Int) : (if j < i then j else i) = min i j := by rw [Int.min_def]; split <;> split <;> omega
theorem max_if (i j : Int) : (if j > i then j else i) = max i j := by rw [Int.max_def]; split <;> split <;> omega
def rMin2 : List V → Hp → VK → Prop := fun xs H Q => ∃ i j, xs = [.int i, .int j] ∧ Q (.int (min i j)) H
def rMax2 : List V → Hp → VK → Prop := fun xs H Q => ∃ i j, xs = [.int i, .int j] ∧ Q (.int (max i j)) H
def ab (x : Int) : Int := if x < 0 then -x else x
def rAbs : List V → Hp → VK → Prop := fun xs H Q => ∃ i, xs = [.int i] ∧ Q (.int (ab i)) H
theorem call_min2K {X : Cx} (hc : X.calm = true) : CallR X (.builtin "min") rMin2 := by
  intro pins s σ H xs us Q I r h
  obtain ⟨i, j, e, q⟩ := h
  exact call_min2 hc pins s σ H xs us Q I r ⟨i, j, e, by rw [min_if]; exact q⟩
theorem call_max2K {X : Cx} (hc : X.calm = true) : CallR X (.builtin "max") rMax2 := by
  intro pins s σ H xs us Q I r h
  obtain ⟨i, j, e, q⟩ := h
  exact call_max2 hc pins s σ H xs us Q I r ⟨i, j, e, by rw [max_if]; exact q⟩
theorem call_absK {X : Cx} : CallR X (.builtin "abs") rAbs := call_abs
theorem x_min2 {i j : Int} (q : Q (.int (min i j)) H) : rMin2 [.int i, .int j] H Q := ⟨i, j, rfl, q⟩
theorem x_max2 {i j : Int} (q : Q (.int (max i j)) H) : rMax2 [.int i, .int j] H Q := ⟨i, j, rfl, q⟩
theorem x_abs {i : Int} (q : Q (.int (ab i)) H) : rAbs [.int i] H Q := ⟨i, rfl, q⟩
theorem x_brTT {p q : Prop} (h : p) : brB (true && true) p q := x_brT h
theorem x_mod {i j : Int} (h : 0 < j) (q : Q (.int (i % j)) H) : rI (fun _ j => 0 < j) (fun i j => .int (i % j)) (.int i) (.int j) H Q := ⟨i, j, rfl, rfl, h, q⟩
theorem x_mulR {i j : Int} (h : -(2 ^ 64) < j ∧ j < 2 ^ 64) (q : Q (.int (i * j)) H) : rI CMul (fun i j => .int (i * j)) (.int i) (.int j) H Q := ⟨i, j, rfl, rfl, .inr h, q⟩
theorem x_mulL {i j : Int} (h : -(2 ^ 64) < i ∧ i < 2 ^ 64) (q : Q (.int (i * j)) H) : rI CMul (fun i j => .int (i * j)) (.int i) (.int j) H Q := ⟨i, j, rfl, rfl, .inl h, q⟩
theorem x_div {i j : Int} (h : 0 < j ∧ j < 1073741824) (q : Q (.int (i / j)) H) : rI CDiv (fun i j => .int (i / j)) (.int i) (.int j) H Q := ⟨i, j, rfl, rfl, h, q⟩
theorem x_divW {i j : Int} (h0 : 0 < j) (h : j < 2 ^ 62) (q : Q (.int (i / j)) H) : rI CDivW (fun i j => .int (i / j)) (.int i) (.int j) H Q := ⟨i, j, rfl, rfl, ⟨h0, Nat.lt_trans (PySem.Flt.log2_lt_of (k := 62) (by decide) (by omega)) (by decide)⟩, q⟩
theorem x_pow {i j : Int} (h : 0 ≤ j ∧ j ≤ 1000000 ∧ i.natAbs < 2 ^ 64) (q : Q (.int (i ^ j.toNat)) H) : rI CPow (fun i j => .int (i ^ j.toNat)) (.int i) (.int j) H Q := ⟨i, j, rfl, rfl, h, q⟩
theorem x_nN {P : Prop} (q : P) : V.non = V.non ∧ P := ⟨rfl, q⟩
theorem x_chain {r r' : R2} {tc : TE} (q : te σ H fun x H1 => tb σ H1 fun y H2 => r x y H2 fun z H3 => ∃ k, z = .bl k ∧ brB k (tc σ H3 fun w' H4 => r' y w' H4 Q) (Q (.bl false) H3)) : tChain r r' te tb tc σ H Q := by
  refine cast (congrArg (fun z => te σ H z) ?_) q
  funext x H1
  refine congrArg (fun z => tb σ H1 z) ?_
  funext y H2
  refine congrArg (fun z => r x y H2 z) ?_
  funext z H3
  refine congrArg Exists ?_
  funext k
  refine congrArg (fun p => z = .bl k ∧ p) ?_
  exact propext ⟨fun h => x_ite h, fun h => by cases k with
    | true => exact x_brT (by rw [if_pos rfl] at h; exact h)
    | false => exact x_brF (by rw [if_neg Bool.false_ne_true] at h; exact h)⟩
theorem x_meth {C : Addr} {m : Str} {sp : Sp} {dvs : List V} {E : XK} {ta : TE} {t : TA} (q : ta σ H fun x H1 => ∃ a dx fs, x = .ref a ∧ H1 a = some (.ins C dx fs) ∧ fs.lookup m = none ∧ t σ H1 fun vs H2 => sp (x :: (vs ++ dvs)) H2 Q E) : tMeth C m sp dvs E ta t σ H Q := q
theorem x_prop {C : Addr} {sp : Sp} {dvs : List V} {E : XK} {ta : TE} (q : ta σ H fun x H1 => ∃ a dx fs, x = .ref a ∧ H1 a = some (.ins C dx fs) ∧ sp (.ref a :: dvs) H1 Q E) : tProp C sp dvs E ta σ H Q := q
theorem x_make {C : Addr} {sp : Sp} {dvs : List V} {E : XK} {t : TA} (q : t σ H fun vs H1 => ∀ x dx, H1 x = none → H1 dx = none → dx ≠ x → sp (.ref x :: (vs ++ dvs)) (upd (upd H1 dx (.own x)) x (.ins C dx [])) (fun v H2 => v = .non ∧ Q (.ref x) H2) E) : tMake C sp dvs E t σ H Q := q
theorem x_fldaug {rd : V → V → Hp → VK → Prop} {f : Str} (q : te σ H fun x H1 => ∃ a C dx fs v, x = .ref a ∧ H1 a = some (.ins C dx fs) ∧ Cls K C ∧ NoAttr K C f ∧ fs.lookup f = some v ∧ tb σ H1 fun y H2 => rd v y H2 fun z H3 => ∃ dx' fs', H3 a = some (.ins C dx' fs') ∧ fs'.length < 1000 ∧ D.nx σ (L2.upd H3 a (.ins C dx' (putF f z fs')))) : sFldAug K te tb rd f D σ H := q
theorem x_rAdd {i j : Int} (q : Q (.int (i + j)) H) : rAdd (.int i) (.int j) H Q := ⟨i, j, rfl, rfl, q⟩
theorem x_ipI {f : Int → Int → Int} {i j : Int} (q : Q (.int (f i j)) H) : ipI f (.int i) (.int j) H Q := ⟨i, j, rfl, rfl, q⟩
theorem x_rSub {i j : Int} (q : Q (.int (i - j)) H) : rSub (.int i) (.int j) H Q := ⟨i, j, rfl, rfl, q⟩
theorem rngF {n : Int} {g : TG} {ts : TS} (h0 : -100000 ≤ n) (h1 : n ≤ 100000) (q : forK (Itr 0 n.toNat) g ts D σ H) : -(2 ^ 62) ≤ n ∧ n < 2 ^ 62 ∧ forK (Itr 0 n.toNat) g ts D σ H := ⟨by omega, by omega, q⟩
/-- a field is raised -/
theorem fraise {f : Str} {p C dx : Addr} {fs : List (Str × V)} {P : Hp → Prop} {T : V → V → Hp → VK → Prop} {tv : TE} {σ : L2.St} (h : H p = some (.ins C dx fs)) (c : Cls K C) (n : NoAttr K C f) (l : fs.length < 1000) (e : fs.lookup f = some v)
    (q : tv σ H fun y H2 => T v y H2 fun z H3 => ∃ dx' fs', H3 p = some (.ins C dx' fs') ∧ fs'.length < 1000 ∧ P (L2.upd H3 p (.ins C dx' (putF f z fs')))) :
    ∃ a C dx fs v, V.ref p = .ref a ∧ H a = some (.ins C dx fs) ∧ Cls K C ∧ NoAttr K C f ∧ fs.lookup f = some v ∧ tv σ H fun y H2 => T v y H2 fun z H3 => ∃ dx' fs', H3 a = some (.ins C dx' fs') ∧ fs'.length < 1000 ∧ P (L2.upd H3 a (.ins C dx' (putF f z fs'))) := ⟨p, C, dx, fs, v, rfl, h, c, n, e, q⟩
theorem fput {f : Str} {z : V} {p C dx : Addr} {fs fs' : List (Str × V)} {P : Hp → Prop} (h : H p = some (.ins C dx fs)) (l : fs.length < 1000) (e : putF f z fs = fs') (q : ∀ H', SameX p H H' → H' p = some (.ins C dx fs') → P H') :
    ∃ dx' fs', H p = some (.ins C dx' fs') ∧ fs'.length < 1000 ∧ P (L2.upd H p (.ins C dx' (putF f z fs'))) := ⟨dx, fs, h, l, q _ SameX.upd (by rw [e]; exact upd_same)⟩
end
/-! ### o[i] op= e, o a list -/
theorem pget_list {X : Cx} : PGet X (rIxL X.K) := by
  intro pins s σ H o i ov iv Q I ro ri h
  obtain ⟨p, xs, k, z, rfl, rfl, hq, he, q⟩ := h
  cases ro
  obtain ⟨t, rfl⟩ := ri
  obtain ⟨its, r, pl, hz⟩ := I.list hq
  obtain ⟨j, h1, h2, h3, h4, h5⟩ := atI_get he
  obtain ⟨w, ew, rw'⟩ := r.get h2
  have hl := r.length
  have hn := line63
  have fin : EP X pins σ Q w s := ⟨z, H, I, rw', q⟩
  by_cases h0 : 0 ≤ k
  · have hj : k.toNat = j := by
      rw [seqIndex_of h0 h5] at h1
      exact Option.some.inj h1
    exact wpAny_getItem_list pl.isList h0 (by omega) (by rw [hj]; simpa using ew) fin
  · have hj : (k + (its.toArray.size : Int)).toNat = j := by
      rw [seqIndex_neg (by omega) h4] at h1
      rw [List.size_toArray, ← hl]
      exact Option.some.inj h1
    exact wpAny_getItem_list_neg pl.isList (by omega) (by rw [List.size_toArray] <;> omega) (by omega) (by rw [hj]; simpa using ew) fin
theorem x_augS {to ti te : TE} {tget : V → V → Hp → VK → Prop} {tip : TIp} {tset : TSet} {D : Ends} {σ : L2.St} {H : Hp} (q : to σ H fun o H1 => ti σ H1 fun i H2 => tget o i H2 fun x H3 => te σ H3 fun y H4 => tip x y H4 fun z H5 => tset o i z H5 fun H6 => D.nx σ H6) : tAugS to ti te tget tip tset D σ H := q
theorem x_negU {i : Int} {H : Hp} {Q : VK} (q : Q (.int (-i)) H) : rU (fun i => .int (-i)) (.int i) H Q := ⟨i, rfl, q⟩
/-- for_range, by its name -/
theorem for_rangeK {lo : Int} {n : Nat} {g : TG} {ts : TS} {D : Ends} {σ : L2.St} {H : Hp} (Pv : Nat → L2.St → Hp → Prop) (h0 : Pv 0 σ H)
    (hs : ∀ i σ H, i < n → Pv i σ H → g (.int (lo + i)) σ H fun σ2 H2 => ts { D with nx := Pv (i + 1), ct := Pv (i + 1), bk := D.nx } σ2 H2) (hd : ∀ σ H, Pv n σ H → D.nx σ H) : forK (Itr lo n) g ts D σ H := for_range Pv h0 hs hd
local macro_rules
  | `(tactic| w_up) => `(tactic| with_reducible first
    | refine x_seq ?_ | refine x_asg ?_ | refine x_op ?_ | refine x_c ?_
    | refine x_v0 ?_ | refine x_v1 ?_ | refine x_v2 ?_ | refine x_v3 ?_ | refine x_v4 ?_ | refine x_v5 ?_ | refine x_v6 ?_ | refine x_v7 ?_ | refine x_v8 ?_ | refine x_v9 ?_ | refine x_v10 ?_ | refine x_v11 ?_ | refine x_v12 ?_ | refine x_v13 ?_ | refine x_v14 ?_ | refine x_v15 ?_ | refine x_v16 ?_ | refine x_v17 ?_ | refine x_v18 ?_ | refine x_v19 ?_
    | refine x_g0 ?_ | refine x_g1 ?_ | refine x_g2 ?_ | refine x_g3 ?_ | refine x_g4 ?_ | refine x_g5 ?_ | refine x_g6 ?_ | refine x_g7 ?_ | refine x_g8 ?_ | refine x_g9 ?_ | refine x_g10 ?_ | refine x_g11 ?_ | refine x_g12 ?_ | refine x_g13 ?_ | refine x_g14 ?_ | refine x_g15 ?_ | refine x_g16 ?_ | refine x_g17 ?_ | refine x_g18 ?_ | refine x_g19 ?_
    | refine x_cons ?_ | refine x_nil ?_ | refine x_I0 ?_ | refine x_exI ?_ | refine x_exB ?_ | refine x_eqI ?_ | refine x_neI ?_ | refine x_eqS ?_ | refine x_neS ?_
    | refine x_test ?_ | refine x_tB ?_ | refine x_ifS ?_ | refine x_if ?_ | refine x_and ?_ | refine x_or ?_ | refine x_not ?_ | refine x_andV ?_ | refine x_orV ?_ | refine x_notV ?_
    | refine x_ite ?_ | refine x_brT ?_ | refine x_brF ?_ | refine x_brN ?_
    | refine x_call ?_ | refine x_for1 ?_ | refine x_forL ?_ | refine x_forT ?_ | refine x_sFld ?_ | refine x_fld ?_ | refine x_cb ?_ | refine x_bm ?_ | refine x_un ?_ | refine x_sl ?_ | refine x_np ?_ | refine x_pt ?_
    | refine x_next ?_ | refine x_ret ?_ | refine x_retN ?_ | refine x_drop ?_ | refine x_brk ?_ | refine x_cont ?_ | refine x_lst ?_ | refine x_tup ?_ | dsimp only | dsimp only [List.set_cons_succ, List.set_cons_zero])
local macro_rules
  | `(tactic| o_args) => `(tactic| repeat w_up)
local macro_rules
  | `(tactic| w_up) => `(tactic| first
    | with_reducible refine x_augS ?_ | with_reducible refine x_negU ?_ | with_reducible refine x_gsub ?_ | with_reducible refine x_int1 ?_ | with_reducible refine x_exL ?_ | with_reducible refine x_min2 ?_ | with_reducible refine x_max2 ?_ | with_reducible refine x_abs ?_ | with_reducible refine x_brTT ?_
    | with_reducible refine x_mod (by decide) ?_ | with_reducible refine x_mulR ⟨by decide, by decide⟩ ?_ | with_reducible refine x_mulL ⟨by decide, by decide⟩ ?_ | with_reducible refine x_div ⟨by decide, by decide⟩ ?_
    | with_reducible refine x_pow ⟨by decide, by decide, by decide⟩ ?_
    | with_reducible refine x_nN ?_ | with_reducible refine x_chain ?_ | with_reducible refine x_meth ?_ | with_reducible refine x_prop ?_ | with_reducible refine x_make ?_ | with_reducible refine x_fldaug ?_ | with_reducible refine x_ipI ?_ | with_reducible refine x_rAdd ?_ | with_reducible refine x_rSub ?_
    | with_reducible refine brDT (by decide) ?_ | with_reducible refine brDF (by decide) ?_
    | with_reducible refine x_ixT (by assumption) (by with_unfolding_all exact rfl) ?_
    | with_reducible refine x_ixL (by assumption) (by with_unfolding_all exact rfl) ?_)
/-! ### general words -/
theorem Same.ofX {D : Addr} {H H' : Hp} (hD : H D = none) (s : SameX D H H') : Same H H' := fun b o e => s b o (ne_of_none e hD) e
theorem getq_lt {α : Type} {xs : List α} {i : Nat} {x : α} (h : xs[i]? = some x) : i < xs.length := (List.getElem?_eq_some_iff.mp h).1
theorem getq_app {α : Type} {vs : List α} {v w : α} {k : Nat} (h : (vs ++ [v])[k]? = some w) : (k < vs.length ∧ vs[k]? = some w) ∨ (k = vs.length ∧ w = v) := by
  have hk := getq_lt h
  rw [List.length_append] at hk
  have hk : k < vs.length + 1 := hk
  by_cases q : k < vs.length
  · rw [List.getElem?_append_left q] at h
    exact .inl ⟨q, h⟩
  · have e : k = vs.length := by omega
    subst e
    rw [List.getElem?_append_right (Nat.le_refl _), Nat.sub_self] at h
    exact .inr ⟨rfl, (Option.some.inj h).symm⟩
theorem none_back {p l : Addr} {H H' : Hp} (s : SameX p H H') (n : l ≠ p) (h : H' l = none) : H l = none := by
  cases q : H l with
  | none => rfl
  | some o => rw [s _ _ n q] at h; cases h
theorem none_of {H H' : Hp} {l : Addr} (s : Same H H') (h : H' l = none) : H l = none := by
  cases q : H l with
  | none => rfl
  | some o => rw [s _ _ q] at h; cases h
/-- only lists change -/
def LS (H H' : Hp) : Prop := ∀ a o, (∀ xs, o ≠ .lst xs) → H a = some o → H' a = some o
theorem LS.refl (H : Hp) : LS H H := fun _ _ _ h => h
theorem LS.trans {H H1 H2 : Hp} (x : LS H H1) (y : LS H1 H2) : LS H H2 := fun a o n h => y a o n (x a o n h)
theorem LS.of {H H' : Hp} (s : Same H H') : LS H H' := fun a o _ h => s a o h
theorem LS.ofX {H H' : Hp} {p : Addr} {xs : List V} (hp : H p = some (.lst xs)) (s : SameX p H H') : LS H H' := fun a o n h => s a o (fun e => by subst e; rw [hp] at h; cases h; exact n _ rfl) h
theorem LS.sqT {K : PySem.W.Frag} {H H' : Hp} {a : Addr} {xs : List V} (s : LS H H') (h : SqT K H a xs) : SqT K H' a xs := by
  rcases h with (h | ⟨o, h⟩) | h
  · exact .inl (.inl (s _ _ (fun _ z => nomatch z) h))
  · exact .inl (.inr ⟨o, s _ _ (fun _ z => nomatch z) h⟩)
  · exact .inr h
theorem sliceL {K : PySem.W.Frag} {H : Hp} {Q : VK} {a : Addr} {xs : List V} {lo hi : Option Int} (h : SqL K H a xs) (q : ∀ l H', H l = none → Same H H' → H' l = some (.lst (cutV xs lo hi)) → Q (.ref l) H') : rSlL K (.ref a) lo hi H Q := ⟨a, xs, rfl, h, fun l hl => q l _ hl (Same.new hl) upd_same⟩
theorem cut_to (xs : List V) (i : Nat) : cutV xs none (some (i : Int)) = xs.take i := by
  have e1 : HT.sIx xs.length 0 none = 0 := rfl
  have e2 : HT.sIx xs.length xs.length (some (i : Int)) = min i xs.length := by
    unfold HT.sIx
    simp
    intro h
    omega
  unfold cutV
  rw [e1, e2, List.drop_zero, Nat.sub_zero, List.take_eq_take_iff]
  omega
theorem cut_from (xs : List V) (i : Nat) : cutV xs (some (i : Int)) none = xs.drop i := by
  have e1 : HT.sIx xs.length xs.length none = xs.length := rfl
  have e2 : HT.sIx xs.length 0 (some (i : Int)) = min i xs.length := HT.sIx_nat _ _ _
  unfold cutV
  rw [e1, e2]
  by_cases h : i ≤ xs.length
  · rw [Nat.min_eq_left h, List.take_of_length_le (by rw [List.length_drop]; exact Nat.le_refl _)]
  · rw [Nat.min_eq_right (by omega), Nat.sub_self, List.take_zero, List.drop_of_length_le (by omega)]
theorem dp_ints {K : PySem.W.Frag} {H : Hp} : ∀ ns : List Int, DpAll K H (ns.map V.int) (ns.map PyData.int)
  | [] => .nil
  | n :: r => .cons (.int n) (dp_ints r)
theorem lay_all : ∀ ns : List Int, PyData.canLayAll0 (ns.map PyData.int) = true ∧ PyData.depthAll (ns.map PyData.int) = 0
  | [] => ⟨by simp only [List.map_nil, PyData.canLayAll0], by simp only [List.map_nil, PyData.depthAll]⟩
  | n :: r => by
    obtain ⟨h1, h2⟩ := lay_all r
    exact ⟨by simp only [List.map_cons, PyData.canLayAll0, PyData.canLay0, h1, Bool.and_self], by simp only [List.map_cons, PyData.depthAll, PyData.depth, h2, Nat.max_self]⟩
theorem lay_ints (ns : List Int) : PySem.SeqAt.shaped (.list (ns.map PyData.int)) = true := by
  obtain ⟨h1, h2⟩ := lay_all ns
  unfold PySem.SeqAt.shaped
  simp only [PyData.canLay0, PyData.depth, h1, h2]
  decide
theorem eqv_all : ∀ xs ys : List Int, PyData.eqvAll (xs.map PyData.int) (ys.map PyData.int) = decide (xs = ys)
  | [], [] => by simp [PyData.eqvAll]
  | [], y :: ys => by simp [PyData.eqvAll]
  | x :: xs, [] => by simp [PyData.eqvAll]
  | x :: xs, y :: ys => by
    have e := eqv_all xs ys
    simp only [List.map_cons, PyData.eqvAll, e, PyData.eqv]
    by_cases h : x = y <;> by_cases g : xs = ys <;> simp [h, g]
theorem eqv_ints (xs ys : List Int) : PyData.eqv (.list (xs.map PyData.int)) (.list (ys.map PyData.int)) = decide (xs = ys) := by
  simp only [PyData.eqv]
  exact eqv_all xs ys
/-- two lists of ints compared -/
theorem eqLL {K : PySem.W.Frag} {H : Hp} {Q : VK} {a b : Addr} {xs ys : List Int} (ha : SqL K H a (xs.map V.int)) (hb : SqL K H b (ys.map V.int)) (q : Q (.bl (decide (xs = ys))) H) : rEqD K (.ref a) (.ref b) H Q :=
  ⟨_, _, .lst ha (dp_ints xs), .lst hb (dp_ints ys), lay_ints xs, lay_ints ys, by rw [eqv_ints]; exact q⟩
theorem neLL {K : PySem.W.Frag} {H : Hp} {Q : VK} {a b : Addr} {xs ys : List Int} (ha : SqL K H a (xs.map V.int)) (hb : SqL K H b (ys.map V.int)) (q : Q (.bl (!decide (xs = ys))) H) : rNeD K (.ref a) (.ref b) H Q :=
  ⟨_, _, .lst ha (dp_ints xs), .lst hb (dp_ints ys), lay_ints xs, lay_ints ys, by rw [eqv_ints]; exact q⟩
/-- a comprehension over a list of ints, filtered, its items ints -/
theorem lc_ints {K : PySem.W.Frag} {a : Addr} {ns : List Int} {te tel : TE} {tt : TT} {σ : L2.St} {H : Hp} {Q : VK} {j : Nat} (p : Int → Bool) (f : Int → Int) (hte : ∀ R' : VK, R' (.ref a) H → te σ H R') (hS : SqL K H a (ns.map V.int)) (hz : ns.length < 100000)
    (ht : ∀ x ∈ ns, ∀ H', Same H H' → ∀ Qt : Bool → Hp → Prop, Qt (p x) H' → tt ((σ.set j none).set j (some (.int x))) H' Qt)
    (he : ∀ x ∈ ns, p x = true → ∀ H', Same H H' → ∀ Qe : VK, Qe (.int (f x)) H' → tel ((σ.set j none).set j (some (.int x))) H' Qe)
    (hd : ∀ D H', H D = none → Same H H' → H' D = some (.lst (((ns.filter p).map f).map V.int)) → Q (.ref D) H') : tLc (iList K te) (gName j) tt tel [j] σ H Q := by
  refine hte _ ⟨a, rfl, ⟨_, hS⟩, fun D hD => lc_list (K := K) (a := a) (xs := ns.map V.int) (fun i H' => H' D = some (.lst ((((ns.take i).filter p).map f).map V.int)) ∧ SameX D H H') ⟨upd_same, SameX.upd⟩ (fun i H' _ h => (Same.ofX hD h.2).seq hS) ?_ ?_⟩
  · rintro i x H' hi ⟨h1, h2⟩
    rw [List.getElem?_map] at hi
    cases e : ns[i]? with
    | none => rw [e] at hi; cases hi
    | some u =>
      rw [e] at hi
      cases hi
      have hil := getq_lt e
      have mem : u ∈ ns := List.mem_of_getElem? e
      refine ⟨?_, ?_⟩
      · show ((((σ.set j none).set j (some (.int u))).set j none) = σ.set j none)
        rw [List.set_set, List.set_set]
      have e2 : ns.take (i + 1) = ns.take i ++ [u] := by
        rw [List.take_succ, e]
        rfl
      refine ht u mem H' (Same.ofX hD h2) _ ?_
      cases hp : p u with
      | false =>
        rw [if_neg Bool.false_ne_true]
        refine ⟨?_, h2⟩
        rw [e2, List.filter_append]
        simp only [List.filter, hp, List.append_nil]
        exact h1
      | true =>
        rw [if_pos rfl]
        refine he u mem hp H' (Same.ofX hD h2) _ ⟨_, h1, ?_, ?_, h2.upd'⟩
        · rw [List.length_map, List.length_map]
          have := List.length_filter_le p (ns.take i)
          rw [List.length_take] at this
          exact Nat.lt_of_lt_of_le (show _ < 100000 by omega) (by decide)
        · rw [e2, List.filter_append]
          simp only [List.filter, hp, List.map_append, List.map_cons, List.map_nil]
          exact upd_same
  · rintro H' ⟨h1, h2⟩
    rw [List.length_map, List.take_length] at h1
    exact hd D H' hD (Same.ofX hD h2) h1
/-- a comprehension over a list, its items new -/
theorem lc_lstN {K : PySem.W.Frag} {a : Addr} {xs : List V} {te tel : TE} {σ : L2.St} {H : Hp} {Q : VK} {j : Nat} (P : Nat → List V → Hp → Prop) (hte : ∀ R' : VK, R' (.ref a) H → te σ H R') (hS : SqL K H a xs) (hz : xs.length < 100000) (h0 : ∀ H', Same H H' → P 0 [] H')
    (hm : ∀ i vs H1 H2, Same H1 H2 → P i vs H1 → P i vs H2) (hw : ∀ D H1 H2 i vs, H D = none → SameX D H1 H2 → Same H H1 → (∃ acc, H1 D = some (.lst acc)) → P i vs H1 → P i vs H2)
    (hs : ∀ D i x vs H', xs[i]? = some x → Same H H' → P i vs H' → vs.length = i → H D = none → (∃ o, H' D = some o) → ∀ Qe : VK, (∀ v H'', Same H' H'' → P (i + 1) (vs ++ [v]) H'' → Qe v H'') → tel ((σ.set j none).set j (some x)) H' Qe)
    (hd : ∀ D vs H', H D = none → vs.length = xs.length → P xs.length vs H' → H' D = some (.lst vs) → Same H H' → Q (.ref D) H') : tLc (iList K te) (gName j) tYes tel [j] σ H Q := by
  refine hte _ ⟨a, rfl, ⟨_, hS⟩, fun D hD => lc_list (K := K) (a := a) (xs := xs) (fun i H' => ∃ vs : List V, vs.length = i ∧ P i vs H' ∧ H' D = some (.lst vs) ∧ SameX D H H') ⟨[], rfl, h0 _ (Same.new hD), upd_same, SameX.upd⟩ (fun i H' _ ⟨_, _, _, _, h⟩ => (Same.ofX hD h).seq hS) ?_ ?_⟩
  · rintro i x H' hi ⟨vs, hl, hr, h1, h2⟩
    refine ⟨?_, ?_⟩
    · show ((((σ.set j none).set j (some x)).set j none) = σ.set j none)
      rw [List.set_set, List.set_set]
    dsimp only [tYes]
    rw [if_pos rfl]
    have S0 := Same.ofX hD h2
    refine hs D i x vs H' hi S0 hr hl hD ⟨_, h1⟩ _ fun v H'' s2 r => ⟨vs, s2 _ _ h1, ?_, vs ++ [v], ?_, hw D H'' _ _ _ hD SameX.upd (S0.trans s2) ⟨vs, s2 _ _ h1⟩ r, upd_same, (h2.trans (SameX.of s2)).upd'⟩
    · have := getq_lt hi
      exact Nat.lt_of_lt_of_le (show vs.length < 100000 by omega) (by decide)
    · rw [List.length_append, hl]; rfl
  · rintro H' ⟨vs, hl, hr, h1, h2⟩
    exact hd D vs H' hD hl hr h1 (Same.ofX hD h2)
theorem all_rep (n : Nat) : (List.replicate n true).all id = true := by simp
theorem Same.ofX2 {H H1 H2 : Hp} {l : Addr} (hl : H l = none) (s1 : Same H H1) (s2 : SameX l H1 H2) : Same H H2 := fun b o e => s2 b o (ne_of_none e hl) (s1 b o e)
/-! ### the bag -/
structure Bag (a : Addr) (F : List Addr) (H : Hp) : Prop where
  ex : ∃ (g c : Addr) (gs cs : List Int) (n z : Int), H a = some (.lst [.ref g, .ref c, .int n, .int z]) ∧ H g = some (.lst (gs.map V.int)) ∧ H c = some (.lst (cs.map V.int)) ∧ gs.length ≤ 63 ∧ cs.length ≤ 63 ∧ g ≠ a ∧ c ≠ a ∧ g ∉ F ∧ c ∉ F ∧ a ∉ F ∧ ∀ b ∈ F, ∃ o, H b = some o
theorem Bag.same {a : Addr} {F : List Addr} {H H' : Hp} (B : Bag a F H) (s : Same H H') : Bag a F H' := by
  obtain ⟨g, c, gs, cs, n, z, h1, h2, h3, l1, l2, n1, n2, n3, n4, n5, hF⟩ := B.ex
  exact ⟨g, c, gs, cs, n, z, s _ _ h1, s _ _ h2, s _ _ h3, l1, l2, n1, n2, n3, n4, n5, fun b hb => (hF b hb).elim fun o e => ⟨o, s _ _ e⟩⟩
/-- a new thing of one's own -/
theorem Bag.own {a b : Addr} {F : List Addr} {H H' : Hp} (B : Bag a F H) (hb : H b = none) (s : Same H H') (ho : ∃ o, H' b = some o) : Bag a (b :: F) H' := by
  obtain ⟨g, c, gs, cs, n, z, h1, h2, h3, l1, l2, n1, n2, n3, n4, n5, hF⟩ := B.ex
  refine ⟨g, c, gs, cs, n, z, s _ _ h1, s _ _ h2, s _ _ h3, l1, l2, n1, n2, fun h => ?_, fun h => ?_, fun h => ?_, fun x hx => ?_⟩
  · rcases List.mem_cons.mp h with e | e
    · exact ne_of_none h2 hb e
    · exact n3 e
  · rcases List.mem_cons.mp h with e | e
    · exact ne_of_none h3 hb e
    · exact n4 e
  · rcases List.mem_cons.mp h with e | e
    · exact ne_of_none h1 hb e
    · exact n5 e
  · rcases List.mem_cons.mp hx with e | e
    · rw [e]; exact ho
    · exact (hF x e).elim fun o e => ⟨o, s _ _ e⟩
/-- new things of one's own -/
theorem Bag.owns {a : Addr} {F G : List Addr} {H H' : Hp} (B : Bag a F H) (hG : ∀ b ∈ G, H b = none ∧ ∃ o, H' b = some o) (s : Same H H') : Bag a (G ++ F) H' := by
  obtain ⟨g, c, gs, cs, n, z, h1, h2, h3, l1, l2, n1, n2, n3, n4, n5, hF⟩ := B.ex
  refine ⟨g, c, gs, cs, n, z, s _ _ h1, s _ _ h2, s _ _ h3, l1, l2, n1, n2, fun h => ?_, fun h => ?_, fun h => ?_, fun x hx => ?_⟩
  · rcases List.mem_append.mp h with e | e
    · exact ne_of_none h2 (hG _ e).1 rfl
    · exact n3 e
  · rcases List.mem_append.mp h with e | e
    · exact ne_of_none h3 (hG _ e).1 rfl
    · exact n4 e
  · rcases List.mem_append.mp h with e | e
    · exact ne_of_none h1 (hG _ e).1 rfl
    · exact n5 e
  · rcases List.mem_append.mp hx with e | e
    · exact (hG _ e).2
    · exact (hF x e).elim fun o e => ⟨o, s _ _ e⟩
/-- a thing of one's own changes -/
theorem Bag.on {a b : Addr} {F : List Addr} {H H' : Hp} (B : Bag a F H) (hb : b ∈ F) (s : SameX b H H') (ho : ∃ o, H' b = some o) : Bag a F H' := by
  obtain ⟨g, c, gs, cs, n, z, h1, h2, h3, l1, l2, n1, n2, n3, n4, n5, hF⟩ := B.ex
  refine ⟨g, c, gs, cs, n, z, s _ _ (fun e => n5 (e ▸ hb)) h1, s _ _ (fun e => n3 (e ▸ hb)) h2, s _ _ (fun e => n4 (e ▸ hb)) h3, l1, l2, n1, n2, n3, n4, n5, fun x hx => ?_⟩
  by_cases e : x = b
  · rw [e]; exact ho
  · exact (hF x hx).elim fun o h => ⟨o, s _ _ e h⟩
theorem Bag.ne {a b : Addr} {F : List Addr} {H : Hp} (B : Bag a F H) (hb : b ∈ F) : b ≠ a := by
  obtain ⟨_, _, _, _, _, _, _, _, _, _, _, _, _, _, _, n5, _⟩ := B.ex
  exact fun e => n5 (e ▸ hb)
theorem Bag.new {a b : Addr} {F : List Addr} {H : Hp} (B : Bag a F H) (hb : H b = none) : b ≠ a := by
  obtain ⟨_, _, _, _, _, _, h1, _⟩ := B.ex
  exact fun e => by rw [e, h1] at hb; cases hb
theorem Bag.less {a : Addr} {F G : List Addr} {H : Hp} (B : Bag a F H) (h : ∀ b ∈ G, b ∈ F) : Bag a G H := by
  obtain ⟨g, c, gs, cs, n, z, h1, h2, h3, l1, l2, n1, n2, n3, n4, n5, hF⟩ := B.ex
  exact ⟨g, c, gs, cs, n, z, h1, h2, h3, l1, l2, n1, n2, fun e => n3 (h _ e), fun e => n4 (h _ e), fun e => n5 (h _ e), fun b hb => hF b (h _ hb)⟩
theorem Bag.drop {a l : Addr} {F : List Addr} {H : Hp} (B : Bag a (l :: F) H) : Bag a F H := B.less fun _ h => List.mem_cons_of_mem _ h
def sp__law_bag (K : PySem.W.Frag) : Sp := fun vs H Q _ => ∃ (a : Addr) (ns : List Int), vs = [.ref a] ∧ SqL K H a (ns.map V.int) ∧ ns.length ≤ 63 ∧ ∀ b H', H b = none → Same H H' → Bag b [] H' → Q (.ref b) H'
theorem ok__law_bag (T : Txt K mg) : FnOk P w K mg base CX0 1 T.a__law_bag T.fd__law_bag ["script"] (sp__law_bag K) := by
  have S := sc__law_bag
  refine T.F__law_bag.ok S (fun vs H Q E h => ?_) (fun cdv A outer s H vs Q E hr h => ?_)
  · obtain ⟨a, ns, rfl, _⟩ := h
    rfl
  · obtain ⟨a, ns, rfl, hS, hl, k⟩ := h
    refine ⟨_, (pss_cons (ps_setLc (i := 1) (own := [("cell", 3)]) (g := gName 3) rfl S.nd rfl rfl (sw_true rfl rfl rfl (by decide +kernel)) (pi_list (pv 0)) (blkOk_by (N := ["script", "great", "cells", "cell"]) (sc := defScope s__law_bag) (by decide +kernel)) (fun _ _ _ _ _ => pg_name (i := 3) S.nd rfl (Or.inl rfl)) (fun _ _ _ _ _ => pts_one (pt_cmpR op_ge (pe_callB (id := "abs") call_absK (by rfl) T.b_abs (by decide +kernel) (pa_cons (pv 3) pa_nil)) (pe_op op_pow pe_int pe_int) (nomark _))) (fun _ _ _ _ _ => (pe_callB (id := "abs") call_absK (by rfl) T.b_abs (by decide +kernel) (pa_cons (pv 3) pa_nil))))
      (pss_cons (ps_setLc (i := 2) (own := [("cell", 3)]) (g := gName 3) (tt := tYes) rfl S.nd rfl rfl (sw_true rfl rfl rfl (by decide +kernel)) (pi_list (pv 0)) (blkOk_by (N := ["script", "great", "cells", "cell"]) (sc := defScope s__law_bag) (by decide +kernel)) (fun _ _ _ _ _ => pg_name (i := 3) S.nd rfl (Or.inl rfl)) (fun _ _ _ _ _ => pts_nil) (fun _ _ _ _ _ => (pe_op op_mod (pe_callTy (T := "int") call_int1 (by rfl) T.b_int (by decide +kernel) (pa_cons (pv 3) pa_nil)) pe_int)))
      (pss_one (ps_ret (pe_lst (pa_cons (pv 1) (pa_cons (pv 2) (pa_cons pe_int (pa_cons (pe_op op_mod (pe_callTy (T := "int") call_int1 (by rfl) T.b_int (by decide +kernel) (pa_cons (pe_callB (id := "sum") (cr_sum rfl) (by rfl) T.b_sum (by decide +kernel) (pa_cons (pv 2) pa_nil)) pa_nil)) pe_int) pa_nil))))))))), ?_⟩
    refine st__law_bag ?_
    o_args
    refine lc_ints (K := K) (a := a) (ns := ns) (fun x => decide (1000000000000000000 ≤ (ab x))) (fun x => ab x) (fun R q => ⟨_, rfl, q⟩) hS (by omega) (fun x _ H' s Qt q => ?_) (fun x _ _ H' s Qe q => ?_) (fun g H1 hg s1 h1 => ?_)
    · o_args
      exact q
    · o_args
      exact q
    o_args
    refine lc_ints (K := K) (a := a) (ns := ns) (fun _ => true) (fun x => x % 2147483647) (fun R q => ⟨_, rfl, q⟩) (s1.seq hS) (by omega) (fun x _ H' s Qt q => q) (fun x _ _ H' s Qe q => ?_) (fun c H2 hc s2 h2 => ?_)
    · o_args
      exact q
    o_args
    refine ⟨_, _, rfl, SqL.of h2, ?_⟩
    o_args
    have h1' := s2 _ _ h1
    refine newList (by simp) fun b H3 hb s3 h3 => ?_
    o_args
    refine k b H3 (none_of (s1.trans s2) hb) ((s1.trans s2).trans s3) ⟨g, c, _, _, _, _, h3, s3 _ _ h1', s3 _ _ h2, ?_, ?_, ne_of_none h1' hb, ne_of_none h2 hb, List.not_mem_nil, List.not_mem_nil, List.not_mem_nil, fun x hx => absurd hx List.not_mem_nil⟩
    · rw [List.length_map]
      exact Nat.le_trans (List.length_filter_le _ _) hl
    · rw [List.length_map]
      exact Nat.le_trans (List.length_filter_le _ _) hl
/-- a draw below m -/
def sp__law_take : Sp := fun vs H Q _ => ∃ (a : Addr) (m : Int) (F : List Addr), vs = [.ref a, .int m] ∧ Bag a F H ∧ 0 < m ∧ m < 2 ^ 62 ∧ ∀ d H', 0 ≤ d → d < m → Bag a F H' → SameX a H H' → Q (.int d) H'
theorem ok__law_take (T : Txt K mg) : FnOk P w K mg base CX0 1 T.a__law_take T.fd__law_take ["bag", "many"] (sp__law_take) := by
  have S := sc__law_take
  refine T.F__law_take.ok S (fun vs H Q E h => ?_) (fun cdv A outer s H vs Q E hr h => ?_)
  · obtain ⟨a, m, F, rfl, _⟩ := h
    rfl
  · obtain ⟨a, m, F, rfl, ⟨g, c, gs, cs, n, z, hA, hG, hC, lg, lc, ga, ca, gF, cF, aF, hF⟩, m0, m1, k⟩ := h
    have m0' : m ≠ 0 := by omega
    refine ⟨_, (pss_cons (ps_asg (pe_op op_add (pe_ix ix_list (pv 0) pe_int (fun _ _ => rfl)) pe_int) (pg_sub (pv 0) pe_int set_list))
      (pss_cons (ps_if (pt_cmpR (op_neD hr.units) (pe_ix ix_list (pv 0) pe_int (fun _ _ => rfl)) (pe_lst pa_nil) (nomark _)) (pss_cons (ps_set (i := 2) S.nd rfl (Or.inl rfl) (pe_ix ix_list (pe_ix ix_list (pv 0) pe_int (fun _ _ => rfl)) pe_int (fun _ _ => rfl)))
      (pss_cons (ps_if (pt_cmpR op_ge (pv 2) (pv 1) (nomark _)) (pss_one (ps_asg (pe_op op_cat (pe_lst (pa_cons (pe_op op_fdivW (pv 2) (pv 1)) pa_nil)) (pe_slice sl_list (pe_ix ix_list (pv 0) pe_int (fun _ _ => rfl)) (po_some pe_int) po_none)) (pg_sub (pv 0) pe_int set_list))) (pss_one (ps_asg (pe_slice sl_list (pe_ix ix_list (pv 0) pe_int (fun _ _ => rfl)) (po_some pe_int) po_none) (pg_sub (pv 0) pe_int set_list))))
      (pss_one (ps_ret (pe_op op_mod (pe_callTy (T := "int") call_int1 (by rfl) T.b_int (by decide +kernel) (pa_cons (pv 2) pa_nil)) (pv 1)))))) pss_nil)
      (pss_cons (ps_if (pt_cmpR (op_eqD hr.units) (pe_ix ix_list (pv 0) pe_int (fun _ _ => rfl)) (pe_lst pa_nil) (nomark _)) (pss_one (ps_ret (pe_op op_mod (pe_callTy (T := "int") call_int1 (by rfl) T.b_int (by decide +kernel) (pa_cons (pe_ix ix_list (pv 0) pe_int (fun _ _ => rfl)) pa_nil)) (pv 1)))) pss_nil)
      (pss_cons (ps_set (i := 3) S.nd rfl (Or.inl rfl) (pe_ix ix_list (pe_ix ix_list (pv 0) pe_int (fun _ _ => rfl)) (pe_op op_mod (pe_callTy (T := "int") call_int1 (by rfl) T.b_int (by decide +kernel) (pa_cons (pe_ix ix_list (pv 0) pe_int (fun _ _ => rfl)) pa_nil)) (pe_callB (id := "len") (call_lenK (K := K) rfl) (by rfl) T.b_len (by decide +kernel) (pa_cons (pe_ix ix_list (pv 0) pe_int (fun _ _ => rfl)) pa_nil))) (fun _ _ => rfl)))
      (pss_cons (ps_set (i := 4) S.nd rfl (Or.inl rfl) (pe_op op_mod (pe_callTy (T := "int") call_int1 (by rfl) T.b_int (by decide +kernel) (pa_cons (pe_op op_add (pe_op op_add (pe_op op_add (pe_op op_mul (pv 3) pe_int) (pe_op op_mul (pe_ix ix_list (pv 0) pe_int (fun _ _ => rfl)) pe_int)) (pe_op op_mul (pe_ix ix_list (pv 0) pe_int (fun _ _ => rfl)) pe_int)) pe_int) pa_nil)) pe_int))
      (pss_cons (ps_set (i := 5) S.nd rfl (Or.inl rfl) (pe_op op_mod (pe_callTy (T := "int") call_int1 (by rfl) T.b_int (by decide +kernel) (pa_cons (pe_op op_add (pe_op op_add (pe_op op_fdiv (pe_op op_mul (pv 4) (pv 4)) pe_int) (pe_op op_mul (pv 4) pe_int)) (pe_op op_mul (pe_ix ix_list (pv 0) pe_int (fun _ _ => rfl)) pe_int)) pa_nil)) pe_int))
      (pss_one (ps_ret (pe_op op_mod (pe_callTy (T := "int") call_int1 (by rfl) T.b_int (by decide +kernel) (pa_cons (pe_op op_fdiv (pe_op op_add (pe_op op_mul (pv 4) pe_int) (pv 5)) pe_int) pa_nil)) (pv 1)))))))))), ?_⟩
    refine st__law_take ?_
    o_args
    refine setL (i := 2) hA (by simp) fun H1 s1 h1 => ?_
    have h1 : H1 a = some (.lst [.ref g, .ref c, .int (n + 1), .int z]) := h1
    have hG1 := s1 _ _ ga hG
    have hC1 := s1 _ _ ca hC
    have hF1 : ∀ b ∈ F, ∃ o, H1 b = some o := fun b hb => (hF b hb).elim fun o e => ⟨o, s1 _ _ (fun z => aF (z ▸ hb)) e⟩
    o_args
    refine newList (by simp) fun l H2 hl s2 hl2 => ?_
    have h2 := s2 _ _ h1
    have hG2 := s2 _ _ hG1
    have hC2 := s2 _ _ hC1
    have gh1 : SameX a H H2 := s1.trans (SameX.of s2)
    have hF2 : ∀ b ∈ F, ∃ o, H2 b = some o := fun b hb => (hF1 b hb).elim fun o e => ⟨o, s2 _ _ e⟩
    refine neLL (xs := gs) (ys := []) (SqL.of hG2) (SqL.of hl2) ?_
    o_args
    refine brD (fun q => ?_) (fun q => ?_)
    · subst q
      o_args
      refine newList (by simp) fun l' H3 hl' s3 hl3 => ?_
      have h3 := s3 _ _ h2
      have hC3 := s3 _ _ hC2
      refine eqLL (xs := cs) (ys := []) (SqL.of hC3) (SqL.of hl3) ?_
      o_args
      have gh3 : SameX a H H3 := gh1.trans (SameX.of s3)
      have B3 : Bag a F H3 := ⟨g, c, [], cs, _, _, h3, s3 _ _ hG2, hC3, lg, lc, ga, ca, gF, cF, aF, fun b hb => (hF2 b hb).elim fun o e => ⟨o, s3 _ _ e⟩⟩
      refine brD (fun q => ?_) (fun q => ?_)
      · o_args
        refine ⟨_, _, rfl, rfl, m0, ?_⟩
        o_args
        exact k _ _ (Int.emod_nonneg _ m0') (Int.emod_lt_of_pos _ m0) B3 gh3
      o_args
      refine lenA (SeqA.lst hC3) ?_
      rw [List.length_map]
      have cl : 0 < cs.length := List.length_pos_iff.mpr q
      refine ⟨_, _, rfl, rfl, by omega, ?_⟩
      dsimp only
      have i0 : 0 ≤ (n + 1) % (cs.length : Int) := Int.emod_nonneg _ (by omega)
      have i1 : (n + 1) % (cs.length : Int) < (cs.length : Int) := Int.emod_lt_of_pos _ (by omega)
      generalize (n + 1) % (cs.length : Int) = i at i0 i1
      obtain ⟨i, rfl⟩ : ∃ j : Nat, i = j := ⟨i.toNat, by omega⟩
      have hx : (cs.map V.int)[i]? = some (.int (cs[i]'(by omega))) := by rw [List.getElem?_map, List.getElem?_eq_getElem]; rfl
      refine ixL hC3 hx ?_
      o_args
      refine x_mulL ?_ ?_
      · have a0 := Int.emod_nonneg (cs[i] * 48271 + z * 16807 + (n + 1) * 69621 + 11) (show (2147483647 : Int) ≠ 0 by decide)
        have a1 := Int.emod_lt_of_pos (cs[i] * 48271 + z * 16807 + (n + 1) * 69621 + 11) (show (0 : Int) < 2147483647 by decide)
        constructor <;> omega
      o_args
      refine ⟨_, _, rfl, rfl, m0, ?_⟩
      o_args
      exact k _ _ (Int.emod_nonneg _ m0') (Int.emod_lt_of_pos _ m0) B3 gh3
    · o_args
      obtain ⟨x, gs, rfl⟩ : ∃ x r, gs = x :: r := by
        cases gs with
        | nil => exact absurd rfl q
        | cons x r => exact ⟨x, r, rfl⟩
      refine ixL (i := 0) hG2 rfl ?_
      o_args
      have fin : ∀ (g' : Addr) (gs' : List Int) (H' : Hp), SameX a H2 H' → H' a = some (.lst [.ref g', .ref c, .int (n + 1), .int z]) → H' g' = some (.lst (gs'.map V.int)) → gs'.length ≤ 63 → H2 g' = none → Q (.int (x % m)) H' := fun g' gs' H' s e1 e2 e3 e4 =>
        k _ _ (Int.emod_nonneg _ m0') (Int.emod_lt_of_pos _ m0) ⟨g', c, gs', cs, _, _, e1, e2, s _ _ ca hC2, e3, lc, (fun e => by rw [e, h2] at e4; cases e4), ca, (fun hm => by obtain ⟨o, eo⟩ := hF2 _ hm; rw [eo] at e4; cases e4), cF, aF, fun b hb => (hF2 b hb).elim fun o e => ⟨o, s _ _ (fun z => aF (z ▸ hb)) e⟩⟩ (gh1.trans s)
      have lg' : gs.length + 1 ≤ 63 := lg
      refine brD (fun q => ?_) (fun q => ?_)
      · o_args
        refine x_divW m0 m1 ?_
        o_args
        refine newList (by simp) fun l1 H3 hl1 s3 hl3 => ?_
        have h3 := s3 _ _ h2
        o_args
        refine sliceL (SqL.of (s3 _ _ hG2)) fun l2 H4 hl2 s4 hl4 => ?_
        have hl4 : H4 l2 = some (.lst (cutV ((x :: gs).map V.int) (some ((1 : Nat) : Int)) none)) := hl4
        rw [cut_from] at hl4
        o_args
        refine catList (s4 _ _ hl3) hl4 (by simp; omega) fun l3 H5 hl5 s5 h5 => ?_
        have h5a := s5 _ _ (s4 _ _ h3)
        o_args
        refine setL (i := 0) h5a (by simp) fun H6 s6 h6 => ?_
        o_args
        refine ⟨_, _, rfl, rfl, m0, ?_⟩
        have e3 : H2 l3 = none := none_of (s3.trans s4) hl5
        have n3 : l3 ≠ a := fun e => by rw [e, h2] at e3; cases e3
        exact fin l3 (x / m :: gs) H6 ((SameX.of ((s3.trans s4).trans s5)).trans s6) h6 (s6 _ _ n3 h5) (by simp; omega) e3
      · o_args
        refine sliceL (SqL.of hG2) fun l2 H4 hl2 s4 hl4 => ?_
        have hl4 : H4 l2 = some (.lst (cutV ((x :: gs).map V.int) (some ((1 : Nat) : Int)) none)) := hl4
        rw [cut_from] at hl4
        have h5a := s4 _ _ h2
        o_args
        refine setL (i := 0) h5a (by simp) fun H6 s6 h6 => ?_
        o_args
        refine ⟨_, _, rfl, rfl, m0, ?_⟩
        have n3 : l2 ≠ a := fun e => by rw [e, h2] at hl2; cases hl2
        exact fin l2 gs H6 ((SameX.of s4).trans s6) h6 (s6 _ _ n3 hl4) (by omega) hl2
/-! ### small defs over the bag -/
def sp__law_whole (K : PySem.W.Frag) : Sp := fun vs H Q _ => ∃ (x : V) (r : Bool), vs = [x] ∧ IntK K H x r ∧ Q (.bl r) H
theorem ok__law_whole (T : Txt K mg) : FnOk P w K mg base CX0 1 T.a__law_whole T.fd__law_whole ["value"] (sp__law_whole K) := by
  have S := sc__law_whole
  refine T.F__law_whole.ok S (fun vs H Q E h => ?_) (fun cdv A outer s H vs Q E hr h => ?_)
  · obtain ⟨x, r, rfl, _⟩ := h
    rfl
  · obtain ⟨x, r, rfl, ⟨t, i, b, ty, hi, hb, rfl⟩, k⟩ := h
    refine ⟨_, (pss_one (ps_ret (pe_and (pe_callB (id := "isinstance") call_isi (by rfl) T.b_isinstance (by decide +kernel) (pa_cons (pv 0) (pa_cons (pe_bltn (v := .ty "int") (u := .type "int") (by rfl) T.b_int (by decide +kernel) rfl) pa_nil))) (pe_one (pe_not (pe_callB (id := "isinstance") call_isi (by rfl) T.b_isinstance (by decide +kernel) (pa_cons (pv 0) (pa_cons (pe_bltn (v := .ty "bool") (u := .type "bool") (by rfl) T.b_bool (by decide +kernel) rfl) pa_nil)))))))), ?_⟩
    refine ⟨_, rfl, _, _, _, _, i, rfl, .ty _, ty, hi, i, rfl, ?_⟩
    cases i with
    | false => exact iteF k
    | true => exact iteT ⟨_, rfl, _, _, _, _, b, rfl, .ty _, ty, hb, b, rfl, k⟩
def sp__law_lesser : Sp := fun vs H Q _ => ∃ (a b : Int), vs = [.int a, .int b] ∧ Q (.int (min a b)) H
theorem ok__law_lesser (T : Txt K mg) : FnOk P w K mg base CX0 1 T.a__law_lesser T.fd__law_lesser ["one", "two"] (sp__law_lesser) := by
  have S := sc__law_lesser
  refine T.F__law_lesser.ok S (fun vs H Q E h => ?_) (fun cdv A outer s H vs Q E hr h => ?_)
  · obtain ⟨a, b, rfl, _⟩ := h
    rfl
  · obtain ⟨a, b, rfl, k⟩ := h
    refine ⟨_, (pss_cons (ps_if (pt_cmpR op_lt (pv 0) (pv 1) (nomark _)) (pss_one (ps_ret (pv 0))) pss_nil)
      (pss_one (ps_ret (pv 1)))), ?_⟩
    refine st__law_lesser ?_
    o_args
    refine brD (fun q => ?_) (fun q => ?_)
    · o_args
      rw [show min a b = a by omega] at k
      exact k
    · o_args
      rw [show min a b = b by omega] at k
      exact k
def sp__law_greater : Sp := fun vs H Q _ => ∃ (a b : Int), vs = [.int a, .int b] ∧ Q (.int (max a b)) H
theorem ok__law_greater (T : Txt K mg) : FnOk P w K mg base CX0 1 T.a__law_greater T.fd__law_greater ["one", "two"] (sp__law_greater) := by
  have S := sc__law_greater
  refine T.F__law_greater.ok S (fun vs H Q E h => ?_) (fun cdv A outer s H vs Q E hr h => ?_)
  · obtain ⟨a, b, rfl, _⟩ := h
    rfl
  · obtain ⟨a, b, rfl, k⟩ := h
    refine ⟨_, (pss_cons (ps_if (pt_cmpR op_gt (pv 0) (pv 1) (nomark _)) (pss_one (ps_ret (pv 0))) pss_nil)
      (pss_one (ps_ret (pv 1)))), ?_⟩
    refine st__law_greater ?_
    o_args
    refine brD (fun q => ?_) (fun q => ?_)
    · o_args
      rw [show max a b = a by omega] at k
      exact k
    · o_args
      rw [show max a b = b by omega] at k
      exact k
/-! ### the bounds -/
def sp__law_bounds : Sp := fun vs H Q _ => ∃ (a : Addr) (F : List Addr), vs = [.ref a] ∧ Bag a F H ∧ ∀ l H' lo hi, H l = none → l ≠ a → H' l = some (.lst [.int lo, .int hi]) → 1 ≤ lo → lo ≤ hi → hi ≤ 1400 → Bag a (l :: F) H' → SameX a H H' → Q (.ref l) H'
theorem ok__law_bounds (T : Txt K mg) : FnOk P w K mg base CX0 2 T.a__law_bounds T.fd__law_bounds ["bag"] (sp__law_bounds) := by
  have S := sc__law_bounds
  refine T.F__law_bounds.ok S (fun vs H Q E h => ?_) (fun cdv A outer s H vs Q E hr h => ?_)
  · obtain ⟨a, F, rfl, _⟩ := h
    rfl
  · obtain ⟨a, F, rfl, B0, k⟩ := h
    refine ⟨_, (pss_cons (ps_set (i := 1) S.nd rfl (Or.inl rfl) (pe_op op_add pe_int (pe_call (ok__law_take T) (hr.mono (by decide)) rfl T.g__law_take T.F__law_take.kp T.B__law_take .nil pass0 (pa_cons (pv 0) (pa_cons pe_int pa_nil)))))
      (C8.pss_cut (ps_if (pt_cmpR op_eq (pe_call (ok__law_take T) (hr.mono (by decide)) rfl T.g__law_take T.F__law_take.kp T.B__law_take .nil pass0 (pa_cons (pv 0) (pa_cons pe_int pa_nil))) pe_int (nomark _)) (pss_one (ps_set (i := 1) S.nd rfl (Or.inl rfl) (pe_op op_add pe_int (pe_call (ok__law_take T) (hr.mono (by decide)) rfl T.g__law_take T.F__law_take.kp T.B__law_take .nil pass0 (pa_cons (pv 0) (pa_cons pe_int pa_nil)))))) pss_nil)
      (pss_cons (ps_set (i := 2) S.nd rfl (Or.inl rfl) (pe_call (ok__law_take T) (hr.mono (by decide)) rfl T.g__law_take T.F__law_take.kp T.B__law_take .nil pass0 (pa_cons (pv 0) (pa_cons pe_int pa_nil))))
      (pss_cons (ps_set (i := 3) S.nd rfl (Or.inl rfl) (pv 1))
      (C8.pss_cut (ps_if (pt_cmpR op_eq (pv 2) pe_int (nomark _)) (pss_one (ps_set (i := 3) S.nd rfl (Or.inl rfl) (pe_call (ok__law_lesser T) (hr.mono (by decide)) rfl T.g__law_lesser T.F__law_lesser.kp T.B__law_lesser .nil pass0 (pa_cons pe_int (pa_cons (pe_op op_add (pe_op op_add (pv 1) pe_int) (pe_call (ok__law_take T) (hr.mono (by decide)) rfl T.g__law_take T.F__law_take.kp T.B__law_take .nil pass0 (pa_cons (pv 0) (pa_cons pe_int pa_nil)))) pa_nil))))) (pss_one (ps_if (pt_cmpR op_eq (pv 2) pe_int (nomark _)) (pss_one (ps_set (i := 3) S.nd rfl (Or.inl rfl) pe_int)) (pss_one (ps_if (pt_cmpR op_eq (pv 2) pe_int (nomark _)) (pss_one (ps_set (i := 3) S.nd rfl (Or.inl rfl) (pe_op op_add (pv 1) (pe_call (ok__law_take T) (hr.mono (by decide)) rfl T.g__law_take T.F__law_take.kp T.B__law_take .nil pass0 (pa_cons (pv 0) (pa_cons (pe_op op_sub pe_int (pv 1)) pa_nil)))))) pss_nil)))))
      (pss_one (ps_ret (pe_lst (pa_cons (pv 1) (pa_cons (pv 3) pa_nil)))))))))), ?_⟩
    refine st__law_bounds ?_
    o_args
    refine ⟨a, 20, F, rfl, B0, by decide, by decide, fun d H1 a1 b1 B1 s1 => ?_⟩
    o_args
    refine ⟨fun σ H' => ∃ f : Int, σ = [some (.ref a), some (.int f), none, none] ∧ 1 ≤ f ∧ f ≤ 1400 ∧ Bag a F H' ∧ SameX a H H', ?_, ?_⟩
    · o_args
      refine ⟨a, 2, F, rfl, B1, by decide, by decide, fun e H2 a2 b2 B2 s2 => ?_⟩
      o_args
      refine brD (fun q => ?_) (fun q => ?_)
      · o_args
        refine ⟨a, _, F, rfl, B2, by decide, by decide, fun f H3 a3 b3 B3 s3 => ?_⟩
        o_args
        exact ⟨_, rfl, by omega, by omega, B3, (s1.trans s2).trans s3⟩
      · o_args
        exact ⟨_, rfl, by omega, by omega, B2, s1.trans s2⟩
    rintro σ H3 ⟨f, rfl, f1, f2, B3, s3⟩
    o_args
    refine ⟨a, 4, F, rfl, B3, by decide, by decide, fun way H4 a4 b4 B4 s4 => ?_⟩
    o_args
    refine ⟨fun σ H' => ∃ r : Int, σ = [some (.ref a), some (.int f), some (.int way), some (.int r)] ∧ f ≤ r ∧ r ≤ 1400 ∧ Bag a F H' ∧ SameX a H H', ?_, ?_⟩
    · o_args
      refine brD (fun q => ?_) (fun q => ?_)
      · o_args
        refine ⟨a, _, F, rfl, B4, by decide, by decide, fun e H5 a5 b5 B5 s5 => ?_⟩
        o_args
        refine ⟨_, _, rfl, ?_⟩
        o_args
        exact ⟨_, rfl, by omega, by omega, B5, (s3.trans s4).trans s5⟩
      · o_args
        refine brD (fun q => ?_) (fun q => ?_)
        · o_args
          exact ⟨_, rfl, by omega, by omega, B4, s3.trans s4⟩
        · o_args
          refine brD (fun q => ?_) (fun q => ?_)
          · o_args
            refine ⟨a, _, F, rfl, B4, by omega, by omega, fun e H5 a5 b5 B5 s5 => ?_⟩
            o_args
            exact ⟨_, rfl, by omega, by omega, B5, (s3.trans s4).trans s5⟩
          · o_args
            exact ⟨_, rfl, by omega, by omega, B4, s3.trans s4⟩
    rintro σ H5 ⟨r, rfl, r1, r2, B5, s5⟩
    o_args
    refine newList (by simp) fun l H6 hl s6 h6 => ?_
    o_args
    have na := B5.new hl
    exact k l H6 f r (none_back s5 na hl) na h6 f1 r1 r2 (B5.own hl s6 ⟨_, h6⟩) (s5.trans (SameX.of s6))
/-! ### values that are no numbers -/
theorem Typ.bag {a : Addr} {F : List Addr} {H H' : Hp} (B : Bag a F H) (B' : Bag a F H') (s : SameX a H H') : Typ H H' := fun b o hb => by
  by_cases q : b = a
  · subst q
    obtain ⟨_, _, _, _, _, _, h, _⟩ := B.ex
    obtain ⟨_, _, _, _, _, _, h', _⟩ := B'.ex
    rw [h] at hb
    cases hb
    exact .inr ⟨⟨_, rfl⟩, _, h'⟩
  · exact .inl (s b o q hb)
theorem Typ.ofX {H H' : Hp} {b : Addr} {xs ys : List V} (h : H b = some (.lst xs)) (h' : H' b = some (.lst ys)) (s : SameX b H H') : Typ H H' := fun c o hc => by
  by_cases q : c = b
  · subst q
    rw [h] at hc
    cases hc
    exact .inr ⟨⟨_, rfl⟩, _, h'⟩
  · exact .inl (s c o q hc)
/-! ### own errors -/
abbrev sp_InvalidNumber_init_ (K : PySem.W.Frag) : Sp := sp_xinit K "number"
theorem ok_InvalidNumber_init_ (T : Txt K mg) : FnOk P w K mg base CX0 1 T.a_InvalidNumber_init_ T.fd_InvalidNumber_init_ ["self", "number"] (sp_InvalidNumber_init_ K) := by
  have S := sc_InvalidNumber_init_
  refine T.F_InvalidNumber_init_.ok S (fun vs H Q E h => ?_) (fun cdv A outer s H vs Q E hr h => ?_)
  · obtain ⟨a, C, v, rfl, _⟩ := h
    rfl
  · obtain ⟨a, C, v, rfl, O, hn, ha, k⟩ := h
    refine ⟨_, (pss_one (ps_ost (pv 0) (pv 1))), ?_⟩
    exact ⟨_, rfl, _, rfl, a, C, rfl, O, hn, .inl ⟨ha, k⟩⟩
abbrev sp_InvalidSetting_init_ (K : PySem.W.Frag) : Sp := sp_xinit K "setting"
theorem ok_InvalidSetting_init_ (T : Txt K mg) : FnOk P w K mg base CX0 1 T.a_InvalidSetting_init_ T.fd_InvalidSetting_init_ ["self", "setting"] (sp_InvalidSetting_init_ K) := by
  have S := sc_InvalidSetting_init_
  refine T.F_InvalidSetting_init_.ok S (fun vs H Q E h => ?_) (fun cdv A outer s H vs Q E hr h => ?_)
  · obtain ⟨a, C, v, rfl, _⟩ := h
    rfl
  · obtain ⟨a, C, v, rfl, O, hn, ha, k⟩ := h
    refine ⟨_, (pss_one (ps_ost (pv 0) (pv 1))), ?_⟩
    exact ⟨_, rfl, _, rfl, a, C, rfl, O, hn, .inl ⟨ha, k⟩⟩
/-- an error of the class at C with the one field f -/
def Err (C : Addr) (f : Str) (v : V) (H : Hp) (E : XK) : Prop := ∀ d H', Same H H' → H' d = some (.xd [(f, v)]) → E (.ref C) (some d) H'
/-- x lies not in lo .. hi -/
def Out (K : PySem.W.Frag) (H : Hp) (x : V) (lo hi : Int) : Prop := ∃ o, Kd K H x o ∧ inR lo hi o = false
theorem Out.same {K : PySem.W.Frag} {H H' : Hp} {x : V} {lo hi : Int} (h : Out K H x lo hi) (s : Same H H') : Out K H' x lo hi := h.elim fun o h => ⟨o, h.1.same s, h.2⟩
theorem Out.typ {K : PySem.W.Frag} {H H' : Hp} {x : V} {lo hi : Int} (h : Out K H x lo hi) (s : Typ H H') : Out K H' x lo hi := h.elim fun o h => ⟨o, h.1.typ s, h.2⟩
theorem Out.int {K : PySem.W.Frag} {H : Hp} {n lo hi : Int} (h : n < lo ∨ hi < n) : Out K H (.int n) lo hi := ⟨some n, rfl, by
  show (decide (lo ≤ n) && decide (n ≤ hi)) = false
  rcases h with h | h
  · rw [decide_eq_false (show ¬ lo ≤ n by omega)]; rfl
  · rw [decide_eq_false (show ¬ n ≤ hi by omega), Bool.and_false]⟩
theorem Out.odd {K : PySem.W.Frag} {H : Hp} {x : V} {lo hi : Int} (h : IntK K H x false) : Out K H x lo hi := ⟨none, h, rfl⟩
theorem out_between {K : PySem.W.Frag} {H : Hp} {Q : VK} {x : V} {lo hi : Int} {E : XK} (h : Out K H x lo hi) (q : Q (.bl false) H) : sp_is_between K [x, .int lo, .int hi] H Q E := by
  obtain ⟨o, h1, h2⟩ := h
  cases o with
  | none => exact ⟨x, lo, hi, rfl, .inr ⟨h1, q⟩⟩
  | some n => exact ⟨x, lo, hi, rfl, .inl ⟨n, h1, by rw [show (decide (lo ≤ n) && decide (n ≤ hi)) = false from h2]; exact q⟩⟩
theorem in_between {K : PySem.W.Frag} {H : Hp} {Q : VK} {n lo hi : Int} {E : XK} (h1 : lo ≤ n) (h2 : n ≤ hi) (q : Q (.bl true) H) : sp_is_between K [.int n, .int lo, .int hi] H Q E :=
  ⟨.int n, lo, hi, rfl, .inl ⟨n, rfl, by rw [decide_eq_true h1, decide_eq_true h2]; exact q⟩⟩
/-- x is no count -/
def Less (K : PySem.W.Frag) (H : Hp) (x : V) (lo : Int) : Prop := (∃ n, x = .int n ∧ n < lo) ∨ IntK K H x false
theorem Less.same {K : PySem.W.Frag} {H H' : Hp} {x : V} {lo : Int} (h : Less K H x lo) (s : Same H H') : Less K H' x lo := h.elim .inl fun h => .inr (h.same s)
/-- menus of a try: what is caught, and what e is -/
theorem errX {K : PySem.W.Frag} {a D dd : Addr} {fs : List (Str × V)} {c : V} {cv : Value} {b : Bool} {H : Hp} {Q : VK} (hcv : ∀ u, RelV c u → u = cv) (ec : ExcC K D) (hd : H dd = some (.xd fs)) (hk : PySem.W.kitOne K (.ref D) cv = some b) (q : Q (.bl b) H) : rIsX K a (.ref D) (some dd) [.ref a, c] H Q := ⟨c, cv, b, D, dd, fs, rfl, hcv, rfl, ec, rfl, hd, hk, q⟩
theorem errF {K : PySem.W.Frag} {a C dd : Addr} {f : Str} {fs : List (Str × V)} {v : V} {H : Hp} {P : V → Prop} (T : XfC K C) (hn : PySem.W.findIn K (.ref C) f = some none) (hd : H dd = some (.xd fs)) (e : fs.lookup f = some v) (q : P v) :
    V.ref a = V.ref a ∧ ∃ (C' dd' : Addr) (fs : List (Str × V)) (v : V), Value.ref C = .ref C' ∧ XfC K C' ∧ PySem.W.findIn K (.ref C') f = some none ∧ some dd = some dd' ∧ H dd' = some (.xd fs) ∧ fs.lookup f = some v ∧ P v := ⟨rfl, C, dd, fs, v, rfl, T, hn, rfl, hd, e, q⟩
section
variable {K : PySem.W.Frag} {σ : L2.St} {H : Hp} {Q : VK} {v : V} {te : TE} {D : Ends} {i : Nat}
theorem x_xg {a : Addr} {cls : Value} {d : Option Addr} {f : Str} (q : te σ H fun x H1 => x = .ref a ∧ ∃ (C dd : Addr) (fs : List (Str × V)) (v : V), cls = .ref C ∧ XfC K C ∧ PySem.W.findIn K (.ref C) f = some none ∧ d = some dd ∧ H1 dd = some (.xd fs) ∧ fs.lookup f = some v ∧ Q v H1) : tXg K a cls d f te σ H Q := q
theorem x_clgo {a : Addr} {ts : TS} (q : ts (unN D i) (σ.set i (some (.ref a))) H) : clGo D (some i) ts a σ H := q
theorem x_methX {C : Addr} {m : Str} {sp : Sp} {E : L2.St → XK} {ta : TE} {t : TA} (q : ta σ H fun x H1 => ∃ a dx fs, x = .ref a ∧ H1 a = some (.ins C dx fs) ∧ fs.lookup m = none ∧ t σ H1 fun vs H2 => sp (x :: vs) H2 Q (E σ)) : tMethX C m sp E ta t σ H Q := q
theorem x_unrt (q : D.rt v H) : (unN D i).rt v H := q
theorem x_unnx (q : D.nx (σ.set i none) H) : (unN D i).nx σ H := q
end
theorem len2 {α : Type} {l : List α} (h : l.length = 2) : ∃ a b, l = [a, b] := by
  match l, h with
  | [a, b], _ => exact ⟨a, b, rfl⟩
theorem len4 {α : Type} {l : List α} (h : l.length = 4) : ∃ a b c d, l = [a, b, c, d] := by
  match l, h with
  | [a, b, c, d], _ => exact ⟨a, b, c, d, rfl⟩
def sp_is_at_least (K : PySem.W.Frag) : Sp := fun vs H Q _ => ∃ (x : V) (lo : Int), vs = [x, .int lo] ∧ ((∃ n, x = .int n ∧ lo ≤ n ∧ Q (.bl true) H) ∨ (Less K H x lo ∧ Q (.bl false) H))
theorem ok_is_at_least (T : Txt K mg) : FnOk P w K mg base CX0 2 T.a_is_at_least T.fd_is_at_least ["value", "low"] (sp_is_at_least K) := by
  have S := sc_is_at_least
  refine T.F_is_at_least.ok S (fun vs H Q E h => ?_) (fun cdv A outer s H vs Q E hr h => ?_)
  · obtain ⟨x, lo, rfl, _⟩ := h
    rfl
  · obtain ⟨x, lo, rfl, h⟩ := h
    refine ⟨_, (pss_one (ps_ret (pe_and (pe_call (ok_is_integer T) (hr.mono (by decide)) rfl T.g_is_integer T.F_is_integer.kp T.B_is_integer .nil pass0 (pa_cons (pv 0) pa_nil)) (pe_one (pe_cmpR op_le (pv 1) (pv 0) (nomark _)))))), ?_⟩
    refine st_is_at_least ?_
    o_args
    rcases h with ⟨n, rfl, hn, k⟩ | ⟨⟨n, rfl, hn⟩ | hk, k⟩
    · refine ⟨_, true, rfl, intK_int n, ?_⟩
      o_args
      rw [decide_eq_true hn]
      exact k
    · refine ⟨_, true, rfl, intK_int n, ?_⟩
      o_args
      rw [decide_eq_false (show ¬ lo ≤ n by omega)]
      exact k
    · refine ⟨_, false, rfl, hk, ?_⟩
      o_args
      exact k
local macro_rules
  | `(tactic| w_up) => `(tactic| first | with_reducible refine x_clgo ?_ | with_reducible refine x_methX ?_ | with_reducible refine x_xg ?_ | with_reducible refine x_unrt ?_ | with_reducible refine x_unnx ?_)
/-! ### rows and objects beside each other -/
theorem nd_inj {l : List Addr} (h : l.Nodup) : ∀ {i j : Nat} {x : Addr}, l[i]? = some x → l[j]? = some x → i = j := by
  induction l with
  | nil => intro i j x h1; cases h1
  | cons b l ih =>
    intro i j x h1 h2
    have hb := (List.nodup_cons.mp h).1
    have hn := (List.nodup_cons.mp h).2
    cases i with
    | zero => cases j with
      | zero => rfl
      | succ j => cases h1; exact absurd (List.mem_of_getElem? (show l[j]? = some b from h2)) hb
    | succ i => cases j with
      | zero => cases h2; exact absurd (List.mem_of_getElem? (show l[i]? = some b from h1)) hb
      | succ j => rw [ih hn h1 h2]
theorem set_at {α : Type} {l : List α} {i j : Nat} {x y : α} (h : (l.set i x)[j]? = some y) : (j = i ∧ y = x) ∨ (j ≠ i ∧ l[j]? = some y) := by
  by_cases q : i = j
  · subst q
    rw [List.getElem?_set] at h
    split at h
    · split at h
      · exact .inl ⟨rfl, (Option.some.inj h).symm⟩
      · cases h
    · exact absurd rfl ‹_›
  · rw [List.getElem?_set_ne q] at h
    exact .inr ⟨fun e => q e.symm, h⟩
theorem ref_at {l : List Addr} {i : Nat} {x : Addr} (h : l[i]? = some x) : (l.map V.ref)[i]? = some (V.ref x) := by rw [List.getElem?_map, h]; rfl
theorem some_at {α : Type} {l : List α} {i : Nat} (h : i < l.length) : ∃ x, l[i]? = some x := ⟨l[i], List.getElem?_eq_getElem h⟩
theorem SameX.fresh {a l : Addr} {H H1 H2 : Hp} (x : SameX a H H1) (hl : H l = none) (y : SameX l H1 H2) : SameX a H H2 := fun b o nb e => y b o (ne_of_none e hl) (x b o nb e)
theorem same_made {H H' : Hp} {x dx C : Addr} (hx : H x = none) (hdx : H dx = none) (s : SameX x (upd (upd H dx (.own x)) x (.ins C dx [])) H') : Same H H' := fun b o eb => s b o (ne_of_none eb hx) (by rw [upd_ne (ne_of_none eb hx), upd_ne (ne_of_none eb hdx)]; exact eb)
theorem same_made0 {H : Hp} {x dx C : Addr} (hx : H x = none) (hdx : H dx = none) : Same H (upd (upd H dx (.own x)) x (.ins C dx [])) := fun b o eb => by rw [upd_ne (ne_of_none eb hx), upd_ne (ne_of_none eb hdx)]; exact eb
/-- objects of one kind, by what they hold -/
structure AtOk {α : Type} (At : Hp → Addr → α → Prop) : Prop where
  same : ∀ {H H' : Hp} {e : Addr} {x : α}, At H e x → Same H H' → At H' e x
  on : ∀ {H H' : Hp} {e b : Addr} {x : α}, At H e x → SameX b H H' → e ≠ b → At H' e x
  ins : ∀ {H : Hp} {e : Addr} {x : α}, At H e x → ∃ C dx fs, H e = some (.ins C dx fs)
structure Wd {α : Type} (rw : α → List V) (At : Hp → Addr → α → Prop) (n : Nat) (a R L : Addr) (rs es : List Addr) (xs ys : List α) (H : Hp) : Prop where
  ok : AtOk At
  hR : H R = some (.lst (rs.map V.ref))
  hL : H L = some (.lst (es.map V.ref))
  rows : ∀ (i : Nat) r y, rs[i]? = some r → ys[i]? = some y → H r = some (.lst (rw y))
  ests : ∀ (i : Nat) e x, es[i]? = some e → xs[i]? = some x → At H e x
  bag : Bag a (R :: L :: (rs ++ es)) H
  nd : (R :: L :: (rs ++ es)).Nodup
  len : rs.length = n ∧ es.length = n ∧ xs.length = n ∧ ys.length = n
section
variable {α : Type} {rw : α → List V} {At : Hp → Addr → α → Prop} {n : Nat} {a R L : Addr} {rs es : List Addr} {xs ys : List α} {H H' : Hp}
theorem Wd.apart (W : Wd rw At n a R L rs es xs ys H) : R ≠ L ∧ R ∉ rs ∧ R ∉ es ∧ L ∉ rs ∧ L ∉ es ∧ rs.Nodup ∧ es.Nodup ∧ ∀ r ∈ rs, ∀ e ∈ es, r ≠ e := by
  have h1 := List.nodup_cons.mp W.nd
  have h2 := List.nodup_cons.mp h1.2
  have h3 := List.nodup_append.mp h2.2
  refine ⟨fun e => h1.1 (by rw [e]; exact List.mem_cons_self ..), fun h => h1.1 (List.mem_cons_of_mem _ (List.mem_append_left _ h)), fun h => h1.1 (List.mem_cons_of_mem _ (List.mem_append_right _ h)), fun h => h2.1 (List.mem_append_left _ h), fun h => h2.1 (List.mem_append_right _ h), h3.1, h3.2.1, fun r hr e he => h3.2.2 r hr e he⟩
theorem Wd.inF {i : Nat} {r : Addr} (h : rs[i]? = some r) : r ∈ R :: L :: (rs ++ es) := List.mem_cons_of_mem _ (List.mem_cons_of_mem _ (List.mem_append_left _ (List.mem_of_getElem? h)))
theorem Wd.inF' {i : Nat} {e : Addr} (h : es[i]? = some e) : e ∈ R :: L :: (rs ++ es) := List.mem_cons_of_mem _ (List.mem_cons_of_mem _ (List.mem_append_right _ (List.mem_of_getElem? h)))
theorem Wd.take (W : Wd rw At n a R L rs es xs ys H) (B : Bag a (R :: L :: (rs ++ es)) H') (s : SameX a H H') : Wd rw At n a R L rs es xs ys H' :=
  ⟨W.ok, s _ _ (B.ne (List.mem_cons_self ..)) W.hR, s _ _ (B.ne (List.mem_cons_of_mem _ (List.mem_cons_self ..))) W.hL, fun i r y h1 h2 => s _ _ (B.ne (Wd.inF h1)) (W.rows i r y h1 h2), fun i e x h1 h2 => W.ok.on (W.ests i e x h1 h2) s (B.ne (Wd.inF' h1)), B, W.nd, W.len⟩
theorem Wd.same (W : Wd rw At n a R L rs es xs ys H) (s : Same H H') : Wd rw At n a R L rs es xs ys H' :=
  ⟨W.ok, s _ _ W.hR, s _ _ W.hL, fun i r y h1 h2 => s _ _ (W.rows i r y h1 h2), fun i e x h1 h2 => W.ok.same (W.ests i e x h1 h2) s, W.bag.same s, W.nd, W.len⟩
theorem Wd.setE {i : Nat} {e : Addr} {x' : α} (W : Wd rw At n a R L rs es xs ys H) (hi : es[i]? = some e) (s : SameX e H H') (h : At H' e x') : Wd rw At n a R L rs es (xs.set i x') ys H' := by
  obtain ⟨_, _, n3, _, n5, _, n7, n8⟩ := W.apart
  have me := List.mem_of_getElem? hi
  refine ⟨W.ok, s _ _ (fun z => n3 (z ▸ me)) W.hR, s _ _ (fun z => n5 (z ▸ me)) W.hL, fun j r y h1 h2 => s _ _ (n8 r (List.mem_of_getElem? h1) e me) (W.rows j r y h1 h2), fun j f x h1 h2 => ?_, W.bag.on (Wd.inF' hi) s ((W.ok.ins h).elim fun C h => h.elim fun dx h => h.elim fun fs h => ⟨_, h⟩), W.nd, ?_⟩
  · rcases set_at h2 with ⟨rfl, rfl⟩ | ⟨q, h2⟩
    · rw [hi] at h1
      cases h1
      exact h
    · exact W.ok.on (W.ests j f x h1 h2) s fun z => q (nd_inj n7 (z ▸ h1) hi)
  · obtain ⟨l1, l2, l3, l4⟩ := W.len
    exact ⟨l1, l2, by rw [List.length_set]; exact l3, l4⟩
theorem Wd.setR {i : Nat} {r : Addr} {y' : α} (W : Wd rw At n a R L rs es xs ys H) (hi : rs[i]? = some r) (s : SameX r H H') (h : H' r = some (.lst (rw y'))) : Wd rw At n a R L rs es xs (ys.set i y') H' := by
  obtain ⟨_, n2, _, n4, _, n6, _, n8⟩ := W.apart
  have me := List.mem_of_getElem? hi
  refine ⟨W.ok, s _ _ (fun z => n2 (z ▸ me)) W.hR, s _ _ (fun z => n4 (z ▸ me)) W.hL, fun j f y h1 h2 => ?_, fun j f x h1 h2 => W.ok.on (W.ests j f x h1 h2) s (fun z => n8 r me f (List.mem_of_getElem? h1) z.symm), W.bag.on (Wd.inF hi) s ⟨_, h⟩, W.nd, ?_⟩
  · rcases set_at h2 with ⟨rfl, rfl⟩ | ⟨q, h2⟩
    · rw [hi] at h1
      cases h1
      exact h
    · exact s _ _ (fun z => q (nd_inj n6 (z ▸ h1) hi)) (W.rows j f y h1 h2)
  · obtain ⟨l1, l2, l3, l4⟩ := W.len
    exact ⟨l1, l2, l3, by rw [List.length_set]; exact l4⟩
/-- a comprehension that makes an object for each row -/
theorem lc_world {K : PySem.W.Frag} {te tel : TE} {σ : L2.St} {Q : VK} {j : Nat} (ok : AtOk At) (hn : n < 100000) (hte : ∀ R' : VK, R' (.ref R) H → te σ H R') (hR : H R = some (.lst (rs.map V.ref)))
    (rows : ∀ (i : Nat) r x, rs[i]? = some r → xs[i]? = some x → H r = some (.lst (rw x))) (l1 : rs.length = n) (l2 : xs.length = n) (B : Bag a (R :: rs) H) (nd : (R :: rs).Nodup)
    (hs : ∀ (i : Nat) r x H' (Qe : VK), rs[i]? = some r → xs[i]? = some x → H' r = some (.lst (rw x)) → (∀ e H'', H' e = none → Same H' H'' → At H'' e x → Qe (.ref e) H'') → tel ((σ.set j none).set j (some (.ref r))) H' Qe)
    (hd : ∀ L es H', Wd rw At n a R L rs es xs xs H' → Same H H' → Q (.ref L) H') : tLc (iList K te) (gName j) tYes tel [j] σ H Q := by
  refine lc_lstN (K := K) (fun i vs H' => ∃ es : List Addr, vs = es.map V.ref ∧ es.length = i ∧ es.Nodup ∧ (∀ e ∈ es, H e = none) ∧ ∀ (j : Nat) e x, es[j]? = some e → xs[j]? = some x → At H' e x) hte (SqL.of hR) (by rw [List.length_map]; omega)
    (fun H' _ => ⟨[], rfl, rfl, List.nodup_nil, fun e he => absurd he List.not_mem_nil, fun j e x he => by cases he⟩)
    (fun i vs H1 H2 s ⟨es, e1, e2, e3, e4, e5⟩ => ⟨es, e1, e2, e3, e4, fun j e x h1 h2 => ok.same (e5 j e x h1 h2) s⟩)
    (fun D H1 H2 i vs hD s _ ⟨acc, hacc⟩ ⟨es, e1, e2, e3, e4, e5⟩ => ⟨es, e1, e2, e3, e4, fun j e x h1 h2 => ok.on (e5 j e x h1 h2) s fun z => by
      obtain ⟨C, dx, fs, h⟩ := ok.ins (e5 j e x h1 h2)
      rw [z, hacc] at h
      cases h⟩)
    (fun D i x vs H' hi s hv hvl hD _ Qe q => ?_) (fun L vs H1 nL hl hv hL s1 => ?_)
  · rw [List.getElem?_map] at hi
    cases er : rs[i]? with
    | none => rw [er] at hi; cases hi
    | some r =>
      rw [er] at hi
      cases hi
      have hi := getq_lt er
      obtain ⟨y, hy⟩ := some_at (l := xs) (i := i) (by omega)
      obtain ⟨es, rfl, e2, e3, e4, e5⟩ := hv
      refine hs i r y H' Qe er hy (s _ _ (rows i r y er hy)) fun e H2 he S2 h2 => q _ _ S2 ⟨es ++ [e], by simp, by simp [e2], ?_, ?_, ?_⟩
      · refine List.nodup_append.mpr ⟨e3, by simp, fun f hf g hg => ?_⟩
        rw [List.mem_singleton.mp hg]
        obtain ⟨k, hk⟩ := List.mem_iff_getElem?.mp hf
        obtain ⟨z, hz⟩ := some_at (l := xs) (i := k) (by have := getq_lt hk; omega)
        obtain ⟨C, dx, fs, h⟩ := ok.ins (e5 k f z hk hz)
        exact ne_of_none h he
      · intro f hf
        rcases List.mem_append.mp hf with h | h
        · exact e4 f h
        · rw [List.mem_singleton.mp h]
          exact none_of s he
      · intro k f z h1 h3
        rcases getq_app h1 with ⟨_, h⟩ | ⟨rfl, rfl⟩
        · exact ok.same (e5 k f z h h3) S2
        · rw [e2, hy] at h3
          cases h3
          exact h2
  obtain ⟨es, rfl, e2, e3, e4, e5⟩ := hv
  rw [List.length_map] at e2
  have me : ∀ e ∈ es, ∃ C dx fs, H1 e = some (.ins C dx fs) := fun e he => by
    obtain ⟨k, hk⟩ := List.mem_iff_getElem?.mp he
    obtain ⟨z, hz⟩ := some_at (l := xs) (i := k) (by have := getq_lt hk; omega)
    exact ok.ins (e5 k e z hk hz)
  have mr : ∀ r ∈ rs, ∃ o, H r = some o := fun r h => by
    obtain ⟨k, hk⟩ := List.mem_iff_getElem?.mp h
    obtain ⟨z, hz⟩ := some_at (l := xs) (i := k) (by have := getq_lt hk; omega)
    exact ⟨_, rows k r z hk hz⟩
  refine hd L es H1 ⟨ok, s1 _ _ hR, hL, fun i r y h1 h2 => s1 _ _ (rows i r y h1 h2), e5, ?_, ?_, l1, e2.trans l1, l2, l2⟩ s1
  · refine (B.owns (G := L :: es) (fun c hc => ?_) s1).less fun c hc => ?_
    · rcases List.mem_cons.mp hc with h | h
      · rw [h]; exact ⟨nL, _, hL⟩
      · obtain ⟨C, dx, fs, h'⟩ := me c h
        exact ⟨e4 c h, _, h'⟩
    · simp only [List.mem_cons, List.mem_append] at hc ⊢
      rcases hc with h | h | h | h <;> simp [h]
  · have xR : R ∉ es := fun he => absurd rfl (ne_of_none hR (e4 R he))
    have xL : L ∉ es := fun he => by
      obtain ⟨C, dx, fs, h'⟩ := me L he
      rw [hL] at h'
      cases h'
    have lR : R ≠ L := ne_of_none hR nL
    have lr : L ∉ rs := fun h => by
      obtain ⟨o, ho⟩ := mr L h
      rw [nL] at ho
      cases ho
    have n2 := List.nodup_cons.mp nd
    refine List.nodup_cons.mpr ⟨fun h => ?_, List.nodup_cons.mpr ⟨fun h => ?_, List.nodup_append.mpr ⟨n2.2, e3, fun r h1 e h2 z => ?_⟩⟩⟩
    · rcases List.mem_cons.mp h with h | h
      · exact lR h
      rcases List.mem_append.mp h with h | h
      · exact n2.1 h
      · exact xR h
    · rcases List.mem_append.mp h with h | h
      · exact lr h
      · exact xL h
    · obtain ⟨o, ho⟩ := mr r h1
      rw [z, e4 e h2] at ho
      cases ho
end
/-! ### the finder -/
def sp_require_count (K : PySem.W.Frag) (Ce : Addr) : Sp := fun vs H Q E => ∃ (x : V), vs = [x] ∧ ((∃ n, x = .int n ∧ 0 ≤ n ∧ Q .non H) ∨ (Less K H x 0 ∧ Err Ce "number" x H E))
theorem ok_require_count (T : Txt K mg) : FnOk P w K mg base (L2.CX P w) 3 T.a_require_count T.fd_require_count ["count"] (sp_require_count K T.c_InvalidNumber) := by
  have S := sc_require_count
  refine T.F_require_count.okX S (fun vs H Q E h => ?_) (fun cdv A outer s H vs Q E hr h => ?_)
  · obtain ⟨x, rfl, _⟩ := h
    rfl
  · obtain ⟨x, rfl, h⟩ := h
    refine ⟨_, (pss_one (ps_if (pt_not (pt_val (pe_call (ok_is_at_least T) (hr.mono (by decide)) rfl T.g_is_at_least T.F_is_at_least.kp T.B_is_at_least .nil pass0 (pa_cons (pv 0) (pa_cons pe_int pa_nil))))) (pss_one (ps_raise rfl (takes_of rfl rfl rfl rfl) (pmk_oex T.X_InvalidNumber.o T.X_InvalidNumber.i T.X_InvalidNumber.t (ok_InvalidNumber_init_ T) (hr.mono (by decide)) T.B_InvalidNumber_init_ .nil pass0 rfl T.X_InvalidNumber.g (pa_cons (pv 0) pa_nil)))) pss_nil)), ?_⟩
    refine st_require_count ?_
    o_args
    rcases h with ⟨n, rfl, h0, k⟩ | ⟨hk, hE⟩
    · refine ⟨_, 0, rfl, .inl ⟨n, rfl, h0, ?_⟩⟩
      o_args
      exact k
    · refine ⟨_, 0, rfl, .inr ⟨hk, ?_⟩⟩
      o_args
      exact ⟨_, rfl, mkO_of T.X_InvalidNumber.o T.nX_InvalidNumber fun d H1 nd ss hx => hE d H1 ss hx⟩
structure Fs where
  sz : Int
  ce : Int
  st : Int
def Fs.row (f : Fs) : List V := [.int f.sz, .int f.ce, .int f.st]
def FinAt (C : Addr) (H : Hp) (e : Addr) (f : Fs) : Prop := ∃ dx, H e = some (.ins C dx [("size", .int f.sz), ("ceiling", .int f.ce), ("strikes", .int f.st)])
theorem FinAt.same {C : Addr} {H H' : Hp} {e : Addr} {x : Fs} (h : FinAt C H e x) (s : Same H H') : FinAt C H' e x := h.elim fun dx h => ⟨dx, s _ _ h⟩
theorem FinAt.on {C : Addr} {H H' : Hp} {e b : Addr} {x : Fs} (h : FinAt C H e x) (s : SameX b H H') (n : e ≠ b) : FinAt C H' e x := h.elim fun dx h => ⟨dx, s _ _ n h⟩
def Fs.aim (f : Fs) : Int := if f.sz < f.ce then (f.sz + f.ce + 1) / 2 else 0
def Fs.pass (f : Fs) (n : Int) : Fs := if f.sz < n then ⟨min n f.ce, f.ce, 0⟩ else f
def Fs.fail (f : Fs) (n : Int) : Fs := if n ≠ 0 ∧ n = f.aim then (if f.st + 1 = 2 then ⟨f.sz, n - 1, 0⟩ else ⟨f.sz, f.ce, f.st + 1⟩) else f
def sp_Finder_init_ (K : PySem.W.Frag) (C Ce : Addr) : Sp := fun vs H Q E => ∃ (p : Addr) (v w : V), vs = [.ref p, v, w] ∧
  ((∃ dx lo hi, v = .int lo ∧ w = .int hi ∧ H p = some (.ins C dx []) ∧ 1 ≤ lo ∧ lo ≤ hi ∧ hi ≤ 1400 ∧ ∀ H', SameX p H H' → FinAt C H' p ⟨lo, hi, 0⟩ → Q .non H') ∨
   (Out K H v 1 1400 ∧ Err Ce "setting" (.str "low") H E) ∨ (∃ lo, v = .int lo ∧ 1 ≤ lo ∧ lo ≤ 1400 ∧ Out K H w lo 1400 ∧ Err Ce "setting" (.str "high") H E))
theorem ok_Finder_init_ (T : Txt K mg) : FnOk P w K mg base (L2.CX P w) 3 T.a_Finder_init_ T.fd_Finder_init_ ["self", "low", "high"] (sp_Finder_init_ K T.c_Finder T.c_InvalidSetting) := by
  have S := sc_Finder_init_
  refine T.F_Finder_init_.okX S (fun vs H Q E h => ?_) (fun cdv A outer s H vs Q E hr h => ?_)
  · obtain ⟨p, v, w, rfl, _⟩ := h
    rfl
  · obtain ⟨p, v, w, rfl, h⟩ := h
    refine ⟨_, (pss_cons (ps_if (pt_not (pt_val (pe_call (ok_is_between T) (hr.mono (by decide)) rfl T.g_is_between T.F_is_between.kp T.B_is_between .nil pass0 (pa_cons (pv 1) (pa_cons pe_int (pa_cons (pe_glob rfl T.g_MOST_BYTES T.r_MOST_BYTES) pa_nil)))))) (pss_one (ps_raise rfl (takes_of rfl rfl rfl rfl) (pmk_oex T.X_InvalidSetting.o T.X_InvalidSetting.i T.X_InvalidSetting.t (ok_InvalidSetting_init_ T) (hr.mono (by decide)) T.B_InvalidSetting_init_ .nil pass0 rfl T.X_InvalidSetting.g (pa_cons pe_str pa_nil)))) pss_nil)
      (pss_cons (ps_if (pt_not (pt_val (pe_call (ok_is_between T) (hr.mono (by decide)) rfl T.g_is_between T.F_is_between.kp T.B_is_between .nil pass0 (pa_cons (pv 2) (pa_cons (pv 1) (pa_cons (pe_glob rfl T.g_MOST_BYTES T.r_MOST_BYTES) pa_nil)))))) (pss_one (ps_raise rfl (takes_of rfl rfl rfl rfl) (pmk_oex T.X_InvalidSetting.o T.X_InvalidSetting.i T.X_InvalidSetting.t (ok_InvalidSetting_init_ T) (hr.mono (by decide)) T.B_InvalidSetting_init_ .nil pass0 rfl T.X_InvalidSetting.g (pa_cons pe_str pa_nil)))) pss_nil)
      (pss_cons (ps_fld (pv 0) (pv 1) rfl)
      (pss_cons (ps_fld (pv 0) (pv 2) rfl)
      (pss_one (ps_fld (pv 0) pe_int rfl)))))), ?_⟩
    refine st_Finder_init_ ?_
    o_args
    rcases h with ⟨dx, lo, hi, rfl, rfl, hp, h1, h2, h3, k⟩ | ⟨ho, hE⟩ | ⟨lo, rfl, h1, h2, ho, hE⟩
    · refine in_between h1 (by omega) ?_
      o_args
      refine in_between h2 h3 ?_
      o_args
      refine fstore hp T.cl_Finder T.n_Finder_size (Nat.le_of_ble_eq_true rfl) rfl fun H1 s1 h1 => ?_
      o_args
      refine fstore h1 T.cl_Finder T.n_Finder_ceiling (Nat.le_of_ble_eq_true rfl) rfl fun H2 s2 h2 => ?_
      o_args
      refine fstore h2 T.cl_Finder T.n_Finder_strikes (Nat.le_of_ble_eq_true rfl) rfl fun H3 s3 h3 => ?_
      o_args
      exact k H3 ((s1.trans s2).trans s3) ⟨dx, h3⟩
    · refine out_between ho ?_
      o_args
      exact mkO_of T.X_InvalidSetting.o T.nX_InvalidSetting fun d H1 nd ss hx => hE d H1 ss hx
    · refine in_between h1 h2 ?_
      o_args
      refine out_between ho ?_
      o_args
      exact mkO_of T.X_InvalidSetting.o T.nX_InvalidSetting fun d H1 nd ss hx => hE d H1 ss hx
def sp_Finder_trial (C : Addr) : Sp := fun vs H Q _ => ∃ (e : Addr) (f : Fs), vs = [.ref e] ∧ FinAt C H e f ∧ Q (.int f.aim) H
theorem ok_Finder_trial (T : Txt K mg) : FnOk P w K mg base CX0 1 T.a_Finder_trial T.fd_Finder_trial ["self"] (sp_Finder_trial T.c_Finder) := by
  have S := sc_Finder_trial
  refine T.F_Finder_trial.ok S (fun vs H Q E h => ?_) (fun cdv A outer s H vs Q E hr h => ?_)
  · obtain ⟨e, f, rfl, _⟩ := h
    rfl
  · obtain ⟨e, f, rfl, ⟨dx, he⟩, k⟩ := h
    refine ⟨_, (pss_one (ps_ret (pe_ifExp (pt_cmpR op_lt (pe_fld (pv 0) rfl) (pe_fld (pv 0) rfl) (nomark _)) (pe_op op_fdiv (pe_op op_add (pe_op op_add (pe_fld (pv 0) rfl) (pe_fld (pv 0) rfl)) pe_int) pe_int) pe_int))), ?_⟩
    refine st_Finder_trial ?_
    o_args
    unfold Fs.aim at k
    refine fget he T.cl_Finder T.n_Finder_size rfl ?_
    o_args
    refine fget he T.cl_Finder T.n_Finder_ceiling rfl ?_
    o_args
    refine brD (fun q => ?_) (fun q => ?_)
    · rw [if_pos q] at k
      o_args
      refine fget he T.cl_Finder T.n_Finder_size rfl ?_
      o_args
      refine fget he T.cl_Finder T.n_Finder_ceiling rfl ?_
      o_args
      exact k
    · rw [if_neg q] at k
      o_args
      exact k
def sp_Finder_passed (K : PySem.W.Frag) (C Ce : Addr) : Sp := fun vs H Q E => ∃ (e : Addr) (x : V) (f : Fs), vs = [.ref e, x] ∧ FinAt C H e f ∧ ((∃ n, x = .int n ∧ 0 ≤ n ∧ ∀ H', SameX e H H' → FinAt C H' e (f.pass n) → Q .non H') ∨ (Less K H x 0 ∧ Err Ce "number" x H E))
theorem ok_Finder_passed (T : Txt K mg) : FnOk P w K mg base (L2.CX P w) 4 T.a_Finder_passed T.fd_Finder_passed ["self", "count"] (sp_Finder_passed K T.c_Finder T.c_InvalidNumber) := by
  have S := sc_Finder_passed
  refine T.F_Finder_passed.okX S (fun vs H Q E h => ?_) (fun cdv A outer s H vs Q E hr h => ?_)
  · obtain ⟨e, x, f, rfl, _⟩ := h
    rfl
  · obtain ⟨e, x, f, rfl, ⟨dx, he⟩, h⟩ := h
    refine ⟨_, (pss_cons (ps_expr (pe_call (ok_require_count T) (hr.mono (by decide)) rfl T.g_require_count T.F_require_count.kp T.B_require_count .nil (passes_call (takes_of rfl rfl rfl rfl) (fun _ _ _ _ h => h)) (pa_cons (pv 1) pa_nil)))
      (pss_one (ps_if (pt_cmpR op_gt (pv 1) (pe_fld (pv 0) rfl) (nomark _)) (pss_cons (ps_fld (pv 0) (pe_callB (id := "min") (call_min2K rfl) (by rfl) T.b_min (by decide +kernel) (pa_cons (pv 1) (pa_cons (pe_fld (pv 0) rfl) pa_nil))) rfl)
      (pss_one (ps_fld (pv 0) pe_int rfl))) pss_nil))), ?_⟩
    refine st_Finder_passed ?_
    o_args
    rcases h with ⟨n, rfl, h0, k⟩ | ⟨hk, hE⟩
    · unfold Fs.pass at k
      refine ⟨_, rfl, .inl ⟨n, rfl, h0, ?_⟩⟩
      o_args
      refine fget he T.cl_Finder T.n_Finder_size rfl ?_
      o_args
      refine brD (fun q => ?_) (fun q => ?_)
      · rw [if_pos q] at k
        o_args
        refine fget he T.cl_Finder T.n_Finder_ceiling rfl ?_
        o_args
        refine fstore he T.cl_Finder T.n_Finder_size (Nat.le_of_ble_eq_true rfl) rfl fun H1 s1 h1 => ?_
        o_args
        refine fstore h1 T.cl_Finder T.n_Finder_strikes (Nat.le_of_ble_eq_true rfl) rfl fun H2 s2 h2 => ?_
        o_args
        exact k H2 (s1.trans s2) ⟨dx, h2⟩
      · rw [if_neg q] at k
        o_args
        exact k H SameX.refl ⟨dx, he⟩
    · exact ⟨_, rfl, .inr ⟨hk, hE⟩⟩
def sp_Finder_failed (K : PySem.W.Frag) (C Ce : Addr) : Sp := fun vs H Q E => ∃ (e : Addr) (x : V) (f : Fs), vs = [.ref e, x] ∧ FinAt C H e f ∧ ((∃ n, x = .int n ∧ 0 ≤ n ∧ ∀ H', SameX e H H' → FinAt C H' e (f.fail n) → Q .non H') ∨ (Less K H x 0 ∧ Err Ce "number" x H E))
theorem ok_Finder_failed (T : Txt K mg) : FnOk P w K mg base (L2.CX P w) 4 T.a_Finder_failed T.fd_Finder_failed ["self", "count"] (sp_Finder_failed K T.c_Finder T.c_InvalidNumber) := by
  have S := sc_Finder_failed
  refine T.F_Finder_failed.okX S (fun vs H Q E h => ?_) (fun cdv A outer s H vs Q E hr h => ?_)
  · obtain ⟨e, x, f, rfl, _⟩ := h
    rfl
  · obtain ⟨e, x, f, rfl, ⟨dx, he⟩, h⟩ := h
    refine ⟨_, (pss_cons (ps_expr (pe_call (ok_require_count T) (hr.mono (by decide)) rfl T.g_require_count T.F_require_count.kp T.B_require_count .nil (passes_call (takes_of rfl rfl rfl rfl) (fun _ _ _ _ h => h)) (pa_cons (pv 1) pa_nil)))
      (pss_cons (ps_if (PW.pt (pw_or (pt_cmpR op_eq (pv 1) pe_int (nomark _)) (pw_or1 (pt_cmpR op_ne (pv 1) (pe_meth0 (pv 0) T.cl_Finder T.m_Finder_trial (ok_Finder_trial T) (hr.mono (by decide)) T.B_Finder_trial .nil pass0) (nomark _))))) (pss_one ps_retN) pss_nil)
      (pss_cons (ps_fldaug (pv 0) pe_int ip_add)
      (pss_one (ps_if (pt_cmpR op_eq (pe_fld (pv 0) rfl) (pe_glob rfl T.g_MOST_STRIKES T.r_MOST_STRIKES) (nomark _)) (pss_cons (ps_fld (pv 0) (pe_op op_sub (pv 1) pe_int) rfl)
      (pss_one (ps_fld (pv 0) pe_int rfl))) pss_nil))))), ?_⟩
    refine st_Finder_failed ?_
    o_args
    rcases h with ⟨n, rfl, h0, k⟩ | ⟨hk, hE⟩
    · unfold Fs.fail at k
      refine ⟨_, rfl, .inl ⟨n, rfl, h0, ?_⟩⟩
      o_args
      refine brD (fun q => ?_) (fun q => ?_)
      · rw [if_neg (fun z => z.1 q)] at k
        o_args
        exact k H SameX.refl ⟨dx, he⟩
      o_args
      refine ⟨e, dx, _, rfl, he, rfl, e, f, rfl, ⟨dx, he⟩, ?_⟩
      o_args
      refine brD (fun q' => ?_) (fun q' => ?_)
      · rw [if_pos ⟨q, q'⟩] at k
        o_args
        refine fraise he T.cl_Finder T.n_Finder_strikes (Nat.le_of_ble_eq_true rfl) rfl ?_
        o_args
        refine fput he (Nat.le_of_ble_eq_true rfl) rfl fun H1 s1 h1 => ?_
        o_args
        refine fget h1 T.cl_Finder T.n_Finder_strikes rfl ?_
        o_args
        refine brD (fun p => ?_) (fun p => ?_)
        · rw [if_pos p] at k
          o_args
          refine fstore h1 T.cl_Finder T.n_Finder_ceiling (Nat.le_of_ble_eq_true rfl) rfl fun H2 s2 h2 => ?_
          o_args
          refine fstore h2 T.cl_Finder T.n_Finder_strikes (Nat.le_of_ble_eq_true rfl) rfl fun H3 s3 h3 => ?_
          o_args
          exact k H3 ((s1.trans s2).trans s3) ⟨dx, h3⟩
        · rw [if_neg p] at k
          o_args
          exact k H1 s1 ⟨dx, h1⟩
      · rw [if_neg (fun z => q' z.2)] at k
        o_args
        exact k H SameX.refl ⟨dx, he⟩
    · exact ⟨_, rfl, .inr ⟨hk, hE⟩⟩
/-! ### long comparisons -/
open PyProof.Rows in
section
variable {X : Cx} {a b c : Expr} {ta tb : TE} {pos : Pos} {op op' : CmpOp} {ops : List CmpOp} {cs : List Expr} {r : R2} {t : V → TT}
def tLkL (r : R2) (te : TE) : V → TT := fun y σ H Q => te σ H fun w H1 => r y w H1 fun z H2 => ∃ k, z = .bl k ∧ Q k H2
def tLkC (r : R2) (te : TE) (rest : V → TT) : V → TT := fun y σ H Q => te σ H fun w H1 => r y w H1 fun z H2 => ∃ k, z = .bl k ∧ if k = true then rest w σ H2 Q else Q false H2
def tLks (ta : TE) (t : V → TT) : TT := fun σ H Q => ta σ H fun y H1 => t y σ H1 Q
structure PLk (X : Cx) (ops : List CmpOp) (es : List Expr) (t : V → TT) : Prop where
  run : ∀ (pos : Pos) (pins : List (Addr × Obj)) (s : Shared) (σ : L2.St) (H : Hp) (y : V) (u : Value) (Q : Bool → Hp → Prop), Inv X pins σ H s → RelV y u → t y σ H Q →
    wpAny (model X.prog X.w) X.A (testChain pos u ops (evalEach es X.env)) (TP X pins σ Q) X.xe s
theorem lk_last (ho : OpR X (compareOp op) r) (hb : PE X b tb) : PLk X [op] [b] (tLkL r tb) := by
  refine ⟨fun pos pins s σ H y u Q I r1 h => ?_⟩
  refine test_last (thn (hb.run pins s σ H _ I h) fun w' s4 ⟨z', H4, I4, r4, q4⟩ => thn (ho pins s4 σ H4 y z' u w' _ I4 r1 r4 q4) fun d' s5 ⟨z2, H5, I5, r5, k2, e2, q5⟩ => ?_)
  subst e2
  cases r5
  exact wpAny_truthy_bool ⟨H5, I5, q5⟩
theorem lk_cons (ho : OpR X (compareOp op) r) (hb : PE X b tb) (rest : PLk X (op' :: ops) (c :: cs) t) : PLk X (op :: op' :: ops) (b :: c :: cs) (tLkC r tb t) := by
  refine ⟨fun pos pins s σ H y u Q I r1 h => ?_⟩
  refine test_link (thn (hb.run pins s σ H _ I h) fun w' s4 ⟨z', H4, I4, r4, q4⟩ => thn (ho pins s4 σ H4 y z' u w' _ I4 r1 r4 q4) fun d' s5 ⟨z2, H5, I5, r5, k, e2, q5⟩ => ?_)
  subst e2
  cases r5
  refine wpAny_truthy_bool ?_
  cases k with
  | false => exact ite_ff ⟨H5, I5, q5⟩
  | true => exact ite_tt (rest.run pos pins s5 σ H5 z' w' Q I5 r4 q5)
theorem pt_chainN (ha : PE X a ta) (h : PLk X (op :: op' :: ops) (b :: c :: cs) t) (hm : lastMarks (op :: op' :: ops) (b :: c :: cs) = false := by with_unfolding_all rfl) : PT X (.Compare a (op :: op' :: ops) (b :: c :: cs) pos) (tLks ta t) := by
  refine ⟨fun pins s σ H Q I q => ?_⟩
  exact isTrue_chain (thn (ha.run pins s σ H _ I q) fun v s1 ⟨x, H1, I1, r1, q1⟩ => h.run pos pins s1 σ H1 x v Q I1 r1 q1) hm
end
section
variable {σ : L2.St} {H : Hp} {QB : Bool → Hp → Prop} {y : V} {te : TE} {r : R2}
theorem x_lkL (q : te σ H fun w H1 => r y w H1 fun z H2 => ∃ k, z = .bl k ∧ QB k H2) : tLkL r te y σ H QB := q
theorem x_lks {ta : TE} {t : V → TT} (q : ta σ H fun y H1 => t y σ H1 QB) : tLks ta t σ H QB := q
theorem x_lkC {rest : V → TT} (q : te σ H fun w H1 => r y w H1 fun z H2 => ∃ k, z = .bl k ∧ if k = true then rest w σ H2 QB else QB false H2) : tLkC r te rest y σ H QB := q
theorem x_bits {to : TE} {Q : VK} (q : to σ H fun x H1 => ∃ i, x = .int i ∧ Q (.int (Builtin.Int.intBits i : Nat)) H1) : tBits to σ H Q := q
end
local macro_rules
  | `(tactic| w_up) => `(tactic| first | with_reducible refine x_lkL ?_ | with_reducible refine x_lkC ?_ | with_reducible refine x_lks ?_ | with_reducible refine x_bits ?_)
/-! ### a search and its path -/
structure Sr where
  f : Fs
  lo : Int
  hi : Int
  g : Int
  A : Int
  C : Int
  S : Int
def Sr.row (s : Sr) : List V := [.int s.lo, .int s.hi, .int s.g, .int s.A, .int s.C, .int s.S]
def bt (x : Int) : Int := (Builtin.Int.intBits x : Nat)
theorem bt_mono {x y : Int} (h0 : 0 ≤ x) (h : x ≤ y) : bt x ≤ bt y := by
  unfold bt
  have := PySem.intBits_le_of_natAbs (x := x) (y := y) (m := Builtin.Int.intBits y) (by omega) (Nat.le_refl _)
  omega
theorem bt_half {x y : Int} (h0 : 0 ≤ x) (h1 : 1 ≤ y) (h : 2 * x ≤ y) : bt x + 1 ≤ bt y := by
  unfold bt
  have hy := PySem.intBits_le_iff (x := y) (m := Builtin.Int.intBits y) |>.mp (Nat.le_refl _)
  have hp : 1 ≤ Builtin.Int.intBits y := by
    rcases Nat.eq_zero_or_pos (Builtin.Int.intBits y) with e | e
    · rw [e, Nat.pow_zero] at hy
      omega
    · exact e
  obtain ⟨m, hm⟩ : ∃ m, Builtin.Int.intBits y = m + 1 := ⟨Builtin.Int.intBits y - 1, by omega⟩
  rw [hm, Nat.pow_succ] at hy
  have : Builtin.Int.intBits x ≤ m := PySem.intBits_le_iff.mpr (by omega)
  omega
theorem bt_zero : bt 0 = 0 := rfl
theorem bt_nn (x : Int) : 0 ≤ bt x := Int.natCast_nonneg _
theorem bt_pos {x : Int} (h : 1 ≤ x) : 1 ≤ bt x := by
  have := bt_half (x := 0) (y := x) (Int.le_refl _) h (by omega)
  rw [bt_zero] at this
  exact this
theorem bt_small {x : Int} (h0 : 0 ≤ x) (h : x < 2048) : bt x ≤ 11 := by
  unfold bt
  have : Builtin.Int.intBits x ≤ 11 := PySem.intBits_le_iff.mpr (by omega)
  omega
/-- what holds of a search -/
structure Sr.J (s : Sr) : Prop where
  l1 : 1 ≤ s.lo
  l2 : s.lo ≤ s.f.sz
  l3 : s.f.sz ≤ s.g
  l4 : s.g ≤ s.f.ce
  l5 : s.f.ce ≤ s.hi
  l6 : s.hi ≤ 1400
  st : s.f.st = 0 ∨ s.f.st = 1
  ended : s.f.sz = s.f.ce → s.f.st = 0
  aim : s.f.st = 1 → s.g < s.f.aim ∨ s.S = s.f.aim
  A0 : 0 ≤ s.A
  C0 : 0 ≤ s.C
  bits : s.C + bt (s.f.ce - s.f.sz) ≤ bt (s.hi - s.lo)
def Sr.phi (s : Sr) : Int := 2 * s.A + 2 * bt (s.f.ce - s.f.sz) - s.f.st
theorem Sr.phi_nn {s : Sr} (j : s.J) : 0 ≤ s.phi := by
  have h := bt_nn (s.f.ce - s.f.sz)
  have a := j.A0
  unfold Sr.phi
  rcases j.st with e | e
  · omega
  · have n : s.f.sz ≠ s.f.ce := fun z => by have := j.ended z; omega
    have := bt_pos (x := s.f.ce - s.f.sz) (by have := j.l3; have := j.l4; omega)
    omega
theorem aim_in {f : Fs} (h : f.sz < f.ce) : f.sz < f.aim ∧ f.aim ≤ f.ce := by
  unfold Fs.aim
  rw [if_pos h]
  omega
theorem aim_zero {f : Fs} (h : ¬ f.sz < f.ce) : f.aim = 0 := by
  unfold Fs.aim
  rw [if_neg h]
/-- a count that carries and answers no trial -/
theorem Sr.carry {s : Sr} {n : Int} (j : s.J) (hA : 0 < s.A) (h0 : 0 ≤ n) (h1 : n ≤ s.g) : Sr.J { s with f := s.f.pass n, A := s.A - 1 } ∧ Sr.phi { s with f := s.f.pass n, A := s.A - 1 } < s.phi ∧ s.f.pass n = ⟨max s.f.sz n, s.f.ce, if s.f.sz < n then 0 else s.f.st⟩ := by
  obtain ⟨l1, l2, l3, l4, l5, l6, st, en, am, A0, C0, bi⟩ := j
  unfold Fs.pass
  by_cases q : s.f.sz < n
  · rw [if_pos q, if_pos q]
    have e : min n s.f.ce = n := by omega
    have e2 : max s.f.sz n = n := by omega
    rw [e, e2]
    have b := bt_mono (x := s.f.ce - n) (y := s.f.ce - s.f.sz) (by omega) (by omega)
    refine ⟨⟨l1, by show s.lo ≤ n; omega, h1, l4, l5, l6, .inl rfl, fun _ => rfl, (fun z => by cases z), by show 0 ≤ s.A - 1; omega, C0, by show s.C + bt (s.f.ce - n) ≤ bt (s.hi - s.lo); omega⟩, ?_, rfl⟩
    show 2 * (s.A - 1) + 2 * bt (s.f.ce - n) - 0 < 2 * s.A + 2 * bt (s.f.ce - s.f.sz) - s.f.st
    rcases st with e | e <;> omega
  · rw [if_neg q, if_neg q]
    refine ⟨⟨l1, l2, l3, l4, l5, l6, st, en, am, by show 0 ≤ s.A - 1; omega, C0, bi⟩, ?_, ?_⟩
    · show 2 * (s.A - 1) + 2 * bt (s.f.ce - s.f.sz) - s.f.st < 2 * s.A + 2 * bt (s.f.ce - s.f.sz) - s.f.st
      omega
    · rw [show max s.f.sz n = s.f.sz by omega]
theorem Sr.idle {s : Sr} (j : s.J) (hA : 0 < s.A) : Sr.J { s with A := s.A - 1 } ∧ Sr.phi { s with A := s.A - 1 } < s.phi := by
  obtain ⟨l1, l2, l3, l4, l5, l6, st, en, am, A0, C0, bi⟩ := j
  refine ⟨⟨l1, l2, l3, l4, l5, l6, st, en, am, by show 0 ≤ s.A - 1; omega, C0, bi⟩, ?_⟩
  show 2 * (s.A - 1) + 2 * bt (s.f.ce - s.f.sz) - s.f.st < 2 * s.A + 2 * bt (s.f.ce - s.f.sz) - s.f.st
  omega
/-- what an answer to a trial does: a strike, a lower ceiling, a greater size -/
def Ans (s : Sr) (f : Fs) (S : Int) : Prop := (s.f.st = 0 ∧ f = ⟨s.f.sz, s.f.ce, 1⟩ ∧ (s.g < s.f.aim ∨ S = s.f.aim)) ∨ (s.g < s.f.aim ∧ f = ⟨s.f.sz, s.f.aim - 1, 0⟩) ∨ (s.f.aim ≤ s.g ∧ f = ⟨s.f.aim, s.f.ce, 0⟩)
theorem Sr.strike {s : Sr} {f : Fs} {S : Int} (j : s.J) (hl : s.f.sz < s.f.ce) (z : s.f.st = 0) (e : f = ⟨s.f.sz, s.f.ce, 1⟩) (am : s.g < s.f.aim ∨ S = s.f.aim) : Sr.J { s with f := f, S := S } ∧ Sr.phi { s with f := f, S := S } < s.phi := by
  obtain ⟨l1, l2, l3, l4, l5, l6, st, en, _, A0, C0, bi⟩ := j
  subst e
  refine ⟨⟨l1, l2, l3, l4, l5, l6, .inr rfl, fun (q : s.f.sz = s.f.ce) => by omega, fun _ => am, A0, C0, bi⟩, ?_⟩
  show 2 * s.A + 2 * bt (s.f.ce - s.f.sz) - 1 < 2 * s.A + 2 * bt (s.f.ce - s.f.sz) - s.f.st
  omega
theorem Sr.change {s : Sr} {f : Fs} {S : Int} (j : s.J) (hl : s.f.sz < s.f.ce) (e : (s.g < s.f.aim ∧ f = ⟨s.f.sz, s.f.aim - 1, 0⟩) ∨ (s.f.aim ≤ s.g ∧ f = ⟨s.f.aim, s.f.ce, 0⟩)) :
    Sr.J { s with f := f, S := S } ∧ Sr.J { s with f := f, S := S, C := s.C + 1 } ∧ Sr.phi { s with f := f, S := S, C := s.C + 1 } < s.phi ∧ f.st = 0 ∧ 2 * (f.ce - f.sz) ≤ s.f.ce - s.f.sz ∧ ¬ (f.sz = s.f.sz ∧ f.ce = s.f.ce) := by
  obtain ⟨l1, l2, l3, l4, l5, l6, st, en, _, A0, C0, bi⟩ := j
  obtain ⟨a1, a2⟩ := aim_in hl
  have ae : s.f.aim = (s.f.sz + s.f.ce + 1) / 2 := by unfold Fs.aim; rw [if_pos hl]
  rcases e with ⟨h, rfl⟩ | ⟨h, rfl⟩
  · have b := bt_half (x := s.f.aim - 1 - s.f.sz) (y := s.f.ce - s.f.sz) (by omega) (by omega) (by omega)
    refine ⟨⟨l1, l2, l3, by show s.g ≤ s.f.aim - 1; omega, by show s.f.aim - 1 ≤ s.hi; omega, l6, .inl rfl, fun _ => rfl, (fun z => by cases z), A0, C0, by show s.C + bt (s.f.aim - 1 - s.f.sz) ≤ bt (s.hi - s.lo); omega⟩, ⟨l1, l2, l3, by show s.g ≤ s.f.aim - 1; omega, by show s.f.aim - 1 ≤ s.hi; omega, l6, .inl rfl, fun _ => rfl, (fun z => by cases z), A0, by show 0 ≤ s.C + 1; omega, by show s.C + 1 + bt (s.f.aim - 1 - s.f.sz) ≤ bt (s.hi - s.lo); omega⟩, ?_, rfl, by show 2 * (s.f.aim - 1 - s.f.sz) ≤ _; omega, fun (z : s.f.sz = s.f.sz ∧ s.f.aim - 1 = s.f.ce) => by omega⟩
    show 2 * s.A + 2 * bt (s.f.aim - 1 - s.f.sz) - 0 < 2 * s.A + 2 * bt (s.f.ce - s.f.sz) - s.f.st
    rcases st with e | e <;> omega
  · have b := bt_half (x := s.f.ce - s.f.aim) (y := s.f.ce - s.f.sz) (by omega) (by omega) (by omega)
    refine ⟨⟨l1, by show s.lo ≤ s.f.aim; omega, h, l4, l5, l6, .inl rfl, fun _ => rfl, (fun z => by cases z), A0, C0, by show s.C + bt (s.f.ce - s.f.aim) ≤ bt (s.hi - s.lo); omega⟩, ⟨l1, by show s.lo ≤ s.f.aim; omega, h, l4, l5, l6, .inl rfl, fun _ => rfl, (fun z => by cases z), A0, by show 0 ≤ s.C + 1; omega, by show s.C + 1 + bt (s.f.ce - s.f.aim) ≤ bt (s.hi - s.lo); omega⟩, ?_, rfl, by show 2 * (s.f.ce - s.f.aim) ≤ _; omega, fun (z : s.f.aim = s.f.sz ∧ s.f.ce = s.f.ce) => by omega⟩
    show 2 * s.A + 2 * bt (s.f.ce - s.f.aim) - 0 < 2 * s.A + 2 * bt (s.f.ce - s.f.sz) - s.f.st
    rcases st with e | e <;> omega
/-- at most the bag, the finder and the path change -/
def Sam (a e r : Addr) (H H' : Hp) : Prop := ∀ b o, b ≠ a → b ≠ e → b ≠ r → H b = some o → H' b = some o
theorem Sam.trans {a e r : Addr} {H H1 H2 : Hp} (x : Sam a e r H H1) (y : Sam a e r H1 H2) : Sam a e r H H2 := fun b o n1 n2 n3 h => y b o n1 n2 n3 (x b o n1 n2 n3 h)
theorem Sam.of {a e r : Addr} {H H1 : Hp} (x : Same H H1) : Sam a e r H H1 := fun b o _ _ _ h => x b o h
theorem Sam.a {a e r : Addr} {H H1 : Hp} (x : SameX a H H1) : Sam a e r H H1 := fun b o n _ _ h => x b o n h
theorem Sam.e {a e r : Addr} {H H1 : Hp} (x : SameX e H H1) : Sam a e r H H1 := fun b o _ n _ h => x b o n h
theorem Sam.r {a e r : Addr} {H H1 : Hp} (x : SameX r H H1) : Sam a e r H H1 := fun b o _ _ n h => x b o n h
def told (f : Fs) : List Int := [f.sz, f.ce, f.st, f.aim]
def sp__law_seen (K : PySem.W.Frag) (C : Addr) : Sp := fun vs H Q _ => ∃ (e r : Addr) (s : Sr), vs = [.ref e, .ref r] ∧ FinAt C H e s.f ∧ H r = some (.lst s.row) ∧ s.J ∧ ∀ l H', H l = none → Same H H' → H' l = some (.lst ((told s.f).map V.int)) → Q (.ref l) H'
theorem ok__law_seen (T : Txt K mg) : FnOk P w K mg base CX0 2 T.a__law_seen T.fd__law_seen ["finder", "path"] (sp__law_seen K T.c_Finder) := by
  have S := sc__law_seen
  refine T.F__law_seen.ok S (fun vs H Q E h => ?_) (fun cdv A outer s H vs Q E hr h => ?_)
  · obtain ⟨e, r, s, rfl, _⟩ := h
    rfl
  · obtain ⟨e, r, x, rfl, hE, hw, j, k⟩ := h
    obtain ⟨dx, he⟩ := id hE
    obtain ⟨l1, l2, l3, l4, l5, l6, st, en, am, A0, C0, bi⟩ := j
    refine ⟨_, (pss_cons (ps_set (i := 2) S.nd rfl (Or.inl rfl) (pe_lst (pa_cons (pe_fld (pv 0) rfl) (pa_cons (pe_fld (pv 0) rfl) (pa_cons (pe_fld (pv 0) rfl) (pa_cons (pe_meth0 (pv 0) T.cl_Finder T.m_Finder_trial (ok_Finder_trial T) (hr.mono (by decide)) T.B_Finder_trial .nil pass0) pa_nil))))))
      (pss_cons (ps_if (pt_not (pt_val (pe_callB (id := "all") (cr_all rfl) (by rfl) T.b_all (by decide +kernel) (pa_cons (pe_lc (own := [("one", 3)]) (g := gName 3) (tt := tYes) rfl S.nd (pi_list (pv 2)) (blkOk_by (N := ["finder", "path", "told", "one"]) (sc := defScope s__law_seen) (by decide +kernel)) (fun _ _ _ _ _ => pg_name (i := 3) S.nd rfl (Or.inl rfl)) (fun _ _ _ _ _ => pts_nil) (fun _ _ _ _ _ => (pe_call (ok__law_whole T) (hr.mono (by decide)) rfl T.g__law_whole T.F__law_whole.kp T.B__law_whole .nil pass0 (pa_cons (pv 3) pa_nil)))) pa_nil)))) (pss_one (ps_ret (pe_lst pa_nil))) pss_nil)
      (pss_cons (ps_if (pt_not (pt_chainN (pe_ix ix_list (pv 1) pe_int (fun _ _ => rfl)) (lk_cons op_le (pe_ix ix_list (pv 2) pe_int (fun _ _ => rfl)) (lk_cons op_le (pe_ix ix_list (pv 1) pe_int (fun _ _ => rfl)) (lk_cons op_le (pe_ix ix_list (pv 2) pe_int (fun _ _ => rfl)) (lk_last op_le (pe_ix ix_list (pv 1) pe_int (fun _ _ => rfl)))))))) (pss_one (ps_ret (pe_lst pa_nil))) pss_nil)
      (pss_cons (ps_if (pt_cmpR op_eq (pe_ix ix_list (pv 2) pe_int (fun _ _ => rfl)) (pe_ix ix_list (pv 2) pe_int (fun _ _ => rfl)) (nomark _)) (pss_one (ps_if (PW.pt (pw_or (pt_cmpR op_ne (pe_ix ix_list (pv 2) pe_int (fun _ _ => rfl)) pe_int (nomark _)) (pw_or1 (pt_cmpR op_ne (pe_ix ix_list (pv 2) pe_int (fun _ _ => rfl)) pe_int (nomark _))))) (pss_one (ps_ret (pe_lst pa_nil))) pss_nil)) (pss_one (ps_if (PW.pt (pw_or (pt_cmpR op_lt (pe_ix ix_list (pv 2) pe_int (fun _ _ => rfl)) pe_int (nomark _)) (pw_or (pt_cmpR op_gt (pe_ix ix_list (pv 2) pe_int (fun _ _ => rfl)) pe_int (nomark _)) (pw_or1 (pt_not (pt_chain op_lt op_le (pe_ix ix_list (pv 2) pe_int (fun _ _ => rfl)) (pe_ix ix_list (pv 2) pe_int (fun _ _ => rfl)) (pe_ix ix_list (pv 2) pe_int (fun _ _ => rfl)))))))) (pss_one (ps_ret (pe_lst pa_nil))) pss_nil)))
      (pss_one (ps_ret (pv 2))))))), ?_⟩
    refine st__law_seen ?_
    o_args
    refine fget he T.cl_Finder T.n_Finder_size rfl ?_
    o_args
    refine fget he T.cl_Finder T.n_Finder_ceiling rfl ?_
    o_args
    refine fget he T.cl_Finder T.n_Finder_strikes rfl ?_
    o_args
    refine ⟨e, dx, _, rfl, he, rfl, e, x.f, rfl, hE, ?_⟩
    o_args
    refine newList (by simp) fun D H1 hD s1 h1 => ?_
    have hw1 := s1 _ _ hw
    o_args
    refine lc_lstN (K := K) (fun i vs _ => vs = List.replicate i (.bl true)) (fun R q => ⟨_, rfl, q⟩) (SqL.of h1) (by simp) (fun _ _ => rfl) (fun _ _ _ _ _ h => h) (fun _ _ _ _ _ _ _ _ _ h => h) (fun B i v vs H' hi s hv _ _ _ Qe q => ?_) (fun B vs H2 hB hl hv h2 s2 => ?_)
    · have : ∃ z, v = V.int z := by
        have hm := List.mem_of_getElem? hi
        simp only [List.mem_cons, List.not_mem_nil, or_false] at hm
        rcases hm with h | h | h | h <;> exact ⟨_, h⟩
      obtain ⟨z, rfl⟩ := this
      o_args
      refine ⟨_, true, rfl, intK_int z, q _ _ (Same.refl _) ?_⟩
      rw [hv]
      exact (List.replicate_succ' ..).symm
    subst hv
    o_args
    refine ⟨B, List.replicate 4 true, rfl, SqL.of (by rw [h2]; rfl), ?_⟩
    rw [all_rep]
    have hw2 := s2 _ _ hw1
    have h12 := s2 _ _ h1
    have fin := k D H2 hD (s1.trans s2) h12
    o_args
    refine brDT l2 ?_
    o_args
    refine brDT l3 ?_
    o_args
    refine brDT l4 ?_
    o_args
    refine brDT l5 ?_
    o_args
    refine brD (fun q => ?_) (fun q => ?_)
    · have z := en q
      have z2 := aim_zero (f := x.f) (by omega)
      o_args
      refine brDT z ?_
      o_args
      refine brDT z2 ?_
      o_args
      exact fin
    · obtain ⟨a1, a2⟩ := aim_in (f := x.f) (by omega)
      o_args
      refine brDF (by omega) ?_
      o_args
      refine brDF (by omega) ?_
      o_args
      refine brDT a1 ?_
      o_args
      refine brDT a2 ?_
      o_args
      exact fin
/-! ### paths, steps -/
def sp__law_path : Sp := fun vs H Q _ => ∃ (a : Addr) (F : List Addr), vs = [.ref a] ∧ Bag a F H ∧ ∀ l s H', H l = none → H' l = some (.lst (Sr.row s)) → s.J → s.A ≤ 8 → s.f = ⟨s.lo, s.hi, 0⟩ → Bag a (l :: F) H' → SameX a H H' → Q (.ref l) H'
theorem ok__law_path (T : Txt K mg) : FnOk P w K mg base CX0 3 T.a__law_path T.fd__law_path ["bag"] (sp__law_path) := by
  have S := sc__law_path
  refine T.F__law_path.ok S (fun vs H Q E h => ?_) (fun cdv A outer s H vs Q E hr h => ?_)
  · obtain ⟨a, F, rfl, _⟩ := h
    rfl
  · obtain ⟨a, F, rfl, B0, k⟩ := h
    refine ⟨_, (pss_cons (ps_set (i := 1) S.nd rfl (Or.inl rfl) (pe_call (ok__law_bounds T) (hr.mono (by decide)) rfl T.g__law_bounds T.F__law_bounds.kp T.B__law_bounds .nil pass0 (pa_cons (pv 0) pa_nil)))
      (pss_cons (ps_set (i := 2) S.nd rfl (Or.inl rfl) (pe_call (ok__law_take T) (hr.mono (by decide)) rfl T.g__law_take T.F__law_take.kp T.B__law_take .nil pass0 (pa_cons (pv 0) (pa_cons pe_int pa_nil))))
      (pss_cons (ps_set (i := 3) S.nd rfl (Or.inl rfl) (pe_ix ix_list (pv 1) pe_int (fun _ _ => rfl)))
      (C8.pss_cut (ps_if (pt_cmpR op_eq (pv 2) pe_int (nomark _)) (pss_one (ps_set (i := 3) S.nd rfl (Or.inl rfl) (pe_ix ix_list (pv 1) pe_int (fun _ _ => rfl)))) (pss_one (ps_if (pt_cmpR op_gt (pv 2) pe_int (nomark _)) (pss_one (ps_set (i := 3) S.nd rfl (Or.inl rfl) (pe_op op_add (pe_ix ix_list (pv 1) pe_int (fun _ _ => rfl)) (pe_call (ok__law_take T) (hr.mono (by decide)) rfl T.g__law_take T.F__law_take.kp T.B__law_take .nil pass0 (pa_cons (pv 0) (pa_cons (pe_op op_add (pe_op op_sub (pe_ix ix_list (pv 1) pe_int (fun _ _ => rfl)) (pe_ix ix_list (pv 1) pe_int (fun _ _ => rfl))) pe_int) pa_nil)))))) pss_nil)))
      (pss_one (ps_ret (pe_lst (pa_cons (pe_ix ix_list (pv 1) pe_int (fun _ _ => rfl)) (pa_cons (pe_ix ix_list (pv 1) pe_int (fun _ _ => rfl)) (pa_cons (pv 3) (pa_cons (pe_call (ok__law_take T) (hr.mono (by decide)) rfl T.g__law_take T.F__law_take.kp T.B__law_take .nil pass0 (pa_cons (pv 0) (pa_cons pe_int pa_nil))) (pa_cons pe_int (pa_cons pe_int pa_nil))))))))))))), ?_⟩
    refine st__law_path ?_
    o_args
    refine ⟨a, F, rfl, B0, fun p H1 lo hi n1 npa h1 c1 c2 c3 B1 s1 => ?_⟩
    have B1 := B1.drop
    o_args
    refine ⟨a, 4, F, rfl, B1, by decide, by decide, fun way H2 a2 b2 B2 s2 => ?_⟩
    have h2 := s2 _ _ npa h1
    o_args
    refine ⟨fun σ H' => ∃ m : Int, σ = [some (.ref a), some (.ref p), some (.int way), some (.int m)] ∧ lo ≤ m ∧ m ≤ hi ∧ H' p = some (.lst [.int lo, .int hi]) ∧ Bag a F H' ∧ SameX a H H', ?_, ?_⟩
    · o_args
      refine brD (fun q => ?_) (fun q => ?_)
      · o_args
        exact ⟨_, rfl, c2, Int.le_refl _, h2, B2, s1.trans s2⟩
      o_args
      refine brD (fun q => ?_) (fun q => ?_)
      · o_args
        refine ⟨a, _, F, rfl, B2, by omega, by omega, fun d H3 a3 b3 B3 s3 => ?_⟩
        o_args
        exact ⟨_, rfl, by omega, by omega, s3 _ _ npa h2, B3, (s1.trans s2).trans s3⟩
      · o_args
        exact ⟨_, rfl, Int.le_refl _, c2, h2, B2, s1.trans s2⟩
    rintro σ H3 ⟨m, rfl, m1, m2, h3, B3, s3⟩
    o_args
    refine ⟨a, 9, F, rfl, B3, by decide, by decide, fun d H4 a4 b4 B4 s4 => ?_⟩
    o_args
    refine newList (by simp) fun l H5 hl s5 h5 => ?_
    o_args
    have nl := B4.new hl
    have hl0 : H l = none := none_back (s3.trans s4) nl hl
    refine k l ⟨⟨lo, hi, 0⟩, lo, hi, m, d, 0, 0⟩ H5 hl0 h5 ⟨c1, Int.le_refl _, m1, m2, Int.le_refl _, c3, .inl rfl, fun _ => rfl, (fun z => by cases z), a4, Int.le_refl _, ?_⟩ (by show d ≤ 8; omega) rfl (B4.own hl s5 ⟨_, h5⟩) ((s3.trans s4).trans (SameX.of s5))
    show 0 + bt (hi - lo) ≤ bt (hi - lo)
    omega
/-- what a step leaves -/
def Post (C a e r : Addr) (F : List Addr) (s : Sr) (H : Hp) (Q : VK) : Prop := ∀ (s' : Sr) H', s'.J → s'.phi < s.phi → FinAt C H' e s'.f → H' r = some (.lst s'.row) → Bag a F H' → Sam a e r H H' → Q (.bl true) H'
theorem fin_ne {C e r : Addr} {H : Hp} {f : Fs} {xs : List V} (h : FinAt C H e f) (h' : H r = some (.lst xs)) : e ≠ r := fun z => by
  obtain ⟨dx, h⟩ := h
  rw [z, h'] at h
  cases h
theorem FinAt.there {C e : Addr} {H : Hp} {f : Fs} (h : FinAt C H e f) : ∃ o, H e = some o := h.elim fun dx h => ⟨_, h⟩
def sp__law_aside (C : Addr) : Sp := fun vs H Q _ => ∃ (a e r q : Addr) (F : List Addr) (s : Sr), vs = [.ref a, .ref e, .ref r, .ref q] ∧ Bag a F H ∧ e ∈ F ∧ r ∈ F ∧ q ≠ a ∧ q ≠ e ∧ q ≠ r ∧ FinAt C H e s.f ∧ H r = some (.lst s.row) ∧ H q = some (.lst ((told s.f).map V.int)) ∧ s.J ∧ 0 < s.A ∧ Post C a e r F s H Q
theorem ok__law_aside (T : Txt K mg) : FnOk P w K mg base CX0 5 T.a__law_aside T.fd__law_aside ["bag", "finder", "path", "seen"] (sp__law_aside T.c_Finder) := by
  have S := sc__law_aside
  refine T.F__law_aside.ok S (fun vs H Q E h => ?_) (fun cdv A outer s H vs Q E hr h => ?_)
  · obtain ⟨a, e, r, q, F, s, rfl, _⟩ := h
    rfl
  · obtain ⟨a, e, r, q, F, x, rfl, B0, eF, rF, qa, qe, qr, hE, hw, hq, j, hA, k⟩ := h
    have ner := fin_ne hE hw
    have nea := B0.ne eF
    have nra := B0.ne rF
    have g0 : 0 ≤ x.g := by have := j.l1; have := j.l2; have := j.l3; omega
    have g1 : x.g ≤ 1400 := by have := j.l4; have := j.l5; have := j.l6; omega
    refine ⟨_, (pss_cons (ps_asg (pe_op op_sub (pe_ix ix_list (pv 2) pe_int (fun _ _ => rfl)) pe_int) (pg_sub (pv 2) pe_int set_list))
      (pss_cons (ps_if (pt_cmpR op_eq (pe_call (ok__law_take T) (hr.mono (by decide)) rfl T.g__law_take T.F__law_take.kp T.B__law_take .nil pass0 (pa_cons (pv 0) (pa_cons pe_int pa_nil))) pe_int (nomark _)) (pss_cons (ps_set (i := 4) S.nd rfl (Or.inl rfl) (pe_call (ok__law_take T) (hr.mono (by decide)) rfl T.g__law_take T.F__law_take.kp T.B__law_take .nil pass0 (pa_cons (pv 0) (pa_cons (pe_op op_add (pe_ix ix_list (pv 2) pe_int (fun _ _ => rfl)) pe_int) pa_nil))))
      (pss_cons (ps_if (pt_cmpR op_notN (pe_meth (pv 1) T.cl_Finder T.m_Finder_passed (ok_Finder_passed T) (hr.mono (by decide)) T.B_Finder_passed .nil passL (pa_cons (pv 4) pa_nil)) pe_non (nomark _)) (pss_one (ps_ret pe_bl)) pss_nil)
      (pss_cons (ps_set (i := 5) S.nd rfl (Or.inl rfl) (pe_call (ok__law_seen T) (hr.mono (by decide)) rfl T.g__law_seen T.F__law_seen.kp T.B__law_seen .nil pass0 (pa_cons (pv 1) (pa_cons (pv 2) pa_nil))))
      (pss_one (ps_ret (pe_and (pe_cmpR (op_neD hr.units) (pv 5) (pe_lst pa_nil) (nomark _)) (pe_one (pe_cmpR (op_eqD hr.units) (pe_slice sl_list (pv 5) po_none (po_some pe_int)) (pe_lst (pa_cons (pe_call (ok__law_greater T) (hr.mono (by decide)) rfl T.g__law_greater T.F__law_greater.kp T.B__law_greater .nil pass0 (pa_cons (pe_ix ix_list (pv 3) pe_int (fun _ _ => rfl)) (pa_cons (pv 4) pa_nil))) (pa_cons (pe_ix ix_list (pv 3) pe_int (fun _ _ => rfl)) pa_nil))) (nomark _))))))))) pss_nil)
      (pss_cons (ps_set (i := 6) S.nd rfl (Or.inl rfl) (pe_call (ok__law_take T) (hr.mono (by decide)) rfl T.g__law_take T.F__law_take.kp T.B__law_take .nil pass0 (pa_cons (pv 0) (pa_cons pe_int pa_nil))))
      (C8.pss_cut (ps_if (pt_cmpR op_eq (pv 6) (pe_ix ix_list (pv 3) pe_int (fun _ _ => rfl)) (nomark _)) (pss_one (ps_set (i := 6) S.nd rfl (Or.inl rfl) (pe_op op_add (pv 6) pe_int))) pss_nil)
      (pss_one (ps_ret (pe_and (pe_cmpR op_isN (pe_meth (pv 1) T.cl_Finder T.m_Finder_failed (ok_Finder_failed T) (hr.mono (by decide)) T.B_Finder_failed .nil passL (pa_cons (pv 6) pa_nil)) pe_non (nomark _)) (pe_one (pe_cmpR (op_eqD hr.units) (pe_call (ok__law_seen T) (hr.mono (by decide)) rfl T.g__law_seen T.F__law_seen.kp T.B__law_seen .nil pass0 (pa_cons (pv 1) (pa_cons (pv 2) pa_nil))) (pv 3) (nomark _)))))))))), ?_⟩
    refine st__law_aside ?_
    o_args
    refine setL (i := 3) hw (by show 3 < 6; decide) fun H1 s1 hw1 => ?_
    have hw1 : H1 r = some (.lst (Sr.row { x with A := x.A - 1 })) := hw1
    have B1 := B0.on rF s1 ⟨_, hw1⟩
    have hE1 := hE.on s1 ner
    have hq1 := s1 _ _ qr hq
    have f1 : Sam a e r H H1 := Sam.r s1
    o_args
    refine ⟨a, 2, F, rfl, B1, by decide, by decide, fun d H2 a2 b2 B2 s2 => ?_⟩
    have hw2 := s2 _ _ nra hw1
    have hE2 := hE1.on s2 nea
    have hq2 := s2 _ _ qa hq1
    have f2 := f1.trans (Sam.a s2)
    o_args
    refine brD (fun z => ?_) (fun z => ?_)
    · o_args
      refine ⟨a, _, F, rfl, B2, by show (0 : Int) < x.g + 1; omega, by show x.g + 1 < _; omega, fun n H3 n0 n1 B3 s3 => ?_⟩
      have n1 : n ≤ x.g := by have : n < x.g + 1 := n1; omega
      have hw3 := s3 _ _ nra hw2
      have hE3 := hE2.on s3 nea
      have hq3 := s3 _ _ qa hq2
      have f3 := f2.trans (Sam.a s3)
      obtain ⟨dx, he3⟩ := id hE3
      obtain ⟨jj, ph, fe⟩ := Sr.carry j hA n0 n1
      o_args
      refine ⟨e, dx, _, rfl, he3, rfl, ?_⟩
      o_args
      refine ⟨e, _, x.f, rfl, hE3, .inl ⟨n, rfl, n0, fun H4 s4 hE4 => ?_⟩⟩
      have hw4 := s4 _ _ ner.symm hw3
      have hq4 := s4 _ _ qe hq3
      have B4 := B3.on eF s4 hE4.there
      have f4 := f3.trans (Sam.e s4)
      o_args
      refine ⟨e, r, { x with f := x.f.pass n, A := x.A - 1 }, rfl, hE4, hw4, jj, fun N H5 nN s5 hN => ?_⟩
      o_args
      refine newList (by simp) fun Z H6 nZ s6 hZ => ?_
      refine neLL (K := K) (xs := told (x.f.pass n)) (ys := []) (SqL.of (s6 _ _ hN)) (SqL.of hZ) ?_
      rw [decide_eq_false (show ¬ told (x.f.pass n) = [] from fun z => nomatch z)]
      o_args
      refine sliceL (SqL.of (s6 _ _ hN)) fun L H7 nL s7 hL => ?_
      have hL : H7 L = some (.lst (cutV ((told (x.f.pass n)).map V.int) none (some ((2 : Nat) : Int)))) := hL
      rw [cut_to] at hL
      have hq7 := s7 _ _ (s6 _ _ (s5 _ _ hq4))
      o_args
      refine ⟨_, _, rfl, ?_⟩
      o_args
      refine newList (by simp) fun M H8 nM s8 hM => ?_
      refine eqLL (K := K) (xs := [max x.f.sz n, x.f.ce]) (ys := [max x.f.sz n, x.f.ce]) (SqL.of (by rw [s8 _ _ hL, fe]; rfl)) (SqL.of hM) ?_
      rw [decide_eq_true rfl]
      have S48 : Same H4 H8 := ((s5.trans s6).trans s7).trans s8
      exact k _ H8 jj ph (hE4.same S48) (S48 _ _ hw4) (B4.same S48) (f4.trans (Sam.of S48))
    · o_args
      refine ⟨a, _, F, rfl, B2, by decide, by decide, fun n H3 n0 n1 B3 s3 => ?_⟩
      have hw3 := s3 _ _ nra hw2
      have hE3 := hE2.on s3 nea
      have hq3 := s3 _ _ qa hq2
      have f3 := f2.trans (Sam.a s3)
      obtain ⟨jj, ph⟩ := Sr.idle j hA
      o_args
      refine ⟨fun σ H' => ∃ o : Int, (∃ v w, σ = [some (.ref a), some (.ref e), some (.ref r), some (.ref q), v, w, some (.int o)]) ∧ o ≠ x.f.aim ∧ 0 ≤ o ∧ H' = H3, ?_, ?_⟩
      · o_args
        refine brD (fun z => ?_) (fun z => ?_)
        · o_args
          exact ⟨_, ⟨_, _, rfl⟩, by omega, by omega, rfl⟩
        · o_args
          exact ⟨_, ⟨_, _, rfl⟩, z, n0, rfl⟩
      rintro σ H3' ⟨o, ⟨v, w, rfl⟩, no, o0, rfl⟩
      obtain ⟨dx, he3⟩ := id hE3
      o_args
      refine ⟨e, dx, _, rfl, he3, rfl, ?_⟩
      o_args
      have ff : x.f.fail o = x.f := by unfold Fs.fail; rw [if_neg (fun z => no z.2)]
      refine ⟨e, _, x.f, rfl, hE3, .inl ⟨o, rfl, o0, fun H4 s4 hE4 => ?_⟩⟩
      rw [ff] at hE4
      have hw4 := s4 _ _ ner.symm hw3
      have hq4 := s4 _ _ qe hq3
      have B4 := B3.on eF s4 hE4.there
      have f4 := f3.trans (Sam.e s4)
      o_args
      refine ⟨e, r, { x with A := x.A - 1 }, rfl, hE4, hw4, jj, fun N H5 nN s5 hN => ?_⟩
      o_args
      refine eqLL (K := K) (xs := told x.f) (ys := told x.f) (SqL.of hN) (SqL.of (s5 _ _ hq4)) ?_
      rw [decide_eq_true rfl]
      exact k _ H5 jj ph (hE4.same s5) (s5 _ _ hw4) (B4.same s5) (f4.trans (Sam.of s5))
def sp__law_answer (C : Addr) : Sp := fun vs H Q _ => ∃ (a e r : Addr) (F : List Addr) (s : Sr), vs = [.ref a, .ref e, .ref r, .int s.f.aim] ∧ Bag a F H ∧ e ∈ F ∧ r ∈ F ∧ FinAt C H e s.f ∧ H r = some (.lst s.row) ∧ s.J ∧ s.f.sz < s.f.ce ∧
  ∀ (f : Fs) (S : Int) H', Ans s f S → FinAt C H' e f → H' r = some (.lst (Sr.row { s with S := S })) → Bag a F H' → Sam a e r H H' → Q (.bl true) H'
theorem ok__law_answer (T : Txt K mg) : FnOk P w K mg base CX0 5 T.a__law_answer T.fd__law_answer ["bag", "finder", "path", "aim"] (sp__law_answer T.c_Finder) := by
  have S := sc__law_answer
  refine T.F__law_answer.ok S (fun vs H Q E h => ?_) (fun cdv A outer s H vs Q E hr h => ?_)
  · obtain ⟨a, e, r, F, s, rfl, _⟩ := h
    rfl
  · obtain ⟨a, e, r, F, x, rfl, B0, eF, rF, hE, hw, j, hl, k⟩ := h
    have ner := fin_ne hE hw
    have nea := B0.ne eF
    have nra := B0.ne rF
    obtain ⟨a1, a2⟩ := aim_in hl
    have a0 : 0 < x.f.aim := by have := j.l1; have := j.l2; omega
    obtain ⟨dx, he⟩ := id hE
    refine ⟨_, (pss_cons (ps_if (pt_cmpR op_gt (pv 3) (pe_ix ix_list (pv 2) pe_int (fun _ _ => rfl)) (nomark _)) (pss_one (ps_ret (pe_cmpR op_isN (pe_meth (pv 1) T.cl_Finder T.m_Finder_failed (ok_Finder_failed T) (hr.mono (by decide)) T.B_Finder_failed .nil passL (pa_cons (pv 3) pa_nil)) pe_non (nomark _)))) pss_nil)
      (pss_cons (ps_if (PW.pt (pw_and (pt_cmpR op_ne (pe_ix ix_list (pv 2) pe_int (fun _ _ => rfl)) (pv 3) (nomark _)) (pw_and1 (pt_cmpR op_eq (pe_call (ok__law_take T) (hr.mono (by decide)) rfl T.g__law_take T.F__law_take.kp T.B__law_take .nil pass0 (pa_cons (pv 0) (pa_cons pe_int pa_nil))) pe_int (nomark _))))) (pss_cons (ps_asg (pv 3) (pg_sub (pv 2) pe_int set_list))
      (pss_one (ps_ret (pe_cmpR op_isN (pe_meth (pv 1) T.cl_Finder T.m_Finder_failed (ok_Finder_failed T) (hr.mono (by decide)) T.B_Finder_failed .nil passL (pa_cons (pv 3) pa_nil)) pe_non (nomark _))))) pss_nil)
      (pss_one (ps_ret (pe_cmpR op_isN (pe_meth (pv 1) T.cl_Finder T.m_Finder_passed (ok_Finder_passed T) (hr.mono (by decide)) T.B_Finder_passed .nil passL (pa_cons (pv 3) pa_nil)) pe_non (nomark _)))))), ?_⟩
    refine st__law_answer ?_
    o_args
    refine brD (fun z => ?_) (fun z => ?_)
    · have z : x.g < x.f.aim := z
      o_args
      refine ⟨e, dx, _, rfl, he, rfl, ?_⟩
      o_args
      refine ⟨e, _, x.f, rfl, hE, .inl ⟨_, rfl, by omega, fun H1 s1 hE1 => ?_⟩⟩
      o_args
      have ans : Ans x (x.f.fail x.f.aim) x.S := by
        unfold Fs.fail
        rw [if_pos ⟨by omega, rfl⟩]
        rcases j.st with h | h
        · rw [if_neg (by omega)]
          exact .inl ⟨h, by rw [h]; rfl, .inl z⟩
        · rw [if_pos (by omega)]
          exact .inr (.inl ⟨z, rfl⟩)
      exact k _ _ H1 ans hE1 (s1 _ _ ner.symm hw) (B0.on eF s1 hE1.there) (Sam.e s1)
    have z : x.f.aim ≤ x.g := by have z : ¬ x.g < x.f.aim := z; omega
    have last : ∀ (H1 : Hp) (Q' : VK) (E' : XK), FinAt T.c_Finder H1 e x.f → H1 r = some (.lst x.row) → Bag a F H1 → Sam a e r H H1 → (∀ H2, SameX e H1 H2 → FinAt T.c_Finder H2 e ⟨x.f.aim, x.f.ce, 0⟩ → Q' .non H2) → sp_Finder_passed K T.c_Finder T.c_InvalidNumber [.ref e, .int x.f.aim] H1 Q' E' := fun H1 Q' E' hE1 _ _ _ q => by
      have pe : x.f.pass x.f.aim = ⟨x.f.aim, x.f.ce, 0⟩ := by
        unfold Fs.pass
        rw [if_pos a1, show min x.f.aim x.f.ce = x.f.aim by omega]
      exact ⟨e, _, x.f, rfl, hE1, .inl ⟨_, rfl, by omega, fun H2 s2 h2 => q H2 s2 (pe ▸ h2)⟩⟩
    o_args
    refine brD (fun p => ?_) (fun p => ?_)
    · o_args
      refine ⟨e, dx, _, rfl, he, rfl, ?_⟩
      o_args
      refine last H _ _ hE hw B0 (Sam.of (Same.refl H)) fun H2 s2 hE2 => ?_
      o_args
      exact k _ _ H2 (.inr (.inr ⟨z, rfl⟩)) hE2 (s2 _ _ ner.symm hw) (B0.on eF s2 hE2.there) (Sam.e s2)
    o_args
    refine ⟨a, 4, F, rfl, B0, by decide, by decide, fun d H1 b1 c1 B1 s1 => ?_⟩
    have hw1 := s1 _ _ nra hw
    have hE1 := hE.on s1 nea
    have he1 := s1 _ _ nea he
    o_args
    refine brD (fun p' => ?_) (fun p' => ?_)
    · o_args
      refine setL (i := 5) hw1 (by show 5 < 6; decide) fun H2 s2 hw2 => ?_
      have hw2 : H2 r = some (.lst (Sr.row { x with S := x.f.aim })) := hw2
      have hE2 := hE1.on s2 ner
      have he2 := s2 _ _ ner he1
      have B2 := B1.on rF s2 ⟨_, hw2⟩
      o_args
      refine ⟨e, dx, _, rfl, he2, rfl, ?_⟩
      o_args
      refine ⟨e, _, x.f, rfl, hE2, .inl ⟨_, rfl, by omega, fun H3 s3 hE3 => ?_⟩⟩
      o_args
      have st0 : x.f.st = 0 := by
        rcases j.st with h | h
        · exact h
        · rcases j.aim h with h | h
          · omega
          · exact absurd h p
      have ans : Ans x (x.f.fail x.f.aim) x.f.aim := by
        unfold Fs.fail
        rw [if_pos ⟨by omega, rfl⟩, if_neg (by omega)]
        exact .inl ⟨st0, by rw [st0]; rfl, .inr rfl⟩
      exact k _ _ H3 ans hE3 (s3 _ _ ner.symm hw2) (B2.on eF s3 hE3.there) (((Sam.a s1).trans (Sam.r s2)).trans (Sam.e s3))
    · o_args
      refine ⟨e, dx, _, rfl, he1, rfl, ?_⟩
      o_args
      refine last H1 _ _ hE1 hw1 B1 (Sam.a s1) fun H2 s2 hE2 => ?_
      o_args
      exact k _ _ H2 (.inr (.inr ⟨z, rfl⟩)) hE2 (s2 _ _ ner.symm hw1) (B1.on eF s2 hE2.there) ((Sam.a s1).trans (Sam.e s2))
/-! ### a step, the end -/
def sp__law_step (C : Addr) : Sp := fun vs H Q _ => ∃ (a e r : Addr) (F : List Addr) (s : Sr), vs = [.ref a, .ref e, .ref r] ∧ Bag a F H ∧ e ∈ F ∧ r ∈ F ∧ FinAt C H e s.f ∧ H r = some (.lst s.row) ∧ s.J ∧ s.f.sz < s.f.ce ∧ Post C a e r F s H Q
theorem ok__law_step (T : Txt K mg) : FnOk P w K mg base CX0 6 T.a__law_step T.fd__law_step ["bag", "finder", "path"] (sp__law_step T.c_Finder) := by
  have S := sc__law_step
  refine T.F__law_step.ok S (fun vs H Q E h => ?_) (fun cdv A outer s H vs Q E hr h => ?_)
  · obtain ⟨a, e, r, F, s, rfl, _⟩ := h
    rfl
  · obtain ⟨a, e, r, F, x, rfl, B0, eF, rF, hE, hw, j, hl, k⟩ := h
    have ner := fin_ne hE hw
    have nea := B0.ne eF
    have nra := B0.ne rF
    refine ⟨_, (pss_cons (ps_set (i := 3) S.nd rfl (Or.inl rfl) (pe_call (ok__law_seen T) (hr.mono (by decide)) rfl T.g__law_seen T.F__law_seen.kp T.B__law_seen .nil pass0 (pa_cons (pv 1) (pa_cons (pv 2) pa_nil))))
      (pss_cons (ps_if (pt_cmpR (op_eqD hr.units) (pv 3) (pe_lst pa_nil) (nomark _)) (pss_one (ps_ret pe_bl)) pss_nil)
      (C8.pss_cut (ps_if (PW.pt (pw_and (pt_cmpR op_gt (pe_ix ix_list (pv 2) pe_int (fun _ _ => rfl)) pe_int (nomark _)) (pw_and1 (pt_cmpR op_eq (pe_call (ok__law_take T) (hr.mono (by decide)) rfl T.g__law_take T.F__law_take.kp T.B__law_take .nil pass0 (pa_cons (pv 0) (pa_cons pe_int pa_nil))) pe_int (nomark _))))) (pss_one (ps_ret (pe_call (ok__law_aside T) (hr.mono (by decide)) rfl T.g__law_aside T.F__law_aside.kp T.B__law_aside .nil pass0 (pa_cons (pv 0) (pa_cons (pv 1) (pa_cons (pv 2) (pa_cons (pv 3) pa_nil))))))) pss_nil)
      (pss_cons (ps_if (pt_not (pt_val (pe_call (ok__law_answer T) (hr.mono (by decide)) rfl T.g__law_answer T.F__law_answer.kp T.B__law_answer .nil pass0 (pa_cons (pv 0) (pa_cons (pv 1) (pa_cons (pv 2) (pa_cons (pe_ix ix_list (pv 3) pe_int (fun _ _ => rfl)) pa_nil))))))) (pss_one (ps_ret pe_bl)) pss_nil)
      (pss_cons (ps_set (i := 4) S.nd rfl (Or.inl rfl) (pe_call (ok__law_seen T) (hr.mono (by decide)) rfl T.g__law_seen T.F__law_seen.kp T.B__law_seen .nil pass0 (pa_cons (pv 1) (pa_cons (pv 2) pa_nil))))
      (pss_cons (ps_if (pt_cmpR (op_eqD hr.units) (pv 4) (pe_lst pa_nil) (nomark _)) (pss_one (ps_ret pe_bl)) pss_nil)
      (pss_cons (ps_if (pt_cmpR (op_eqD hr.units) (pe_slice sl_list (pv 4) po_none (po_some pe_int)) (pe_slice sl_list (pv 3) po_none (po_some pe_int)) (nomark _)) (pss_one (ps_ret (pe_and (pe_cmpR op_eq (pe_ix ix_list (pv 3) pe_int (fun _ _ => rfl)) pe_int (nomark _)) (pe_one (pe_cmpR op_eq (pe_ix ix_list (pv 4) pe_int (fun _ _ => rfl)) pe_int (nomark _)))))) pss_nil)
      (pss_cons (ps_asg (pe_op op_add (pe_ix ix_list (pv 2) pe_int (fun _ _ => rfl)) pe_int) (pg_sub (pv 2) pe_int set_list))
      (pss_one (ps_ret (pe_and (pe_cmpR op_eq (pe_ix ix_list (pv 4) pe_int (fun _ _ => rfl)) pe_int (nomark _)) (pe_one (pe_cmpR op_le (pe_op op_mul pe_int (pe_op op_sub (pe_ix ix_list (pv 4) pe_int (fun _ _ => rfl)) (pe_ix ix_list (pv 4) pe_int (fun _ _ => rfl)))) (pe_op op_sub (pe_ix ix_list (pv 3) pe_int (fun _ _ => rfl)) (pe_ix ix_list (pv 3) pe_int (fun _ _ => rfl))) (nomark _)))))))))))))), ?_⟩
    refine st__law_step ?_
    o_args
    refine ⟨e, r, x, rfl, hE, hw, j, fun q H1 nq s1 hq => ?_⟩
    have qa : q ≠ a := B0.new nq
    have qe : q ≠ e := (ne_of_none hE.choose_spec nq).symm
    have qr : q ≠ r := (ne_of_none hw nq).symm
    o_args
    refine newList (by simp) fun Z H2 nZ s2 hZ => ?_
    have hq2 := s2 _ _ hq
    refine eqLL (K := K) (xs := told x.f) (ys := []) (SqL.of hq2) (SqL.of hZ) ?_
    rw [decide_eq_false (show ¬ told x.f = [] from fun z => nomatch z)]
    have S2 := s1.trans s2
    have hw2 := S2 _ _ hw
    have hE2 := hE.same S2
    have B2 := B0.same S2
    o_args
    refine ⟨fun σ H' => σ = [some (.ref a), some (.ref e), some (.ref r), some (.ref q), none] ∧ Bag a F H' ∧ SameX a H2 H', ?_, ?_⟩
    · o_args
      refine brD (fun z => ?_) (fun z => ?_)
      · o_args
        refine ⟨a, 3, F, rfl, B2, by decide, by decide, fun d H3 a3 b3 B3 s3 => ?_⟩
        o_args
        refine brD (fun z' => ?_) (fun z' => ?_)
        · o_args
          exact ⟨a, e, r, q, F, x, rfl, B3, eF, rF, qa, qe, qr, hE2.on s3 nea, s3 _ _ nra hw2, s3 _ _ qa hq2, j, z, fun s' H' j' ph hE' hw' B' f' => k s' H' j' ph hE' hw' B' (((Sam.of S2).trans (Sam.a s3)).trans f')⟩
        · o_args
          exact ⟨rfl, B3, s3⟩
      · o_args
        exact ⟨rfl, B2, SameX.refl⟩
    rintro σ H3 ⟨rfl, B3, s3⟩
    have hw3 := s3 _ _ nra hw2
    have hE3 := hE2.on s3 nea
    have hq3 := s3 _ _ qa hq2
    have f3 : Sam a e r H H3 := (Sam.of S2).trans (Sam.a s3)
    o_args
    refine ⟨a, e, r, F, x, rfl, B3, eF, rF, hE3, hw3, j, hl, fun f S H4 ans hE4 hw4 B4 f4 => ?_⟩
    have hq4 := f4 _ _ qa qe qr hq3
    have cases' : (x.f.st = 0 ∧ f = ⟨x.f.sz, x.f.ce, 1⟩ ∧ (x.g < x.f.aim ∨ S = x.f.aim)) ∨ ((x.g < x.f.aim ∧ f = ⟨x.f.sz, x.f.aim - 1, 0⟩) ∨ (x.f.aim ≤ x.g ∧ f = ⟨x.f.aim, x.f.ce, 0⟩)) := ans
    have jj : Sr.J { x with f := f, S := S } := by
      rcases cases' with ⟨z, e1, e2⟩ | e1
      · exact (Sr.strike j hl z e1 e2).1
      · exact (Sr.change j hl e1).1
    o_args
    refine ⟨e, r, { x with f := f, S := S }, rfl, hE4, hw4, jj, fun N H5 nN s5 hN => ?_⟩
    o_args
    refine newList (by simp) fun Z' H6 nZ' s6 hZ' => ?_
    have hN6 := s6 _ _ hN
    refine eqLL (K := K) (xs := told f) (ys := []) (SqL.of hN6) (SqL.of hZ') ?_
    rw [decide_eq_false (show ¬ told f = [] from fun z => nomatch z)]
    have hq6 := s6 _ _ (s5 _ _ hq4)
    o_args
    refine sliceL (SqL.of hN6) fun L H7 nL s7 hL => ?_
    have hL : H7 L = some (.lst (cutV ((told f).map V.int) none (some ((2 : Nat) : Int)))) := hL
    rw [cut_to] at hL
    have hq7 := s7 _ _ hq6
    o_args
    refine sliceL (SqL.of hq7) fun M H8 nM s8 hM => ?_
    have hM : H8 M = some (.lst (cutV ((told x.f).map V.int) none (some ((2 : Nat) : Int)))) := hM
    rw [cut_to] at hM
    refine eqLL (K := K) (xs := [f.sz, f.ce]) (ys := [x.f.sz, x.f.ce]) (SqL.of (by rw [s8 _ _ hL]; rfl)) (SqL.of (by rw [hM]; rfl)) ?_
    have S48 : Same H4 H8 := ((s5.trans s6).trans s7).trans s8
    have hq8 := s8 _ _ hq7
    have hN8 := s8 _ _ (s7 _ _ hN6)
    have hw8 := S48 _ _ hw4
    have hE8 := hE4.same S48
    have B8 := B4.same S48
    have f8 : Sam a e r H H8 := (f3.trans f4).trans (Sam.of S48)
    o_args
    rcases cases' with ⟨z, e1, e2⟩ | e1
    · obtain ⟨_, ph⟩ := Sr.strike j hl z e1 e2
      subst e1
      refine brDT rfl ?_
      o_args
      refine brDT z ?_
      o_args
      exact k _ H8 jj ph hE8 hw8 B8 f8
    · obtain ⟨_, j9, ph, st0, half, ne⟩ := Sr.change (S := S) j hl e1
      refine brDF (fun z => ne ⟨(List.cons.inj z).1, (List.cons.inj (List.cons.inj z).2).1⟩) ?_
      o_args
      refine setL (i := 4) hw8 (by show 4 < 6; decide) fun H9 s9 hw9 => ?_
      have hw9 : H9 r = some (.lst (Sr.row { x with f := f, S := S, C := x.C + 1 })) := hw9
      have hE9 := hE8.on s9 ner
      have hq9 := s9 _ _ qr hq8
      have nNr : N ≠ r := (ne_of_none hw4 nN).symm
      have hN9 := s9 _ _ nNr hN8
      o_args
      refine brDT st0 ?_
      o_args
      rw [decide_eq_true half]
      exact k _ H9 j9 ph hE9 hw9 (B8.on rF s9 ⟨_, hw9⟩) (f8.trans (Sam.r s9))
def sp__law_ended (C : Addr) : Sp := fun vs H Q _ => ∃ (a e r : Addr) (F : List Addr) (s : Sr), vs = [.ref a, .ref e, .ref r] ∧ Bag a F H ∧ e ∈ F ∧ r ∈ F ∧ FinAt C H e s.f ∧ H r = some (.lst s.row) ∧ s.J ∧ s.f.sz = s.f.ce ∧ ∀ H', Bag a F H' → Sam a e r H H' → Q (.bl true) H'
theorem ok__law_ended (T : Txt K mg) : FnOk P w K mg base CX0 5 T.a__law_ended T.fd__law_ended ["bag", "finder", "path"] (sp__law_ended T.c_Finder) := by
  have S := sc__law_ended
  refine T.F__law_ended.ok S (fun vs H Q E h => ?_) (fun cdv A outer s H vs Q E hr h => ?_)
  · obtain ⟨a, e, r, F, s, rfl, _⟩ := h
    rfl
  · obtain ⟨a, e, r, F, x, rfl, B0, eF, rF, hE, hw, j, hl, k⟩ := h
    have ner := fin_ne hE hw
    have nea := B0.ne eF
    have nra := B0.ne rF
    have g1 : x.f.sz = x.g := by have := j.l3; have := j.l4; omega
    have g2 : x.f.ce = x.g := by omega
    have st0 := j.ended hl
    have am := aim_zero (f := x.f) (by omega)
    have td : told x.f = [x.g, x.g, 0, 0] := by unfold told; rw [g1, g2, st0, am]
    have ff : ∀ n, x.f.fail n = x.f := fun n => by unfold Fs.fail; rw [if_neg (fun z => z.1 (z.2.trans am))]
    have fp : ∀ n, x.f.pass n = x.f := fun n => by
      unfold Fs.pass
      by_cases z : x.f.sz < n
      · rw [if_pos z, show min n x.f.ce = x.f.sz by omega, show (0 : Int) = x.f.st from st0.symm]
      · rw [if_neg z]
    have gnn : 0 ≤ x.g := by have := j.l1; have := j.l2; omega
    refine ⟨_, (pss_cons (ps_set (i := 3) S.nd rfl (Or.inl rfl) (pe_op op_sub (pe_ix ix_list (pv 2) pe_int (fun _ _ => rfl)) (pe_ix ix_list (pv 2) pe_int (fun _ _ => rfl))))
      (pss_cons (ps_set (i := 4) S.nd rfl (Or.inl rfl) (pe_lst (pa_cons (pe_ix ix_list (pv 2) pe_int (fun _ _ => rfl)) (pa_cons (pe_ix ix_list (pv 2) pe_int (fun _ _ => rfl)) (pa_cons pe_int (pa_cons pe_int pa_nil))))))
      (pss_cons (ps_if (PW.pt (pw_or (pt_cmpR op_gt (pe_ix ix_list (pv 2) pe_int (fun _ _ => rfl)) (pe_bits (pv 3)) (nomark _)) (pw_or1 (pt_cmpR (op_neD hr.units) (pe_call (ok__law_seen T) (hr.mono (by decide)) rfl T.g__law_seen T.F__law_seen.kp T.B__law_seen .nil pass0 (pa_cons (pv 1) (pa_cons (pv 2) pa_nil))) (pv 4) (nomark _))))) (pss_one (ps_ret pe_bl)) pss_nil)
      (pss_cons (ps_for PassesOwn.never rfl (pi_list (pe_lst (pa_cons pe_int (pa_cons (pe_ix ix_list (pv 2) pe_int (fun _ _ => rfl)) (pa_cons (pe_op op_add (pe_ix ix_list (pv 2) pe_int (fun _ _ => rfl)) pe_int) (pa_cons (pe_call (ok__law_take T) (hr.mono (by decide)) rfl T.g__law_take T.F__law_take.kp T.B__law_take .nil pass0 (pa_cons (pv 0) (pa_cons pe_int pa_nil))) pa_nil)))))) (pg_name (i := 5) S.nd rfl (Or.inl rfl)) (pss_cons (ps_if (PW.pt (pw_or (pt_cmpR op_notN (pe_meth (pv 1) T.cl_Finder T.m_Finder_failed (ok_Finder_failed T) (hr.mono (by decide)) T.B_Finder_failed .nil passL (pa_cons (pv 5) pa_nil)) pe_non (nomark _)) (pw_or1 (pt_cmpR (op_neD hr.units) (pe_call (ok__law_seen T) (hr.mono (by decide)) rfl T.g__law_seen T.F__law_seen.kp T.B__law_seen .nil pass0 (pa_cons (pv 1) (pa_cons (pv 2) pa_nil))) (pv 4) (nomark _))))) (pss_one (ps_ret pe_bl)) pss_nil)
      (pss_one (ps_if (PW.pt (pw_or (pt_cmpR op_notN (pe_meth (pv 1) T.cl_Finder T.m_Finder_passed (ok_Finder_passed T) (hr.mono (by decide)) T.B_Finder_passed .nil passL (pa_cons (pv 5) pa_nil)) pe_non (nomark _)) (pw_or1 (pt_cmpR (op_neD hr.units) (pe_call (ok__law_seen T) (hr.mono (by decide)) rfl T.g__law_seen T.F__law_seen.kp T.B__law_seen .nil pass0 (pa_cons (pv 1) (pa_cons (pv 2) pa_nil))) (pv 4) (nomark _))))) (pss_one (ps_ret pe_bl)) pss_nil))))
      (pss_one (ps_ret pe_bl)))))), ?_⟩
    refine st__law_ended ?_
    o_args
    refine newList (by simp) fun D H1 nD s1 hD => ?_
    have hw1 := s1 _ _ hw
    have Da : D ≠ a := B0.new nD
    have De : D ≠ e := (ne_of_none hE.choose_spec nD).symm
    have Dr : D ≠ r := (ne_of_none hw nD).symm
    have hD : H1 D = some (.lst ((told x.f).map V.int)) := by rw [td]; exact hD
    have B1 := B0.same s1
    have hE1 := hE.same s1
    o_args
    have bd : ¬ ((Builtin.Int.intBits (x.hi - x.lo) : Nat) : Int) < x.C := by
      have h := j.bits
      have h2 := bt_nn (x.f.ce - x.f.sz)
      have h3 : x.C ≤ bt (x.hi - x.lo) := by omega
      unfold bt at h3
      omega
    refine brDF bd ?_
    o_args
    refine ⟨e, r, x, rfl, hE1, hw1, j, fun N H2 nN s2 hN => ?_⟩
    have hD2 := s2 _ _ hD
    o_args
    refine neLL (K := K) (xs := told x.f) (ys := told x.f) (SqL.of hN) (SqL.of hD2) ?_
    rw [decide_eq_true rfl]
    have hw2 := s2 _ _ hw1
    have B2 := B1.same s2
    have hE2 := hE1.same s2
    o_args
    refine ⟨a, _, F, rfl, B2, by decide, by decide, fun n H3 n0 n1 B3 s3 => ?_⟩
    o_args
    refine newList (by simp) fun M H4 nM s4 hM => ?_
    have Me : M ≠ e := (ne_of_none (hE2.on s3 nea).choose_spec nM).symm
    have Ma : M ≠ a := B3.new nM
    have f4 : Sam a e r H H4 := ((Sam.of (s1.trans s2)).trans (Sam.a s3)).trans (Sam.of s4)
    refine overL (SqL.of hM) (for_list (K := K) (a := M) (xs := [.int 0, .int x.g, .int (x.g + 1), .int n]) (fun i σ H' => ∃ w d v, σ = [some (.ref a), some (.ref e), some (.ref r), w, some (.ref D), v] ∧ w = d ∧ H' M = some (.lst [.int 0, .int x.g, .int (x.g + 1), .int n]) ∧ H' D = some (.lst ((told x.f).map V.int)) ∧ H' r = some (.lst x.row) ∧ FinAt T.c_Finder H' e x.f ∧ Bag a F H' ∧ Sam a e r H H') ⟨_, _, _, rfl, rfl, hM, s4 _ _ (s3 _ _ Da hD2), s4 _ _ (s3 _ _ nra hw2), (hE2.on s3 nea).same s4, B3.same s4, f4⟩ (fun i σ H' _ ⟨_, _, _, _, _, h, _⟩ => SqL.of h) ?_ ?_)
    · rintro i v σ H5 hi ⟨w, d, u, rfl, _, hM5, hD5, hw5, hE5, B5, f5⟩
      have : ∃ m : Int, v = .int m ∧ 0 ≤ m := by
        have hm := List.mem_of_getElem? hi
        simp only [List.mem_cons, List.not_mem_nil, or_false] at hm
        rcases hm with h | h | h | h
        · exact ⟨_, h, by omega⟩
        · exact ⟨_, h, by omega⟩
        · exact ⟨_, h, by omega⟩
        · exact ⟨_, h, n0⟩
      obtain ⟨m, rfl, m0⟩ := this
      obtain ⟨dx, he5⟩ := id hE5
      o_args
      refine ⟨e, dx, _, rfl, he5, rfl, ?_⟩
      o_args
      refine ⟨e, _, x.f, rfl, hE5, .inl ⟨m, rfl, m0, fun H6 s6 hE6 => ?_⟩⟩
      rw [ff] at hE6
      have hw6 := s6 _ _ ner.symm hw5
      have hD6 := s6 _ _ De hD5
      have hM6 := s6 _ _ Me hM5
      have B6 := B5.on eF s6 hE6.there
      o_args
      refine ⟨e, r, x, rfl, hE6, hw6, j, fun N7 H7 nN7 s7 hN7 => ?_⟩
      o_args
      refine neLL (K := K) (xs := told x.f) (ys := told x.f) (SqL.of hN7) (SqL.of (s7 _ _ hD6)) ?_
      rw [decide_eq_true rfl]
      have hE7 := hE6.same s7
      obtain ⟨dy, he7⟩ := id hE7
      o_args
      refine ⟨e, dy, _, rfl, he7, rfl, ?_⟩
      o_args
      refine ⟨e, _, x.f, rfl, hE7, .inl ⟨m, rfl, m0, fun H8 s8 hE8 => ?_⟩⟩
      rw [fp] at hE8
      have hw8 := s8 _ _ ner.symm (s7 _ _ hw6)
      have hD8 := s8 _ _ De (s7 _ _ hD6)
      have hM8 := s8 _ _ Me (s7 _ _ hM6)
      have B8 := (B6.same s7).on eF s8 hE8.there
      o_args
      refine ⟨e, r, x, rfl, hE8, hw8, j, fun N9 H9 nN9 s9 hN9 => ?_⟩
      o_args
      refine neLL (K := K) (xs := told x.f) (ys := told x.f) (SqL.of hN9) (SqL.of (s9 _ _ hD8)) ?_
      rw [decide_eq_true rfl]
      o_args
      exact ⟨_, _, _, rfl, rfl, s9 _ _ hM8, s9 _ _ hD8, s9 _ _ hw8, hE8.same s9, B8.same s9, (((f5.trans (Sam.e s6)).trans (Sam.of s7)).trans (Sam.e s8)).trans (Sam.of s9)⟩
    · rintro σ H5 ⟨w, d, u, rfl, _, _, _, _, _, B5, f5⟩
      o_args
      exact k H5 B5 f5
/-! ### the law -/
theorem srOk {C : Addr} : AtOk (fun H e (s : Sr) => FinAt C H e s.f) := ⟨fun h s => FinAt.same h s, fun h s n => FinAt.on h s n, fun ⟨dx, h⟩ => ⟨_, _, _, h⟩⟩
theorem Wd.both {α : Type} {rw : α → List V} {At : Hp → Addr → α → Prop} {n : Nat} {a R L : Addr} {rs es : List Addr} {xs ys : List α} {H H' : Hp} {i : Nat} {e r : Addr} {s' : α} (W : Wd rw At n a R L rs es xs ys H) (he : es[i]? = some e) (hw : rs[i]? = some r) (f : Sam a e r H H')
    (sm : ∀ {e' : Addr} {x : α}, e' ≠ a → e' ≠ e → e' ≠ r → At H e' x → At H' e' x) (hE : At H' e s') (hW : H' r = some (.lst (rw s'))) (B : Bag a (R :: L :: (rs ++ es)) H') : Wd rw At n a R L rs es (xs.set i s') (ys.set i s') H' := by
  obtain ⟨n1, n2, n3, n4, n5, n6, n7, n8⟩ := W.apart
  have me := List.mem_of_getElem? he
  have mr := List.mem_of_getElem? hw
  have inF : ∀ b ∈ R :: L :: (rs ++ es), b ≠ a := fun b hb => B.ne hb
  refine ⟨W.ok, f _ _ (inF _ (List.mem_cons_self ..)) (fun z => n3 (z ▸ me)) (fun z => n2 (z ▸ mr)) W.hR, f _ _ (inF _ (List.mem_cons_of_mem _ (List.mem_cons_self ..))) (fun z => n5 (z ▸ me)) (fun z => n4 (z ▸ mr)) W.hL, fun k r' y h1 h2 => ?_, fun k e' x h1 h2 => ?_, B, W.nd, ?_⟩
  · rcases set_at h2 with ⟨rfl, rfl⟩ | ⟨q, h2⟩
    · rw [hw] at h1
      cases h1
      exact hW
    · exact f _ _ (inF _ (Wd.inF h1)) (n8 r' (List.mem_of_getElem? h1) e me) (fun z => q (nd_inj n6 (z ▸ h1) hw)) (W.rows k r' y h1 h2)
  · rcases set_at h2 with ⟨rfl, rfl⟩ | ⟨q, h2⟩
    · rw [he] at h1
      cases h1
      exact hE
    · exact sm (inF _ (Wd.inF' h1)) (fun z => q (nd_inj n7 (z ▸ h1) he)) (fun z => n8 r mr e' (List.mem_of_getElem? h1) z.symm) (W.ests k e' x h1 h2)
  · obtain ⟨l1, l2, l3, l4⟩ := W.len
    exact ⟨l1, l2, by rw [List.length_set]; exact l3, by rw [List.length_set]; exact l4⟩
theorem sum_set {s' : Sr} : ∀ {xs : List Sr} {i : Nat} {x : Sr}, xs[i]? = some x → ((xs.set i s').map Sr.phi).sum = (xs.map Sr.phi).sum - x.phi + s'.phi
  | [], _, _, h => by cases h
  | y :: ys, 0, x, h => by
    cases h
    simp only [List.set_cons_zero, List.map_cons, List.sum_cons]
    omega
  | y :: ys, i + 1, x, h => by
    have := sum_set (s' := s') (xs := ys) (i := i) (x := x) h
    simp only [List.set_cons_succ, List.map_cons, List.sum_cons, this]
    omega
theorem sum_nn : ∀ {xs : List Sr}, (∀ x ∈ xs, x.J) → 0 ≤ (xs.map Sr.phi).sum
  | [], _ => Int.le_refl _
  | y :: ys, h => by
    have h1 := Sr.phi_nn (h y (List.mem_cons_self ..))
    have h2 := sum_nn (xs := ys) fun x hx => h x (List.mem_cons_of_mem _ hx)
    simp only [List.map_cons, List.sum_cons]
    omega
theorem aim_end {s : Sr} (j : s.J) (h : s.f.aim = 0) : s.f.sz = s.f.ce := by
  have := j.l1; have := j.l2; have := j.l3; have := j.l4
  by_cases q : s.f.sz < s.f.ce
  · have := (aim_in q).1
    omega
  · omega
theorem aim_run {s : Sr} (h : s.f.aim ≠ 0) : s.f.sz < s.f.ce := by
  by_cases q : s.f.sz < s.f.ce
  · exact q
  · exact absurd (aim_zero q) h
def sp_law (K : PySem.W.Frag) : Sp := fun vs H Q _ => ∃ (a : Addr) (ns : List Int), vs = [.ref a] ∧ SqL K H a (ns.map V.int) ∧ ns.length ≤ 63 ∧ ∀ H', Q (.bl true) H'
theorem ok_law (T : Txt K mg) : FnOk P w K mg base CX0 7 T.a_law T.fd_law ["script"] (sp_law K) := by
  have S := sc_law
  refine T.F_law.ok S (fun vs H Q E h => ?_) (fun cdv A outer s H vs Q E hr h => ?_)
  · obtain ⟨a, ns, rfl, _⟩ := h
    rfl
  · obtain ⟨a, ns, rfl, hS, hl, k⟩ := h
    refine ⟨_, (pss_cons (ps_set (i := 1) S.nd rfl (Or.inl rfl) (pe_call (ok__law_bag T) (hr.mono (by decide)) rfl T.g__law_bag T.F__law_bag.kp T.B__law_bag .nil pass0 (pa_cons (pv 0) pa_nil)))
      (pss_cons (ps_set (i := 2) S.nd rfl (Or.inl rfl) (pe_lst (pa_cons (pe_call (ok__law_path T) (hr.mono (by decide)) rfl T.g__law_path T.F__law_path.kp T.B__law_path .nil pass0 (pa_cons (pv 1) pa_nil)) (pa_cons (pe_call (ok__law_path T) (hr.mono (by decide)) rfl T.g__law_path T.F__law_path.kp T.B__law_path .nil pass0 (pa_cons (pv 1) pa_nil)) pa_nil))))
      (pss_cons (ps_setLc (i := 3) (own := [("path", 7)]) (g := gName 7) (tt := tYes) rfl S.nd rfl rfl (sw_true rfl rfl rfl (by decide +kernel)) (pi_list (pv 2)) (blkOk_by (N := ["script", "bag", "paths", "pair", "turn", "side", "other", "path"]) (sc := defScope s_law) (by decide +kernel)) (fun _ _ _ _ _ => pg_name (i := 7) S.nd rfl (Or.inl rfl)) (fun _ _ _ _ _ => pts_nil) (fun _ _ _ _ _ => (pe_make T.M_Finder (ok_Finder_init_ T) (hr.mono (by decide)) rfl T.g_Finder T.B_Finder_init_ .nil passL (pa_cons (pe_ix (show IxR _ (rIxL K) from ix_list) (pv 7) pe_int (fun _ _ => rfl)) (pa_cons (pe_ix (show IxR _ (rIxL K) from ix_list) (pv 7) pe_int (fun _ _ => rfl)) pa_nil)))))
      (C8.pss_cut (ps_for PassesOwn.never rfl (pi_range1 (by rfl) T.b_range (pa_cons pe_int pa_nil)) (pg_name (i := 4) S.nd rfl (Or.inl rfl)) (pss_cons (ps_set (i := 5) S.nd rfl (Or.inl rfl) (pe_call (ok__law_take T) (hr.mono (by decide)) rfl T.g__law_take T.F__law_take.kp T.B__law_take .nil pass0 (pa_cons (pv 1) (pa_cons pe_int pa_nil))))
      (C8.pss_cut (ps_if (pt_cmpR op_eq (pe_meth0 (pe_ix ix_list (pv 3) (pv 5) (fun _ _ => rfl)) T.cl_Finder T.m_Finder_trial (ok_Finder_trial T) (hr.mono (by decide)) T.B_Finder_trial .nil pass0) pe_int (nomark _)) (pss_one (ps_set (i := 5) S.nd rfl (Or.inl rfl) (pe_op op_sub pe_int (pv 5)))) pss_nil)
      (C8.pss_cut (ps_if (pt_cmpR op_eq (pe_meth0 (pe_ix ix_list (pv 3) (pv 5) (fun _ _ => rfl)) T.cl_Finder T.m_Finder_trial (ok_Finder_trial T) (hr.mono (by decide)) T.B_Finder_trial .nil pass0) pe_int (nomark _)) (pss_one ps_break) pss_nil)
      (pss_cons (ps_set (i := 6) S.nd rfl (Or.inl rfl) (pe_call (ok__law_seen T) (hr.mono (by decide)) rfl T.g__law_seen T.F__law_seen.kp T.B__law_seen .nil pass0 (pa_cons (pe_ix ix_list (pv 3) (pe_op op_sub pe_int (pv 5)) (fun _ _ => rfl)) (pa_cons (pe_ix ix_list (pv 2) (pe_op op_sub pe_int (pv 5)) (fun _ _ => rfl)) pa_nil))))
      (pss_cons (ps_if (PW.pt (pw_or (pt_cmpR (op_eqD hr.units) (pv 6) (pe_lst pa_nil) (nomark _)) (pw_or1 (pt_not (pt_val (pe_call (ok__law_step T) (hr.mono (by decide)) rfl T.g__law_step T.F__law_step.kp T.B__law_step .nil pass0 (pa_cons (pv 1) (pa_cons (pe_ix ix_list (pv 3) (pv 5) (fun _ _ => rfl)) (pa_cons (pe_ix ix_list (pv 2) (pv 5) (fun _ _ => rfl)) pa_nil))))))))) (pss_one (ps_ret pe_bl)) pss_nil)
      (pss_one (ps_if (pt_cmpR (op_neD hr.units) (pe_call (ok__law_seen T) (hr.mono (by decide)) rfl T.g__law_seen T.F__law_seen.kp T.B__law_seen .nil pass0 (pa_cons (pe_ix ix_list (pv 3) (pe_op op_sub pe_int (pv 5)) (fun _ _ => rfl)) (pa_cons (pe_ix ix_list (pv 2) (pe_op op_sub pe_int (pv 5)) (fun _ _ => rfl)) pa_nil))) (pv 6) (nomark _)) (pss_one (ps_ret pe_bl)) pss_nil))))))))
      (pss_one (ps_ret (pe_and (pe_call (ok__law_ended T) (hr.mono (by decide)) rfl T.g__law_ended T.F__law_ended.kp T.B__law_ended .nil pass0 (pa_cons (pv 1) (pa_cons (pe_ix ix_list (pv 3) pe_int (fun _ _ => rfl)) (pa_cons (pe_ix ix_list (pv 2) pe_int (fun _ _ => rfl)) pa_nil)))) (pe_one (pe_call (ok__law_ended T) (hr.mono (by decide)) rfl T.g__law_ended T.F__law_ended.kp T.B__law_ended .nil pass0 (pa_cons (pv 1) (pa_cons (pe_ix ix_list (pv 3) pe_int (fun _ _ => rfl)) (pa_cons (pe_ix ix_list (pv 2) pe_int (fun _ _ => rfl)) pa_nil)))))))))))), ?_⟩
    refine st_law ?_
    o_args
    refine ⟨a, ns, rfl, hS, hl, fun b H1 nb s1 B1 => ?_⟩
    o_args
    refine ⟨b, [], rfl, B1, fun r0 x0 H2 n2 h2 j0 A0 f0 B2 s2 => ?_⟩
    o_args
    refine ⟨b, [r0], rfl, B2, fun r1 x1 H3 n3 h3 j1 A1 f1 B3 s3 => ?_⟩
    have h23 := s3 _ _ (B2.ne (List.mem_cons_self ..)) h2
    o_args
    refine newList (by simp) fun R H4 n4 s4 h4 => ?_
    have B4 := B3.own n4 s4 ⟨_, h4⟩
    have k0 := s4 _ _ h23
    have k1 := s4 _ _ h3
    have d01 : r0 ≠ r1 := ne_of_none h2 n3
    have dR0 : R ≠ r0 := (ne_of_none h23 n4).symm
    have dR1 : R ≠ r1 := (ne_of_none h3 n4).symm
    o_args
    refine lc_world (K := K) (rw := Sr.row) (At := fun H e s => FinAt T.c_Finder H e s.f) (n := 2) (a := b) (R := R) (rs := [r0, r1]) (xs := [x0, x1]) srOk (by decide) (fun R q => ⟨_, rfl, q⟩) h4 (fun i r x h1 h2 => ?_) rfl rfl (B4.less fun c hc => ?_) ?_ (fun i r x H' Qe h1 h2 hw q => ?_) (fun L es H5 W _ => ?_)
    · have : i < 2 := getq_lt h1
      have : i = 0 ∨ i = 1 := by omega
      rcases this with rfl | rfl <;> cases h1 <;> cases h2
      · exact k0
      · exact k1
    · simp only [List.mem_cons, List.not_mem_nil, or_false] at hc ⊢
      rcases hc with h | h | h <;> simp [h]
    · simp only [List.nodup_cons, List.mem_cons, List.not_mem_nil, or_false, not_or, not_false_eq_true, and_true, List.nodup_nil]
      exact ⟨⟨dR0, dR1⟩, d01⟩
    · have bd : x.J ∧ x.f = ⟨x.lo, x.hi, 0⟩ := by
        have : i < 2 := getq_lt h1
        have : i = 0 ∨ i = 1 := by omega
        rcases this with rfl | rfl <;> cases h2
        · exact ⟨j0, f0⟩
        · exact ⟨j1, f1⟩
      obtain ⟨j, ef⟩ := bd
      have c1 := j.l1
      have c2 : x.lo ≤ x.hi := by have := j.l2; have := j.l3; have := j.l4; have := j.l5; omega
      have c3 := j.l6
      rw [ef] at q
      o_args
      intro e dx he hdx ne
      exact ⟨e, _, _, rfl, .inl ⟨dx, x.lo, x.hi, rfl, rfl, upd_same, c1, c2, c3, fun H2 s2 h2 => ⟨rfl, q e H2 he (same_made he hdx s2) h2⟩⟩⟩
    have J0 : ∀ x ∈ [x0, x1], x.J := fun x hx => by
      simp only [List.mem_cons, List.not_mem_nil, or_false] at hx
      rcases hx with h | h <;> rw [h]
      · exact j0
      · exact j1
    have small : ∀ x : Sr, x.J → x.A ≤ 8 → x.f = ⟨x.lo, x.hi, 0⟩ → x.phi ≤ 38 := fun x j hA ef => by
      have b := bt_small (x := x.f.ce - x.f.sz) (by have := j.l3; have := j.l4; omega) (by have := j.l1; have := j.l2; have := j.l5; have := j.l6; omega)
      have z : x.f.st = 0 := by rw [ef]
      unfold Sr.phi
      omega
    have T0 : ([x0, x1].map Sr.phi).sum ≤ 76 := by
      have := small x0 j0 A0 f0
      have := small x1 j1 A1 f1
      simp only [List.map_cons, List.map_nil, List.sum_cons, List.sum_nil]
      omega
    generalize [x0, x1] = xs at W J0 T0
    clear s1 s2 s3 s4 h2 h3 h4 h23 B1 B2 B3 B4 k0 k1 n2 n3 n4 d01 dR0 dR1 j0 j1 A0 A1 f0 f1 small nb
    o_args
    refine ⟨fun σ H' => ∃ xs v1 v2 v3, σ = [some (.ref a), some (.ref b), some (.ref R), some (.ref L), v1, v2, v3, none] ∧ Wd Sr.row (fun H e (s : Sr) => FinAt T.c_Finder H e s.f) 2 b R L [r0, r1] es xs xs H' ∧ (∀ x ∈ xs, x.J) ∧ ∀ x ∈ xs, x.f.sz = x.f.ce, ?_, ?_⟩
    · o_args
      refine rngF (n := 120) (by decide) (by decide) (for_range (lo := 0) (n := (120 : Int).toNat) (fun i σ H' => ∃ xs v1 v2 v3, σ = [some (.ref a), some (.ref b), some (.ref R), some (.ref L), v1, v2, v3, none] ∧ Wd Sr.row (fun H e (s : Sr) => FinAt T.c_Finder H e s.f) 2 b R L [r0, r1] es xs xs H' ∧ (∀ x ∈ xs, x.J) ∧ (xs.map Sr.phi).sum + (i : Int) ≤ 76) ⟨xs, none, none, none, rfl, W, J0, by omega⟩ ?_ ?_)
      · clear W J0 T0
        rintro i σ H1 _ ⟨xs, v1, v2, v3, rfl, W, J, Tt⟩
        obtain ⟨l1, l2, l3, _⟩ := W.len
        o_args
        refine ⟨b, 2, _, rfl, W.bag, by decide, by decide, fun d H3 a3 b3 B3 s3 => ?_⟩
        have W := W.take B3 s3
        obtain ⟨m, rfl⟩ : ∃ m : Nat, d = m := ⟨d.toNat, by omega⟩
        have hm2 : m < 2 := by omega
        o_args
        refine ⟨fun σ H' => ∃ j : Nat, j < 2 ∧ σ = [some (.ref a), some (.ref b), some (.ref R), some (.ref L), some (.int (0 + (i : Int))), some (.int (j : Int)), v3, none] ∧ H' = H3 ∧ ((∃ y, xs[1 - j]? = some y ∧ y.f.aim = 0) ∨ ∃ y, xs[j]? = some y ∧ y.f.aim ≠ 0), ?_, ?_⟩
        · obtain ⟨e, he⟩ := some_at (l := es) (i := m) (by omega)
          obtain ⟨x, hx⟩ := some_at (l := xs) (i := m) (by omega)
          obtain ⟨dx, hdx⟩ := W.ests m e x he hx
          o_args
          refine ixL W.hL (ref_at he) ?_
          refine ⟨e, dx, _, rfl, hdx, rfl, e, x.f, rfl, ⟨dx, hdx⟩, ?_⟩
          o_args
          refine brD (fun q => ?_) (fun q => ?_)
          · o_args
            refine ⟨1 - m, by omega, by rw [show (1 : Int) - (m : Int) = ((1 - m : Nat) : Int) by omega], rfl, .inl ⟨x, by rw [show 1 - (1 - m) = m by omega]; exact hx, q⟩⟩
          · o_args
            exact ⟨m, hm2, rfl, rfl, .inr ⟨x, hx, q⟩⟩
        rintro σ H3' ⟨j, hj, rfl, rfl, hor⟩
        obtain ⟨e, he⟩ := some_at (l := es) (i := j) (by omega)
        obtain ⟨r, hw⟩ := some_at (l := [r0, r1]) (i := j) (by show j < 2; omega)
        obtain ⟨x, hx⟩ := some_at (l := xs) (i := j) (by omega)
        obtain ⟨e', he'⟩ := some_at (l := es) (i := 1 - j) (by omega)
        obtain ⟨r', hw'⟩ := some_at (l := [r0, r1]) (i := 1 - j) (by show 1 - j < 2; omega)
        obtain ⟨x', hx'⟩ := some_at (l := xs) (i := 1 - j) (by omega)
        have jx := J x (List.mem_of_getElem? hx)
        have jx' := J x' (List.mem_of_getElem? hx')
        o_args
        refine ⟨fun σ H' => σ = [some (.ref a), some (.ref b), some (.ref R), some (.ref L), some (.int (0 + (i : Int))), some (.int (j : Int)), v3, none] ∧ H' = H3' ∧ x.f.aim ≠ 0, ?_, ?_⟩
        · obtain ⟨dx, hdx⟩ := W.ests j e x he hx
          o_args
          refine ixL W.hL (ref_at he) ?_
          refine ⟨e, dx, _, rfl, hdx, rfl, e, x.f, rfl, ⟨dx, hdx⟩, ?_⟩
          o_args
          refine brD (fun q => ?_) (fun q => ?_)
          · o_args
            refine ⟨xs, _, _, _, rfl, W, J, fun z hz => ?_⟩
            obtain ⟨y, hy, ay⟩ : ∃ y, xs[1 - j]? = some y ∧ y.f.aim = 0 := by
              rcases hor with h | ⟨y, hy, ny⟩
              · exact h
              · rw [hx] at hy
                cases hy
                exact absurd q ny
            obtain ⟨p, hp⟩ := List.mem_iff_getElem?.mp hz
            have hp2 := getq_lt hp
            by_cases e1 : p = j
            · rw [e1, hx] at hp
              cases hp
              exact aim_end jx q
            · rw [show p = 1 - j by omega, hy] at hp
              cases hp
              exact aim_end (J _ hz) ay
          · o_args
            exact ⟨rfl, rfl, q⟩
        rintro σ H4 ⟨rfl, rfl, na⟩
        o_args
        rw [show (1 : Int) - (j : Int) = ((1 - j : Nat) : Int) by omega]
        refine ixL W.hL (ref_at he') ?_
        o_args
        rw [show (1 : Int) - (j : Int) = ((1 - j : Nat) : Int) by omega]
        refine ixL W.hR (ref_at hw') ?_
        o_args
        refine ⟨e', r', x', rfl, W.ests _ e' x' he' hx', W.rows _ r' x' hw' hx', jx', fun O H5 nO s5 hO => ?_⟩
        have Oa : O ≠ b := W.bag.new nO
        have Oe : O ≠ e := (ne_of_none (W.ests j e x he hx).choose_spec nO).symm
        have Or : O ≠ r := (ne_of_none (W.rows j r x hw hx) nO).symm
        have W := W.same s5
        o_args
        refine newList (by simp) fun Z H6 nZ s6 hZ => ?_
        have hO := s6 _ _ hO
        have W := W.same s6
        refine eqLL (K := K) (xs := told x'.f) (ys := []) (SqL.of hO) (SqL.of hZ) ?_
        rw [decide_eq_false (show ¬ told x'.f = [] from fun z => nomatch z)]
        o_args
        refine ixL W.hL (ref_at he) ?_
        o_args
        refine ixL W.hR (ref_at hw) ?_
        o_args
        refine ⟨b, e, r, _, x, rfl, W.bag, Wd.inF' he, Wd.inF hw, W.ests j e x he hx, W.rows j r x hw hx, jx, aim_run na, fun s' H7 j' ph hE7 hw7 B7 f7 => ?_⟩
        have W := W.both he hw f7 (fun n1 n2 n3 ⟨dx, h⟩ => ⟨dx, f7 _ _ n1 n2 n3 h⟩) hE7 hw7 B7
        have hO := f7 _ _ Oa Oe Or hO
        have hx2 : (xs.set j s')[1 - j]? = some x' := by rw [List.getElem?_set_ne (by omega)]; exact hx'
        o_args
        rw [show (1 : Int) - (j : Int) = ((1 - j : Nat) : Int) by omega]
        refine ixL W.hL (ref_at he') ?_
        o_args
        rw [show (1 : Int) - (j : Int) = ((1 - j : Nat) : Int) by omega]
        refine ixL W.hR (ref_at hw') ?_
        o_args
        refine ⟨e', r', x', rfl, W.ests _ e' x' he' hx2, W.rows _ r' x' hw' hx2, jx', fun O2 H8 nO2 s8 hO2 => ?_⟩
        o_args
        refine neLL (K := K) (xs := told x'.f) (ys := told x'.f) (SqL.of hO2) (SqL.of (s8 _ _ hO)) ?_
        rw [decide_eq_true rfl]
        o_args
        refine ⟨_, _, _, _, rfl, W.same s8, fun z hz => ?_, ?_⟩
        · obtain ⟨p, hp⟩ := List.mem_iff_getElem?.mp hz
          rcases set_at hp with ⟨_, rfl⟩ | ⟨_, hp⟩
          · exact j'
          · exact J z (List.mem_of_getElem? hp)
        · rw [sum_set hx]
          omega
      · rintro σ H1 ⟨xs, v1, v2, v3, rfl, W, J, Tt⟩
        have := sum_nn J
        have Tt : (xs.map Sr.phi).sum + (120 : Int) ≤ 76 := Tt
        omega
    rintro σ H1 ⟨xs, v1, v2, v3, rfl, W, J, en⟩
    obtain ⟨l1, l2, l3, _⟩ := W.len
    obtain ⟨e0, he0⟩ := some_at (l := es) (i := 0) (by omega)
    obtain ⟨e1, he1⟩ := some_at (l := es) (i := 1) (by omega)
    obtain ⟨x0, hx0⟩ := some_at (l := xs) (i := 0) (by omega)
    obtain ⟨x1, hx1⟩ := some_at (l := xs) (i := 1) (by omega)
    obtain ⟨_, nR, nR', nL, nL', ndr, nde, ner⟩ := W.apart
    o_args
    refine ixL (i := 0) W.hL (ref_at he0) ?_
    o_args
    refine ixL (i := 0) W.hR rfl ?_
    o_args
    refine ⟨b, e0, r0, _, x0, rfl, W.bag, Wd.inF' he0, Wd.inF (i := 0) rfl, W.ests 0 e0 x0 he0 hx0, W.rows 0 r0 x0 rfl hx0, J _ (List.mem_of_getElem? hx0), en _ (List.mem_of_getElem? hx0), fun H2 B2 f2 => ?_⟩
    have rR : H2 R = some (.lst ([r0, r1].map V.ref)) := f2 _ _ (B2.ne (List.mem_cons_self ..)) (fun z => nR' (z ▸ List.mem_of_getElem? he0)) (fun z => nR (z ▸ List.mem_cons_self ..)) W.hR
    have rL : H2 L = some (.lst (es.map V.ref)) := f2 _ _ (B2.ne (List.mem_cons_of_mem _ (List.mem_cons_self ..))) (fun z => nL' (z ▸ List.mem_of_getElem? he0)) (fun z => nL (z ▸ List.mem_cons_self ..)) W.hL
    have d10 : e1 ≠ e0 := fun z => by
      have := nd_inj nde (z ▸ he1) he0
      omega
    have r10 : r1 ≠ r0 := fun z => by
      have : (1 : Nat) = 0 := nd_inj (x := r0) ndr (by rw [← z]; rfl) rfl
      omega
    have x1r0 : e1 ≠ r0 := (ner r0 (List.mem_cons_self ..) e1 (List.mem_of_getElem? he1)).symm
    have r1e0 : r1 ≠ e0 := ner r1 (List.mem_cons_of_mem _ (List.mem_cons_self ..)) e0 (List.mem_of_getElem? he0)
    o_args
    refine ixL (i := 1) rL (ref_at he1) ?_
    o_args
    refine ⟨b, e1, r1, _, x1, rfl, B2, Wd.inF' he1, Wd.inF (i := 1) rfl, ?_, f2 _ _ (B2.ne (Wd.inF (i := 1) rfl)) r1e0 r10 (W.rows 1 r1 x1 rfl hx1), J _ (List.mem_of_getElem? hx1), en _ (List.mem_of_getElem? hx1), fun H3 _ _ => k H3⟩
    obtain ⟨dx, h⟩ := W.ests 1 e1 x1 he1 hx1
    exact ⟨dx, f2 _ _ (B2.ne (Wd.inF' he1)) d10 x1r0 h⟩
end
set_option maxHeartbeats 0 in
theorem all_mk {l : PySem.W.OpenLaw} {w : World} {K : PySem.W.Frag} {h : Heap} {mg : Str → Option Value} {fa : Addr} (X : K.In h) (G : h.Ns mainGlobals mg) (hfa : mg "law" = some (.ref fa))
    {c_Finder c_LossError c_InvalidNumber c_InvalidSetting a_InvalidNumber_init_ a_InvalidSetting_init_ a_is_integer a_is_between a_is_at_least a_require_count a_Finder_init_ a_Finder_trial a_Finder_passed a_Finder_failed a_Finder_copied a__law_whole a__law_bag a__law_take a__law_lesser a__law_greater a__law_bounds a__law_path a__law_seen a__law_aside a__law_answer a__law_step a__law_ended a_law : Addr}
    {od_InvalidNumber_init_ an_InvalidNumber_init_ od_InvalidSetting_init_ an_InvalidSetting_init_ od_is_integer an_is_integer od_is_between an_is_between od_is_at_least an_is_at_least od_require_count an_require_count od_Finder_init_ an_Finder_init_ od_Finder_trial an_Finder_trial od_Finder_passed an_Finder_passed od_Finder_failed an_Finder_failed od_Finder_copied an_Finder_copied od__law_whole an__law_whole od__law_bag an__law_bag od__law_take an__law_take od__law_lesser an__law_lesser od__law_greater an__law_greater od__law_bounds an__law_bounds od__law_path an__law_path od__law_seen an__law_seen od__law_aside an__law_aside od__law_answer an__law_answer od__law_step an__law_step od__law_ended an__law_ended od_law an_law : Option Addr} {sl_InvalidNumber_init_ sl_InvalidSetting_init_ sl_is_integer sl_is_between sl_is_at_least sl_require_count sl_Finder_init_ sl_Finder_trial sl_Finder_passed sl_Finder_failed sl_Finder_copied sl__law_whole sl__law_bag sl__law_take sl__law_lesser sl__law_greater sl__law_bounds sl__law_path sl__law_seen sl__law_aside sl__law_answer sl__law_step sl__law_ended sl_law : Array (Option Value)}
    {oc_InvalidNumber_init_ kV_InvalidNumber_init_ dc_InvalidNumber_init_ pm_InvalidNumber_init_ cd_InvalidNumber_init_ ct_InvalidNumber_init_ oc_InvalidSetting_init_ kV_InvalidSetting_init_ dc_InvalidSetting_init_ pm_InvalidSetting_init_ cd_InvalidSetting_init_ ct_InvalidSetting_init_ oc_is_integer kV_is_integer dc_is_integer pm_is_integer cd_is_integer ct_is_integer oc_is_between kV_is_between dc_is_between pm_is_between cd_is_between ct_is_between oc_is_at_least kV_is_at_least dc_is_at_least pm_is_at_least cd_is_at_least ct_is_at_least oc_require_count kV_require_count dc_require_count pm_require_count cd_require_count ct_require_count oc_Finder_init_ kV_Finder_init_ dc_Finder_init_ pm_Finder_init_ cd_Finder_init_ ct_Finder_init_ oc_Finder_trial kV_Finder_trial dc_Finder_trial pm_Finder_trial cd_Finder_trial ct_Finder_trial oc_Finder_passed kV_Finder_passed dc_Finder_passed pm_Finder_passed cd_Finder_passed ct_Finder_passed oc_Finder_failed kV_Finder_failed dc_Finder_failed pm_Finder_failed cd_Finder_failed ct_Finder_failed oc_Finder_copied kV_Finder_copied dc_Finder_copied pm_Finder_copied cd_Finder_copied ct_Finder_copied oc__law_whole kV__law_whole dc__law_whole pm__law_whole cd__law_whole ct__law_whole oc__law_bag kV__law_bag dc__law_bag pm__law_bag cd__law_bag ct__law_bag oc__law_take kV__law_take dc__law_take pm__law_take cd__law_take ct__law_take oc__law_lesser kV__law_lesser dc__law_lesser pm__law_lesser cd__law_lesser ct__law_lesser oc__law_greater kV__law_greater dc__law_greater pm__law_greater cd__law_greater ct__law_greater oc__law_bounds kV__law_bounds dc__law_bounds pm__law_bounds cd__law_bounds ct__law_bounds oc__law_path kV__law_path dc__law_path pm__law_path cd__law_path ct__law_path oc__law_seen kV__law_seen dc__law_seen pm__law_seen cd__law_seen ct__law_seen oc__law_aside kV__law_aside dc__law_aside pm__law_aside cd__law_aside ct__law_aside oc__law_answer kV__law_answer dc__law_answer pm__law_answer cd__law_answer ct__law_answer oc__law_step kV__law_step dc__law_step pm__law_step cd__law_step ct__law_step oc__law_ended kV__law_ended dc__law_ended pm__law_ended cd__law_ended ct__law_ended oc_law kV_law dc_law pm_law cd_law ct_law : Value}
    {u_MOST_BYTES u_MOST_STRIKES : Value}
    {xn_InvalidNumber xq_InvalidNumber : Str} {xN_InvalidNumber : Addr} {xb_InvalidNumber xm_InvalidNumber : List Value} {xs_InvalidNumber : List Str} {xu_InvalidNumber : List Value} {xa_InvalidNumber : Bool} {xo_InvalidNumber : _} {xd_InvalidNumber : Option Addr} {x0_InvalidNumber x1_InvalidNumber x2_InvalidNumber x3_InvalidNumber x5_InvalidNumber : Option Value}
    {xn_InvalidSetting xq_InvalidSetting : Str} {xN_InvalidSetting : Addr} {xb_InvalidSetting xm_InvalidSetting : List Value} {xs_InvalidSetting : List Str} {xu_InvalidSetting : List Value} {xa_InvalidSetting : Bool} {xo_InvalidSetting : _} {xd_InvalidSetting : Option Addr} {x0_InvalidSetting x1_InvalidSetting x2_InvalidSetting x3_InvalidSetting x5_InvalidSetting : Option Value}
    (aC_Finder : PySem.W.nsIn K mainGlobals "Finder" = some (some (.ref c_Finder)))
    (pg_Finder : PySem.W.plainGet K c_Finder Str.empty = true)
    (hd_Finder : PySem.W.hasDictIn K c_Finder = true)
    (po_Finder : PySem.W.plainOver K c_Finder = true)
    (sa_Finder : PySem.W.findIn K (.ref c_Finder) "__setattr__" = some (some (.builtin "object.__setattr__")))
    (mk_Finder : PySem.W.makesIn K c_Finder = true)
    (kc_Finder : PySem.W.keepIn K (.ref c_Finder) = true)
    (n_Finder_size : PySem.W.findIn K (.ref c_Finder) "size" = some none)
    (n_Finder_ceiling : PySem.W.findIn K (.ref c_Finder) "ceiling" = some none)
    (n_Finder_strikes : PySem.W.findIn K (.ref c_Finder) "strikes" = some none)
    (aC_LossError : PySem.W.nsIn K mainGlobals "LossError" = some (some (.ref c_LossError)))
    (aC_InvalidNumber : PySem.W.nsIn K mainGlobals "InvalidNumber" = some (some (.ref c_InvalidNumber)))
    (xl_InvalidNumber : K.lookup c_InvalidNumber = some (excClassObj xn_InvalidNumber xq_InvalidNumber c_InvalidNumber xN_InvalidNumber xb_InvalidNumber xm_InvalidNumber true xs_InvalidNumber xu_InvalidNumber xa_InvalidNumber xo_InvalidNumber xd_InvalidNumber x0_InvalidNumber x1_InvalidNumber x2_InvalidNumber x3_InvalidNumber x5_InvalidNumber "ValueError.__new__"))
    (sa_InvalidNumber : PySem.W.findIn K (.ref c_InvalidNumber) "__setattr__" = some (some (.builtin "object.__setattr__")))
    (xx_InvalidNumber : PySem.W.subIn K (.ref c_InvalidNumber) (.type "BaseException") = some true)
    (xt_InvalidNumber : PySem.W.typeIn K (.ref c_InvalidNumber) = some (.type "type"))
    (xk_InvalidNumber : PySem.W.keepIn K (.ref c_InvalidNumber) = true)
    (xi_InvalidNumber : PySem.W.findIn K (.ref c_InvalidNumber) "__init__" = some (some (.ref a_InvalidNumber_init_)))
    (xg_InvalidNumber : PySem.W.findIn K (.ref c_InvalidNumber) "__getattribute__" = some (some (.builtin "BaseException.__getattribute__")))
    (xh_InvalidNumber : PySem.W.findIn K (.ref c_InvalidNumber) "__getattr__" = some none)
    (xy_InvalidNumber : PySem.W.hasDictIn K c_InvalidNumber = true)
    (xc_InvalidNumber : PySem.W.findIn K (.ref c_InvalidNumber) "__class__" = some (some (.builtin "object.__class__")))
    (xr_InvalidNumber : PySem.W.mroIn K c_InvalidNumber (.type "object") = some true)
    (nX_InvalidNumber : PySem.W.findIn K (.ref c_InvalidNumber) "number" = some none)
    (aC_InvalidSetting : PySem.W.nsIn K mainGlobals "InvalidSetting" = some (some (.ref c_InvalidSetting)))
    (xl_InvalidSetting : K.lookup c_InvalidSetting = some (excClassObj xn_InvalidSetting xq_InvalidSetting c_InvalidSetting xN_InvalidSetting xb_InvalidSetting xm_InvalidSetting true xs_InvalidSetting xu_InvalidSetting xa_InvalidSetting xo_InvalidSetting xd_InvalidSetting x0_InvalidSetting x1_InvalidSetting x2_InvalidSetting x3_InvalidSetting x5_InvalidSetting "ValueError.__new__"))
    (sa_InvalidSetting : PySem.W.findIn K (.ref c_InvalidSetting) "__setattr__" = some (some (.builtin "object.__setattr__")))
    (xx_InvalidSetting : PySem.W.subIn K (.ref c_InvalidSetting) (.type "BaseException") = some true)
    (xt_InvalidSetting : PySem.W.typeIn K (.ref c_InvalidSetting) = some (.type "type"))
    (xk_InvalidSetting : PySem.W.keepIn K (.ref c_InvalidSetting) = true)
    (xi_InvalidSetting : PySem.W.findIn K (.ref c_InvalidSetting) "__init__" = some (some (.ref a_InvalidSetting_init_)))
    (xg_InvalidSetting : PySem.W.findIn K (.ref c_InvalidSetting) "__getattribute__" = some (some (.builtin "BaseException.__getattribute__")))
    (xh_InvalidSetting : PySem.W.findIn K (.ref c_InvalidSetting) "__getattr__" = some none)
    (xy_InvalidSetting : PySem.W.hasDictIn K c_InvalidSetting = true)
    (xc_InvalidSetting : PySem.W.findIn K (.ref c_InvalidSetting) "__class__" = some (some (.builtin "object.__class__")))
    (xr_InvalidSetting : PySem.W.mroIn K c_InvalidSetting (.type "object") = some true)
    (nX_InvalidSetting : PySem.W.findIn K (.ref c_InvalidSetting) "setting" = some none)
    (x_get : PySem.W.specialIn K (.builtin "object.__class__") "__get__" = some (some (.builtin "getset_descriptor.__get__")))
    (x_tk : PySem.W.takesIn K (.builtin "object.__class__") = some true)
    (xf_InvalidNumber_init_ : PySem.W.typeIn K (.ref a_InvalidNumber_init_) = some (.type "function"))
    (l_InvalidNumber_init_ : K.lookup a_InvalidNumber_init_ = some ⟨oc_InvalidNumber_init_, od_InvalidNumber_init_, .func (PySem.W.fnOf "__init__" "InvalidNumber.__init__" (defArgs s_InvalidNumber_init_) (defBody s_InvalidNumber_init_) (defScope s_InvalidNumber_init_) .none kV_InvalidNumber_init_ dc_InvalidNumber_init_ pm_InvalidNumber_init_ an_InvalidNumber_init_ cd_InvalidNumber_init_ ct_InvalidNumber_init_), sl_InvalidNumber_init_⟩)
    (e_InvalidNumber_init_ : PySem.W.codeIn K cd_InvalidNumber_init_ "InvalidNumber.__init__" = true)
    (k_InvalidNumber_init_ : PySem.W.keepIn K (.ref a_InvalidNumber_init_) = true)
    (xf_InvalidSetting_init_ : PySem.W.typeIn K (.ref a_InvalidSetting_init_) = some (.type "function"))
    (l_InvalidSetting_init_ : K.lookup a_InvalidSetting_init_ = some ⟨oc_InvalidSetting_init_, od_InvalidSetting_init_, .func (PySem.W.fnOf "__init__" "InvalidSetting.__init__" (defArgs s_InvalidSetting_init_) (defBody s_InvalidSetting_init_) (defScope s_InvalidSetting_init_) .none kV_InvalidSetting_init_ dc_InvalidSetting_init_ pm_InvalidSetting_init_ an_InvalidSetting_init_ cd_InvalidSetting_init_ ct_InvalidSetting_init_), sl_InvalidSetting_init_⟩)
    (e_InvalidSetting_init_ : PySem.W.codeIn K cd_InvalidSetting_init_ "InvalidSetting.__init__" = true)
    (k_InvalidSetting_init_ : PySem.W.keepIn K (.ref a_InvalidSetting_init_) = true)
    (a_is_integer' : PySem.W.nsIn K mainGlobals "is_integer" = some (some (.ref a_is_integer)))
    (l_is_integer : K.lookup a_is_integer = some ⟨oc_is_integer, od_is_integer, .func (PySem.W.fnOf "is_integer" "is_integer" (defArgs s_is_integer) (defBody s_is_integer) (defScope s_is_integer) .none kV_is_integer dc_is_integer pm_is_integer an_is_integer cd_is_integer ct_is_integer), sl_is_integer⟩)
    (e_is_integer : PySem.W.codeIn K cd_is_integer "is_integer" = true)
    (k_is_integer : PySem.W.keepIn K (.ref a_is_integer) = true)
    (a_is_between' : PySem.W.nsIn K mainGlobals "is_between" = some (some (.ref a_is_between)))
    (l_is_between : K.lookup a_is_between = some ⟨oc_is_between, od_is_between, .func (PySem.W.fnOf "is_between" "is_between" (defArgs s_is_between) (defBody s_is_between) (defScope s_is_between) .none kV_is_between dc_is_between pm_is_between an_is_between cd_is_between ct_is_between), sl_is_between⟩)
    (e_is_between : PySem.W.codeIn K cd_is_between "is_between" = true)
    (k_is_between : PySem.W.keepIn K (.ref a_is_between) = true)
    (a_is_at_least' : PySem.W.nsIn K mainGlobals "is_at_least" = some (some (.ref a_is_at_least)))
    (l_is_at_least : K.lookup a_is_at_least = some ⟨oc_is_at_least, od_is_at_least, .func (PySem.W.fnOf "is_at_least" "is_at_least" (defArgs s_is_at_least) (defBody s_is_at_least) (defScope s_is_at_least) .none kV_is_at_least dc_is_at_least pm_is_at_least an_is_at_least cd_is_at_least ct_is_at_least), sl_is_at_least⟩)
    (e_is_at_least : PySem.W.codeIn K cd_is_at_least "is_at_least" = true)
    (k_is_at_least : PySem.W.keepIn K (.ref a_is_at_least) = true)
    (a_require_count' : PySem.W.nsIn K mainGlobals "require_count" = some (some (.ref a_require_count)))
    (l_require_count : K.lookup a_require_count = some ⟨oc_require_count, od_require_count, .func (PySem.W.fnOf "require_count" "require_count" (defArgs s_require_count) (defBody s_require_count) (defScope s_require_count) .none kV_require_count dc_require_count pm_require_count an_require_count cd_require_count ct_require_count), sl_require_count⟩)
    (e_require_count : PySem.W.codeIn K cd_require_count "require_count" = true)
    (k_require_count : PySem.W.keepIn K (.ref a_require_count) = true)
    (a_Finder_init_' : PySem.W.findIn K (.ref c_Finder) "__init__" = some (some (.ref a_Finder_init_)))
    (i_Finder_init_ : PySem.W.isFn K (.ref a_Finder_init_) = true)
    (l_Finder_init_ : K.lookup a_Finder_init_ = some ⟨oc_Finder_init_, od_Finder_init_, .func (PySem.W.fnOf "__init__" "Finder.__init__" (defArgs s_Finder_init_) (defBody s_Finder_init_) (defScope s_Finder_init_) .none kV_Finder_init_ dc_Finder_init_ pm_Finder_init_ an_Finder_init_ cd_Finder_init_ ct_Finder_init_), sl_Finder_init_⟩)
    (e_Finder_init_ : PySem.W.codeIn K cd_Finder_init_ "Finder.__init__" = true)
    (k_Finder_init_ : PySem.W.keepIn K (.ref a_Finder_init_) = true)
    (a_Finder_trial' : PySem.W.findIn K (.ref c_Finder) "trial" = some (some (.ref a_Finder_trial)))
    (i_Finder_trial : PySem.W.isFn K (.ref a_Finder_trial) = true)
    (l_Finder_trial : K.lookup a_Finder_trial = some ⟨oc_Finder_trial, od_Finder_trial, .func (PySem.W.fnOf "trial" "Finder.trial" (defArgs s_Finder_trial) (defBody s_Finder_trial) (defScope s_Finder_trial) .none kV_Finder_trial dc_Finder_trial pm_Finder_trial an_Finder_trial cd_Finder_trial ct_Finder_trial), sl_Finder_trial⟩)
    (e_Finder_trial : PySem.W.codeIn K cd_Finder_trial "Finder.trial" = true)
    (k_Finder_trial : PySem.W.keepIn K (.ref a_Finder_trial) = true)
    (a_Finder_passed' : PySem.W.findIn K (.ref c_Finder) "passed" = some (some (.ref a_Finder_passed)))
    (i_Finder_passed : PySem.W.isFn K (.ref a_Finder_passed) = true)
    (l_Finder_passed : K.lookup a_Finder_passed = some ⟨oc_Finder_passed, od_Finder_passed, .func (PySem.W.fnOf "passed" "Finder.passed" (defArgs s_Finder_passed) (defBody s_Finder_passed) (defScope s_Finder_passed) .none kV_Finder_passed dc_Finder_passed pm_Finder_passed an_Finder_passed cd_Finder_passed ct_Finder_passed), sl_Finder_passed⟩)
    (e_Finder_passed : PySem.W.codeIn K cd_Finder_passed "Finder.passed" = true)
    (k_Finder_passed : PySem.W.keepIn K (.ref a_Finder_passed) = true)
    (a_Finder_failed' : PySem.W.findIn K (.ref c_Finder) "failed" = some (some (.ref a_Finder_failed)))
    (i_Finder_failed : PySem.W.isFn K (.ref a_Finder_failed) = true)
    (l_Finder_failed : K.lookup a_Finder_failed = some ⟨oc_Finder_failed, od_Finder_failed, .func (PySem.W.fnOf "failed" "Finder.failed" (defArgs s_Finder_failed) (defBody s_Finder_failed) (defScope s_Finder_failed) .none kV_Finder_failed dc_Finder_failed pm_Finder_failed an_Finder_failed cd_Finder_failed ct_Finder_failed), sl_Finder_failed⟩)
    (e_Finder_failed : PySem.W.codeIn K cd_Finder_failed "Finder.failed" = true)
    (k_Finder_failed : PySem.W.keepIn K (.ref a_Finder_failed) = true)
    (a_Finder_copied' : PySem.W.findIn K (.ref c_Finder) "copied" = some (some (.ref a_Finder_copied)))
    (i_Finder_copied : PySem.W.isFn K (.ref a_Finder_copied) = true)
    (l_Finder_copied : K.lookup a_Finder_copied = some ⟨oc_Finder_copied, od_Finder_copied, .func (PySem.W.fnOf "copied" "Finder.copied" (defArgs s_Finder_copied) (defBody s_Finder_copied) (defScope s_Finder_copied) .none kV_Finder_copied dc_Finder_copied pm_Finder_copied an_Finder_copied cd_Finder_copied ct_Finder_copied), sl_Finder_copied⟩)
    (e_Finder_copied : PySem.W.codeIn K cd_Finder_copied "Finder.copied" = true)
    (k_Finder_copied : PySem.W.keepIn K (.ref a_Finder_copied) = true)
    (a__law_whole' : PySem.W.nsIn K mainGlobals "_law_whole" = some (some (.ref a__law_whole)))
    (l__law_whole : K.lookup a__law_whole = some ⟨oc__law_whole, od__law_whole, .func (PySem.W.fnOf "_law_whole" "_law_whole" (defArgs s__law_whole) (defBody s__law_whole) (defScope s__law_whole) .none kV__law_whole dc__law_whole pm__law_whole an__law_whole cd__law_whole ct__law_whole), sl__law_whole⟩)
    (e__law_whole : PySem.W.codeIn K cd__law_whole "_law_whole" = true)
    (k__law_whole : PySem.W.keepIn K (.ref a__law_whole) = true)
    (a__law_bag' : PySem.W.nsIn K mainGlobals "_law_bag" = some (some (.ref a__law_bag)))
    (l__law_bag : K.lookup a__law_bag = some ⟨oc__law_bag, od__law_bag, .func (PySem.W.fnOf "_law_bag" "_law_bag" (defArgs s__law_bag) (defBody s__law_bag) (defScope s__law_bag) .none kV__law_bag dc__law_bag pm__law_bag an__law_bag cd__law_bag ct__law_bag), sl__law_bag⟩)
    (e__law_bag : PySem.W.codeIn K cd__law_bag "_law_bag" = true)
    (k__law_bag : PySem.W.keepIn K (.ref a__law_bag) = true)
    (a__law_take' : PySem.W.nsIn K mainGlobals "_law_take" = some (some (.ref a__law_take)))
    (l__law_take : K.lookup a__law_take = some ⟨oc__law_take, od__law_take, .func (PySem.W.fnOf "_law_take" "_law_take" (defArgs s__law_take) (defBody s__law_take) (defScope s__law_take) .none kV__law_take dc__law_take pm__law_take an__law_take cd__law_take ct__law_take), sl__law_take⟩)
    (e__law_take : PySem.W.codeIn K cd__law_take "_law_take" = true)
    (k__law_take : PySem.W.keepIn K (.ref a__law_take) = true)
    (a__law_lesser' : PySem.W.nsIn K mainGlobals "_law_lesser" = some (some (.ref a__law_lesser)))
    (l__law_lesser : K.lookup a__law_lesser = some ⟨oc__law_lesser, od__law_lesser, .func (PySem.W.fnOf "_law_lesser" "_law_lesser" (defArgs s__law_lesser) (defBody s__law_lesser) (defScope s__law_lesser) .none kV__law_lesser dc__law_lesser pm__law_lesser an__law_lesser cd__law_lesser ct__law_lesser), sl__law_lesser⟩)
    (e__law_lesser : PySem.W.codeIn K cd__law_lesser "_law_lesser" = true)
    (k__law_lesser : PySem.W.keepIn K (.ref a__law_lesser) = true)
    (a__law_greater' : PySem.W.nsIn K mainGlobals "_law_greater" = some (some (.ref a__law_greater)))
    (l__law_greater : K.lookup a__law_greater = some ⟨oc__law_greater, od__law_greater, .func (PySem.W.fnOf "_law_greater" "_law_greater" (defArgs s__law_greater) (defBody s__law_greater) (defScope s__law_greater) .none kV__law_greater dc__law_greater pm__law_greater an__law_greater cd__law_greater ct__law_greater), sl__law_greater⟩)
    (e__law_greater : PySem.W.codeIn K cd__law_greater "_law_greater" = true)
    (k__law_greater : PySem.W.keepIn K (.ref a__law_greater) = true)
    (a__law_bounds' : PySem.W.nsIn K mainGlobals "_law_bounds" = some (some (.ref a__law_bounds)))
    (l__law_bounds : K.lookup a__law_bounds = some ⟨oc__law_bounds, od__law_bounds, .func (PySem.W.fnOf "_law_bounds" "_law_bounds" (defArgs s__law_bounds) (defBody s__law_bounds) (defScope s__law_bounds) .none kV__law_bounds dc__law_bounds pm__law_bounds an__law_bounds cd__law_bounds ct__law_bounds), sl__law_bounds⟩)
    (e__law_bounds : PySem.W.codeIn K cd__law_bounds "_law_bounds" = true)
    (k__law_bounds : PySem.W.keepIn K (.ref a__law_bounds) = true)
    (a__law_path' : PySem.W.nsIn K mainGlobals "_law_path" = some (some (.ref a__law_path)))
    (l__law_path : K.lookup a__law_path = some ⟨oc__law_path, od__law_path, .func (PySem.W.fnOf "_law_path" "_law_path" (defArgs s__law_path) (defBody s__law_path) (defScope s__law_path) .none kV__law_path dc__law_path pm__law_path an__law_path cd__law_path ct__law_path), sl__law_path⟩)
    (e__law_path : PySem.W.codeIn K cd__law_path "_law_path" = true)
    (k__law_path : PySem.W.keepIn K (.ref a__law_path) = true)
    (a__law_seen' : PySem.W.nsIn K mainGlobals "_law_seen" = some (some (.ref a__law_seen)))
    (l__law_seen : K.lookup a__law_seen = some ⟨oc__law_seen, od__law_seen, .func (PySem.W.fnOf "_law_seen" "_law_seen" (defArgs s__law_seen) (defBody s__law_seen) (defScope s__law_seen) .none kV__law_seen dc__law_seen pm__law_seen an__law_seen cd__law_seen ct__law_seen), sl__law_seen⟩)
    (e__law_seen : PySem.W.codeIn K cd__law_seen "_law_seen" = true)
    (k__law_seen : PySem.W.keepIn K (.ref a__law_seen) = true)
    (a__law_aside' : PySem.W.nsIn K mainGlobals "_law_aside" = some (some (.ref a__law_aside)))
    (l__law_aside : K.lookup a__law_aside = some ⟨oc__law_aside, od__law_aside, .func (PySem.W.fnOf "_law_aside" "_law_aside" (defArgs s__law_aside) (defBody s__law_aside) (defScope s__law_aside) .none kV__law_aside dc__law_aside pm__law_aside an__law_aside cd__law_aside ct__law_aside), sl__law_aside⟩)
    (e__law_aside : PySem.W.codeIn K cd__law_aside "_law_aside" = true)
    (k__law_aside : PySem.W.keepIn K (.ref a__law_aside) = true)
    (a__law_answer' : PySem.W.nsIn K mainGlobals "_law_answer" = some (some (.ref a__law_answer)))
    (l__law_answer : K.lookup a__law_answer = some ⟨oc__law_answer, od__law_answer, .func (PySem.W.fnOf "_law_answer" "_law_answer" (defArgs s__law_answer) (defBody s__law_answer) (defScope s__law_answer) .none kV__law_answer dc__law_answer pm__law_answer an__law_answer cd__law_answer ct__law_answer), sl__law_answer⟩)
    (e__law_answer : PySem.W.codeIn K cd__law_answer "_law_answer" = true)
    (k__law_answer : PySem.W.keepIn K (.ref a__law_answer) = true)
    (a__law_step' : PySem.W.nsIn K mainGlobals "_law_step" = some (some (.ref a__law_step)))
    (l__law_step : K.lookup a__law_step = some ⟨oc__law_step, od__law_step, .func (PySem.W.fnOf "_law_step" "_law_step" (defArgs s__law_step) (defBody s__law_step) (defScope s__law_step) .none kV__law_step dc__law_step pm__law_step an__law_step cd__law_step ct__law_step), sl__law_step⟩)
    (e__law_step : PySem.W.codeIn K cd__law_step "_law_step" = true)
    (k__law_step : PySem.W.keepIn K (.ref a__law_step) = true)
    (a__law_ended' : PySem.W.nsIn K mainGlobals "_law_ended" = some (some (.ref a__law_ended)))
    (l__law_ended : K.lookup a__law_ended = some ⟨oc__law_ended, od__law_ended, .func (PySem.W.fnOf "_law_ended" "_law_ended" (defArgs s__law_ended) (defBody s__law_ended) (defScope s__law_ended) .none kV__law_ended dc__law_ended pm__law_ended an__law_ended cd__law_ended ct__law_ended), sl__law_ended⟩)
    (e__law_ended : PySem.W.codeIn K cd__law_ended "_law_ended" = true)
    (k__law_ended : PySem.W.keepIn K (.ref a__law_ended) = true)
    (a_law' : PySem.W.nsIn K mainGlobals "law" = some (some (.ref a_law)))
    (l_law : K.lookup a_law = some ⟨oc_law, od_law, .func (PySem.W.fnOf "law" "law" (defArgs s_law) (defBody s_law) (defScope s_law) .none kV_law dc_law pm_law an_law cd_law ct_law), sl_law⟩)
    (e_law : PySem.W.codeIn K cd_law "law" = true)
    (k_law : PySem.W.keepIn K (.ref a_law) = true)
    (z_abs : PySem.W.nsIn K mainGlobals "abs" = some none)
    (z_all : PySem.W.nsIn K mainGlobals "all" = some none)
    (z_bool : PySem.W.nsIn K mainGlobals "bool" = some none)
    (z_int : PySem.W.nsIn K mainGlobals "int" = some none)
    (z_isinstance : PySem.W.nsIn K mainGlobals "isinstance" = some none)
    (z_len : PySem.W.nsIn K mainGlobals "len" = some none)
    (z_min : PySem.W.nsIn K mainGlobals "min" = some none)
    (z_range : PySem.W.nsIn K mainGlobals "range" = some none)
    (z_sum : PySem.W.nsIn K mainGlobals "sum" = some none)
    (q_MOST_BYTES : PySem.W.nsIn K mainGlobals "MOST_BYTES" = some (some u_MOST_BYTES))
    (q_MOST_STRIKES : PySem.W.nsIn K mainGlobals "MOST_STRIKES" = some (some u_MOST_STRIKES))
    (xm'_InvalidNumber : PySem.HandSPX.refsVE xm_InvalidNumber = true)
    (xm'_InvalidSetting : PySem.HandSPX.refsVE xm_InvalidSetting = true)
    (w_MOST_BYTES : RelV (.int 1400) u_MOST_BYTES)
    (w_MOST_STRIKES : RelV (.int 2) u_MOST_STRIKES)
    : ∃ fd : FuncData, (∀ (s : Shared) (v : Value), BindsTo s fd ⟨[v], []⟩ [("script", v)]) ∧ ∀ base : Heap, K.In base → base.Ns mainGlobals mg → FnOk l.prog w K mg base CX0 7 fa fd ["script"] (sp_law K) := by
  have e : fa = a_law := by
    have e0 := hfa.symm.trans (PySem.W.mg_of X G a_law')
    cases e0
    rfl
  rw [e]
  have F_InvalidNumber_init_ := fun_mk (st := s_InvalidNumber_init_) l_InvalidNumber_init_ e_InvalidNumber_init_ k_InvalidNumber_init_
  have F_InvalidSetting_init_ := fun_mk (st := s_InvalidSetting_init_) l_InvalidSetting_init_ e_InvalidSetting_init_ k_InvalidSetting_init_
  have F_is_integer := fun_mk (st := s_is_integer) l_is_integer e_is_integer k_is_integer
  have F_is_between := fun_mk (st := s_is_between) l_is_between e_is_between k_is_between
  have F_is_at_least := fun_mk (st := s_is_at_least) l_is_at_least e_is_at_least k_is_at_least
  have F_require_count := fun_mk (st := s_require_count) l_require_count e_require_count k_require_count
  have F_Finder_init_ := fun_mk (st := s_Finder_init_) l_Finder_init_ e_Finder_init_ k_Finder_init_
  have F_Finder_trial := fun_mk (st := s_Finder_trial) l_Finder_trial e_Finder_trial k_Finder_trial
  have F_Finder_passed := fun_mk (st := s_Finder_passed) l_Finder_passed e_Finder_passed k_Finder_passed
  have F_Finder_failed := fun_mk (st := s_Finder_failed) l_Finder_failed e_Finder_failed k_Finder_failed
  have F_Finder_copied := fun_mk (st := s_Finder_copied) l_Finder_copied e_Finder_copied k_Finder_copied
  have F__law_whole := fun_mk (st := s__law_whole) l__law_whole e__law_whole k__law_whole
  have F__law_bag := fun_mk (st := s__law_bag) l__law_bag e__law_bag k__law_bag
  have F__law_take := fun_mk (st := s__law_take) l__law_take e__law_take k__law_take
  have F__law_lesser := fun_mk (st := s__law_lesser) l__law_lesser e__law_lesser k__law_lesser
  have F__law_greater := fun_mk (st := s__law_greater) l__law_greater e__law_greater k__law_greater
  have F__law_bounds := fun_mk (st := s__law_bounds) l__law_bounds e__law_bounds k__law_bounds
  have F__law_path := fun_mk (st := s__law_path) l__law_path e__law_path k__law_path
  have F__law_seen := fun_mk (st := s__law_seen) l__law_seen e__law_seen k__law_seen
  have F__law_aside := fun_mk (st := s__law_aside) l__law_aside e__law_aside k__law_aside
  have F__law_answer := fun_mk (st := s__law_answer) l__law_answer e__law_answer k__law_answer
  have F__law_step := fun_mk (st := s__law_step) l__law_step e__law_step k__law_step
  have F__law_ended := fun_mk (st := s__law_ended) l__law_ended e__law_ended k__law_ended
  have F_law := fun_mk (st := s_law) l_law e_law k_law
  let T : Txt K mg := {
    c_Finder := c_Finder,
    g_Finder := PySem.W.mg_of X G aC_Finder,
    cl_Finder := ⟨pg_Finder, hd_Finder, po_Finder, sa_Finder⟩,
    n_Finder_size := n_Finder_size,
    n_Finder_ceiling := n_Finder_ceiling,
    n_Finder_strikes := n_Finder_strikes,
    c_LossError := c_LossError,
    X_LossError := ⟨PySem.W.mg_of X G aC_LossError⟩,
    c_InvalidNumber := c_InvalidNumber,
    X_InvalidNumber := xcls_mk (PySem.W.mg_of X G aC_InvalidNumber) xl_InvalidNumber xm'_InvalidNumber sa_InvalidNumber xx_InvalidNumber xt_InvalidNumber xk_InvalidNumber xi_InvalidNumber xf_InvalidNumber_init_ xg_InvalidNumber xh_InvalidNumber xy_InvalidNumber xc_InvalidNumber x_get x_tk xr_InvalidNumber,
    nX_InvalidNumber := nX_InvalidNumber,
    c_InvalidSetting := c_InvalidSetting,
    X_InvalidSetting := xcls_mk (PySem.W.mg_of X G aC_InvalidSetting) xl_InvalidSetting xm'_InvalidSetting sa_InvalidSetting xx_InvalidSetting xt_InvalidSetting xk_InvalidSetting xi_InvalidSetting xf_InvalidSetting_init_ xg_InvalidSetting xh_InvalidSetting xy_InvalidSetting xc_InvalidSetting x_get x_tk xr_InvalidSetting,
    nX_InvalidSetting := nX_InvalidSetting,
    a_InvalidNumber_init_ := a_InvalidNumber_init_,
    fd_InvalidNumber_init_ := PySem.W.fnOf "__init__" "InvalidNumber.__init__" (defArgs s_InvalidNumber_init_) (defBody s_InvalidNumber_init_) (defScope s_InvalidNumber_init_) .none kV_InvalidNumber_init_ dc_InvalidNumber_init_ pm_InvalidNumber_init_ an_InvalidNumber_init_ cd_InvalidNumber_init_ ct_InvalidNumber_init_,
    F_InvalidNumber_init_ := F_InvalidNumber_init_,
    B_InvalidNumber_init_ := F_InvalidNumber_init_.binds (ps := ["self", "number"]) fun _ _ _ _ _ _ us hl => match us, hl with | [_, _], _ => rfl,
    a_InvalidSetting_init_ := a_InvalidSetting_init_,
    fd_InvalidSetting_init_ := PySem.W.fnOf "__init__" "InvalidSetting.__init__" (defArgs s_InvalidSetting_init_) (defBody s_InvalidSetting_init_) (defScope s_InvalidSetting_init_) .none kV_InvalidSetting_init_ dc_InvalidSetting_init_ pm_InvalidSetting_init_ an_InvalidSetting_init_ cd_InvalidSetting_init_ ct_InvalidSetting_init_,
    F_InvalidSetting_init_ := F_InvalidSetting_init_,
    B_InvalidSetting_init_ := F_InvalidSetting_init_.binds (ps := ["self", "setting"]) fun _ _ _ _ _ _ us hl => match us, hl with | [_, _], _ => rfl,
    a_is_integer := a_is_integer,
    fd_is_integer := PySem.W.fnOf "is_integer" "is_integer" (defArgs s_is_integer) (defBody s_is_integer) (defScope s_is_integer) .none kV_is_integer dc_is_integer pm_is_integer an_is_integer cd_is_integer ct_is_integer,
    F_is_integer := F_is_integer,
    B_is_integer := F_is_integer.binds (ps := ["value"]) fun _ _ _ _ _ _ us hl => match us, hl with | [_], _ => rfl,
    g_is_integer := PySem.W.mg_of X G a_is_integer',
    a_is_between := a_is_between,
    fd_is_between := PySem.W.fnOf "is_between" "is_between" (defArgs s_is_between) (defBody s_is_between) (defScope s_is_between) .none kV_is_between dc_is_between pm_is_between an_is_between cd_is_between ct_is_between,
    F_is_between := F_is_between,
    B_is_between := F_is_between.binds (ps := ["value", "low", "high"]) fun _ _ _ _ _ _ us hl => match us, hl with | [_, _, _], _ => rfl,
    g_is_between := PySem.W.mg_of X G a_is_between',
    a_is_at_least := a_is_at_least,
    fd_is_at_least := PySem.W.fnOf "is_at_least" "is_at_least" (defArgs s_is_at_least) (defBody s_is_at_least) (defScope s_is_at_least) .none kV_is_at_least dc_is_at_least pm_is_at_least an_is_at_least cd_is_at_least ct_is_at_least,
    F_is_at_least := F_is_at_least,
    B_is_at_least := F_is_at_least.binds (ps := ["value", "low"]) fun _ _ _ _ _ _ us hl => match us, hl with | [_, _], _ => rfl,
    g_is_at_least := PySem.W.mg_of X G a_is_at_least',
    a_require_count := a_require_count,
    fd_require_count := PySem.W.fnOf "require_count" "require_count" (defArgs s_require_count) (defBody s_require_count) (defScope s_require_count) .none kV_require_count dc_require_count pm_require_count an_require_count cd_require_count ct_require_count,
    F_require_count := F_require_count,
    B_require_count := F_require_count.binds (ps := ["count"]) fun _ _ _ _ _ _ us hl => match us, hl with | [_], _ => rfl,
    g_require_count := PySem.W.mg_of X G a_require_count',
    a_Finder_init_ := a_Finder_init_,
    fd_Finder_init_ := PySem.W.fnOf "__init__" "Finder.__init__" (defArgs s_Finder_init_) (defBody s_Finder_init_) (defScope s_Finder_init_) .none kV_Finder_init_ dc_Finder_init_ pm_Finder_init_ an_Finder_init_ cd_Finder_init_ ct_Finder_init_,
    F_Finder_init_ := F_Finder_init_,
    B_Finder_init_ := F_Finder_init_.binds (ps := ["self", "low", "high"]) fun _ _ _ _ _ _ us hl => match us, hl with | [_, _, _], _ => rfl,
    M_Finder := ⟨mk_Finder, a_Finder_init_', i_Finder_init_, kc_Finder⟩,
    a_Finder_trial := a_Finder_trial,
    fd_Finder_trial := PySem.W.fnOf "trial" "Finder.trial" (defArgs s_Finder_trial) (defBody s_Finder_trial) (defScope s_Finder_trial) .none kV_Finder_trial dc_Finder_trial pm_Finder_trial an_Finder_trial cd_Finder_trial ct_Finder_trial,
    F_Finder_trial := F_Finder_trial,
    B_Finder_trial := F_Finder_trial.binds (ps := ["self"]) fun _ _ _ _ _ _ us hl => match us, hl with | [_], _ => rfl,
    m_Finder_trial := ⟨a_Finder_trial', i_Finder_trial, k_Finder_trial⟩,
    a_Finder_passed := a_Finder_passed,
    fd_Finder_passed := PySem.W.fnOf "passed" "Finder.passed" (defArgs s_Finder_passed) (defBody s_Finder_passed) (defScope s_Finder_passed) .none kV_Finder_passed dc_Finder_passed pm_Finder_passed an_Finder_passed cd_Finder_passed ct_Finder_passed,
    F_Finder_passed := F_Finder_passed,
    B_Finder_passed := F_Finder_passed.binds (ps := ["self", "count"]) fun _ _ _ _ _ _ us hl => match us, hl with | [_, _], _ => rfl,
    m_Finder_passed := ⟨a_Finder_passed', i_Finder_passed, k_Finder_passed⟩,
    a_Finder_failed := a_Finder_failed,
    fd_Finder_failed := PySem.W.fnOf "failed" "Finder.failed" (defArgs s_Finder_failed) (defBody s_Finder_failed) (defScope s_Finder_failed) .none kV_Finder_failed dc_Finder_failed pm_Finder_failed an_Finder_failed cd_Finder_failed ct_Finder_failed,
    F_Finder_failed := F_Finder_failed,
    B_Finder_failed := F_Finder_failed.binds (ps := ["self", "count"]) fun _ _ _ _ _ _ us hl => match us, hl with | [_, _], _ => rfl,
    m_Finder_failed := ⟨a_Finder_failed', i_Finder_failed, k_Finder_failed⟩,
    a_Finder_copied := a_Finder_copied,
    fd_Finder_copied := PySem.W.fnOf "copied" "Finder.copied" (defArgs s_Finder_copied) (defBody s_Finder_copied) (defScope s_Finder_copied) .none kV_Finder_copied dc_Finder_copied pm_Finder_copied an_Finder_copied cd_Finder_copied ct_Finder_copied,
    F_Finder_copied := F_Finder_copied,
    B_Finder_copied := F_Finder_copied.binds (ps := ["self"]) fun _ _ _ _ _ _ us hl => match us, hl with | [_], _ => rfl,
    m_Finder_copied := ⟨a_Finder_copied', i_Finder_copied, k_Finder_copied⟩,
    a__law_whole := a__law_whole,
    fd__law_whole := PySem.W.fnOf "_law_whole" "_law_whole" (defArgs s__law_whole) (defBody s__law_whole) (defScope s__law_whole) .none kV__law_whole dc__law_whole pm__law_whole an__law_whole cd__law_whole ct__law_whole,
    F__law_whole := F__law_whole,
    B__law_whole := F__law_whole.binds (ps := ["value"]) fun _ _ _ _ _ _ us hl => match us, hl with | [_], _ => rfl,
    g__law_whole := PySem.W.mg_of X G a__law_whole',
    a__law_bag := a__law_bag,
    fd__law_bag := PySem.W.fnOf "_law_bag" "_law_bag" (defArgs s__law_bag) (defBody s__law_bag) (defScope s__law_bag) .none kV__law_bag dc__law_bag pm__law_bag an__law_bag cd__law_bag ct__law_bag,
    F__law_bag := F__law_bag,
    B__law_bag := F__law_bag.binds (ps := ["script"]) fun _ _ _ _ _ _ us hl => match us, hl with | [_], _ => rfl,
    g__law_bag := PySem.W.mg_of X G a__law_bag',
    a__law_take := a__law_take,
    fd__law_take := PySem.W.fnOf "_law_take" "_law_take" (defArgs s__law_take) (defBody s__law_take) (defScope s__law_take) .none kV__law_take dc__law_take pm__law_take an__law_take cd__law_take ct__law_take,
    F__law_take := F__law_take,
    B__law_take := F__law_take.binds (ps := ["bag", "many"]) fun _ _ _ _ _ _ us hl => match us, hl with | [_, _], _ => rfl,
    g__law_take := PySem.W.mg_of X G a__law_take',
    a__law_lesser := a__law_lesser,
    fd__law_lesser := PySem.W.fnOf "_law_lesser" "_law_lesser" (defArgs s__law_lesser) (defBody s__law_lesser) (defScope s__law_lesser) .none kV__law_lesser dc__law_lesser pm__law_lesser an__law_lesser cd__law_lesser ct__law_lesser,
    F__law_lesser := F__law_lesser,
    B__law_lesser := F__law_lesser.binds (ps := ["one", "two"]) fun _ _ _ _ _ _ us hl => match us, hl with | [_, _], _ => rfl,
    g__law_lesser := PySem.W.mg_of X G a__law_lesser',
    a__law_greater := a__law_greater,
    fd__law_greater := PySem.W.fnOf "_law_greater" "_law_greater" (defArgs s__law_greater) (defBody s__law_greater) (defScope s__law_greater) .none kV__law_greater dc__law_greater pm__law_greater an__law_greater cd__law_greater ct__law_greater,
    F__law_greater := F__law_greater,
    B__law_greater := F__law_greater.binds (ps := ["one", "two"]) fun _ _ _ _ _ _ us hl => match us, hl with | [_, _], _ => rfl,
    g__law_greater := PySem.W.mg_of X G a__law_greater',
    a__law_bounds := a__law_bounds,
    fd__law_bounds := PySem.W.fnOf "_law_bounds" "_law_bounds" (defArgs s__law_bounds) (defBody s__law_bounds) (defScope s__law_bounds) .none kV__law_bounds dc__law_bounds pm__law_bounds an__law_bounds cd__law_bounds ct__law_bounds,
    F__law_bounds := F__law_bounds,
    B__law_bounds := F__law_bounds.binds (ps := ["bag"]) fun _ _ _ _ _ _ us hl => match us, hl with | [_], _ => rfl,
    g__law_bounds := PySem.W.mg_of X G a__law_bounds',
    a__law_path := a__law_path,
    fd__law_path := PySem.W.fnOf "_law_path" "_law_path" (defArgs s__law_path) (defBody s__law_path) (defScope s__law_path) .none kV__law_path dc__law_path pm__law_path an__law_path cd__law_path ct__law_path,
    F__law_path := F__law_path,
    B__law_path := F__law_path.binds (ps := ["bag"]) fun _ _ _ _ _ _ us hl => match us, hl with | [_], _ => rfl,
    g__law_path := PySem.W.mg_of X G a__law_path',
    a__law_seen := a__law_seen,
    fd__law_seen := PySem.W.fnOf "_law_seen" "_law_seen" (defArgs s__law_seen) (defBody s__law_seen) (defScope s__law_seen) .none kV__law_seen dc__law_seen pm__law_seen an__law_seen cd__law_seen ct__law_seen,
    F__law_seen := F__law_seen,
    B__law_seen := F__law_seen.binds (ps := ["finder", "path"]) fun _ _ _ _ _ _ us hl => match us, hl with | [_, _], _ => rfl,
    g__law_seen := PySem.W.mg_of X G a__law_seen',
    a__law_aside := a__law_aside,
    fd__law_aside := PySem.W.fnOf "_law_aside" "_law_aside" (defArgs s__law_aside) (defBody s__law_aside) (defScope s__law_aside) .none kV__law_aside dc__law_aside pm__law_aside an__law_aside cd__law_aside ct__law_aside,
    F__law_aside := F__law_aside,
    B__law_aside := F__law_aside.binds (ps := ["bag", "finder", "path", "seen"]) fun _ _ _ _ _ _ us hl => match us, hl with | [_, _, _, _], _ => rfl,
    g__law_aside := PySem.W.mg_of X G a__law_aside',
    a__law_answer := a__law_answer,
    fd__law_answer := PySem.W.fnOf "_law_answer" "_law_answer" (defArgs s__law_answer) (defBody s__law_answer) (defScope s__law_answer) .none kV__law_answer dc__law_answer pm__law_answer an__law_answer cd__law_answer ct__law_answer,
    F__law_answer := F__law_answer,
    B__law_answer := F__law_answer.binds (ps := ["bag", "finder", "path", "aim"]) fun _ _ _ _ _ _ us hl => match us, hl with | [_, _, _, _], _ => rfl,
    g__law_answer := PySem.W.mg_of X G a__law_answer',
    a__law_step := a__law_step,
    fd__law_step := PySem.W.fnOf "_law_step" "_law_step" (defArgs s__law_step) (defBody s__law_step) (defScope s__law_step) .none kV__law_step dc__law_step pm__law_step an__law_step cd__law_step ct__law_step,
    F__law_step := F__law_step,
    B__law_step := F__law_step.binds (ps := ["bag", "finder", "path"]) fun _ _ _ _ _ _ us hl => match us, hl with | [_, _, _], _ => rfl,
    g__law_step := PySem.W.mg_of X G a__law_step',
    a__law_ended := a__law_ended,
    fd__law_ended := PySem.W.fnOf "_law_ended" "_law_ended" (defArgs s__law_ended) (defBody s__law_ended) (defScope s__law_ended) .none kV__law_ended dc__law_ended pm__law_ended an__law_ended cd__law_ended ct__law_ended,
    F__law_ended := F__law_ended,
    B__law_ended := F__law_ended.binds (ps := ["bag", "finder", "path"]) fun _ _ _ _ _ _ us hl => match us, hl with | [_, _, _], _ => rfl,
    g__law_ended := PySem.W.mg_of X G a__law_ended',
    a_law := a_law,
    fd_law := PySem.W.fnOf "law" "law" (defArgs s_law) (defBody s_law) (defScope s_law) .none kV_law dc_law pm_law an_law cd_law ct_law,
    F_law := F_law,
    B_law := F_law.binds (ps := ["script"]) fun _ _ _ _ _ _ us hl => match us, hl with | [_], _ => rfl,
    g_law := PySem.W.mg_of X G a_law',
    b_abs := PySem.W.mg_none_of X G z_abs,
    b_all := PySem.W.mg_none_of X G z_all,
    b_bool := PySem.W.mg_none_of X G z_bool,
    b_int := PySem.W.mg_none_of X G z_int,
    b_isinstance := PySem.W.mg_none_of X G z_isinstance,
    b_len := PySem.W.mg_none_of X G z_len,
    b_min := PySem.W.mg_none_of X G z_min,
    b_range := PySem.W.mg_none_of X G z_range,
    b_sum := PySem.W.mg_none_of X G z_sum,
    u_MOST_BYTES := u_MOST_BYTES,
    g_MOST_BYTES := PySem.W.mg_of X G q_MOST_BYTES,
    r_MOST_BYTES := w_MOST_BYTES,
    u_MOST_STRIKES := u_MOST_STRIKES,
    g_MOST_STRIKES := PySem.W.mg_of X G q_MOST_STRIKES,
    r_MOST_STRIKES := w_MOST_STRIKES }
  exact ⟨T.fd_law, fun s v => .of_eq rfl, fun base _ _ => ok_law (P := l.prog) (w := w) (base := base) T⟩
theorem walk {l : PySem.W.OpenLaw} {q : Program} {loose : List Str} {XP : (Str → Option Value) → Heap → Prop} {YP : World → Heap → Prop} {d : DefRec} {K : Params → PySem.W.Frag} (hn : l.most = some 63) (hdf : d.params.defaults = [])
    (hY : ∀ (w : World) (h : Heap), YP w h → (K w.params).In h)
    (F : ∀ (w : World) (mg : Str → Option Value) (fa : Addr) (h : Heap), (K w.params).In h → h.Ns mainGlobals mg → mg d.name = some (.ref fa) →
      ∃ fd : FuncData, (∀ (s : Shared) (u : Value), BindsTo s fd ⟨[u], []⟩ [("script", u)]) ∧ ∀ base : Heap, (K w.params).In base → base.Ns mainGlobals mg → FnOk l.prog w (K w.params) mg base CX0 7 fa fd ["script"] (sp_law (K w.params))) :
    PySem.W.WalkO q loose XP YP l.row.toRowW d [] (fun f vs => PySem.call f vs) :=
  L2.walk_of (CX := fun _ => CX0) (n := 63) (k := 7) (x := "script") (sp := fun w => sp_law (K w.params)) hn (by decide) hdf ⟨rfl, by decide, by decide⟩ hY F (fun _ _ a ns hl _ hS => ⟨a, ns, rfl, hS, hl, fun _ => rfl⟩) fun _ _ _ _ _ z => z
end My

open PySem PySem.W PyProof.Rows in
set_option maxRecDepth 100000 in
set_option maxHeartbeats 0 in
theorem PySem.Challenge.cw_lossway_k19_whole_finder_finds_holds : PySem.Challenge.rw_lossway_k19_whole_finder_finds.Holds := by
  w_on; o_law; k_head; (case hw => w_witness2)
  k_fill
  refine My.walk (l := PySem.Challenge.rw_lossway_k19_whole_finder_finds) rfl rfl (fun w h Y => PySem.W.kIn_of Y) ?F
  case F =>
    intro w mg fa h KX G hmg
    refine' My.all_mk KX G hmg ?aC_Finder ?pg_Finder ?hd_Finder ?po_Finder ?sa_Finder ?mk_Finder ?kc_Finder ?n_Finder_size ?n_Finder_ceiling ?n_Finder_strikes ?aC_LossError ?aC_InvalidNumber ?xl_InvalidNumber ?sa_InvalidNumber ?xx_InvalidNumber ?xt_InvalidNumber ?xk_InvalidNumber ?xi_InvalidNumber ?xg_InvalidNumber ?xh_InvalidNumber ?xy_InvalidNumber ?xc_InvalidNumber ?xr_InvalidNumber ?nX_InvalidNumber ?aC_InvalidSetting ?xl_InvalidSetting ?sa_InvalidSetting ?xx_InvalidSetting ?xt_InvalidSetting ?xk_InvalidSetting ?xi_InvalidSetting ?xg_InvalidSetting ?xh_InvalidSetting ?xy_InvalidSetting ?xc_InvalidSetting ?xr_InvalidSetting ?nX_InvalidSetting ?x_get ?x_tk ?xf_InvalidNumber_init_ ?l_InvalidNumber_init_ ?e_InvalidNumber_init_ ?k_InvalidNumber_init_ ?xf_InvalidSetting_init_ ?l_InvalidSetting_init_ ?e_InvalidSetting_init_ ?k_InvalidSetting_init_ ?a_is_integer_ ?l_is_integer ?e_is_integer ?k_is_integer ?a_is_between_ ?l_is_between ?e_is_between ?k_is_between ?a_is_at_least_ ?l_is_at_least ?e_is_at_least ?k_is_at_least ?a_require_count_ ?l_require_count ?e_require_count ?k_require_count ?a_Finder_init__ ?i_Finder_init_ ?l_Finder_init_ ?e_Finder_init_ ?k_Finder_init_ ?a_Finder_trial_ ?i_Finder_trial ?l_Finder_trial ?e_Finder_trial ?k_Finder_trial ?a_Finder_passed_ ?i_Finder_passed ?l_Finder_passed ?e_Finder_passed ?k_Finder_passed ?a_Finder_failed_ ?i_Finder_failed ?l_Finder_failed ?e_Finder_failed ?k_Finder_failed ?a_Finder_copied_ ?i_Finder_copied ?l_Finder_copied ?e_Finder_copied ?k_Finder_copied ?a__law_whole_ ?l__law_whole ?e__law_whole ?k__law_whole ?a__law_bag_ ?l__law_bag ?e__law_bag ?k__law_bag ?a__law_take_ ?l__law_take ?e__law_take ?k__law_take ?a__law_lesser_ ?l__law_lesser ?e__law_lesser ?k__law_lesser ?a__law_greater_ ?l__law_greater ?e__law_greater ?k__law_greater ?a__law_bounds_ ?l__law_bounds ?e__law_bounds ?k__law_bounds ?a__law_path_ ?l__law_path ?e__law_path ?k__law_path ?a__law_seen_ ?l__law_seen ?e__law_seen ?k__law_seen ?a__law_aside_ ?l__law_aside ?e__law_aside ?k__law_aside ?a__law_answer_ ?l__law_answer ?e__law_answer ?k__law_answer ?a__law_step_ ?l__law_step ?e__law_step ?k__law_step ?a__law_ended_ ?l__law_ended ?e__law_ended ?k__law_ended ?a_law_ ?l_law ?e_law ?k_law ?z_abs ?z_all ?z_bool ?z_int ?z_isinstance ?z_len ?z_min ?z_range ?z_sum ?q_MOST_BYTES ?q_MOST_STRIKES ?xm__InvalidNumber ?xm__InvalidSetting ?w_MOST_BYTES ?w_MOST_STRIKES
    (case aC_Finder => k_is)
    (case pg_Finder => k_is)
    (case hd_Finder => k_is)
    (case po_Finder => k_is)
    (case sa_Finder => k_is)
    (case mk_Finder => k_is)
    (case kc_Finder => k_is)
    (case n_Finder_size => k_is)
    (case n_Finder_ceiling => k_is)
    (case n_Finder_strikes => k_is)
    (case aC_LossError => k_is)
    (case aC_InvalidNumber => k_is)
    (case xl_InvalidNumber => k_is)
    (case sa_InvalidNumber => k_is)
    (case xx_InvalidNumber => k_is)
    (case xt_InvalidNumber => k_is)
    (case xk_InvalidNumber => k_is)
    (case xi_InvalidNumber => k_is)
    (case xg_InvalidNumber => k_is)
    (case xh_InvalidNumber => k_is)
    (case xy_InvalidNumber => k_is)
    (case xc_InvalidNumber => k_is)
    (case xr_InvalidNumber => k_is)
    (case nX_InvalidNumber => k_is)
    (case aC_InvalidSetting => k_is)
    (case xl_InvalidSetting => k_is)
    (case sa_InvalidSetting => k_is)
    (case xx_InvalidSetting => k_is)
    (case xt_InvalidSetting => k_is)
    (case xk_InvalidSetting => k_is)
    (case xi_InvalidSetting => k_is)
    (case xg_InvalidSetting => k_is)
    (case xh_InvalidSetting => k_is)
    (case xy_InvalidSetting => k_is)
    (case xc_InvalidSetting => k_is)
    (case xr_InvalidSetting => k_is)
    (case nX_InvalidSetting => k_is)
    (case x_get => k_is)
    (case x_tk => k_is)
    (case xf_InvalidNumber_init_ => k_is)
    (case l_InvalidNumber_init_ => k_is)
    (case e_InvalidNumber_init_ => k_is)
    (case k_InvalidNumber_init_ => k_is)
    (case xf_InvalidSetting_init_ => k_is)
    (case l_InvalidSetting_init_ => k_is)
    (case e_InvalidSetting_init_ => k_is)
    (case k_InvalidSetting_init_ => k_is)
    (case a_is_integer_ => k_is)
    (case l_is_integer => k_is)
    (case e_is_integer => k_is)
    (case k_is_integer => k_is)
    (case a_is_between_ => k_is)
    (case l_is_between => k_is)
    (case e_is_between => k_is)
    (case k_is_between => k_is)
    (case a_is_at_least_ => k_is)
    (case l_is_at_least => k_is)
    (case e_is_at_least => k_is)
    (case k_is_at_least => k_is)
    (case a_require_count_ => k_is)
    (case l_require_count => k_is)
    (case e_require_count => k_is)
    (case k_require_count => k_is)
    (case a_Finder_init__ => k_is)
    (case i_Finder_init_ => k_is)
    (case l_Finder_init_ => k_is)
    (case e_Finder_init_ => k_is)
    (case k_Finder_init_ => k_is)
    (case a_Finder_trial_ => k_is)
    (case i_Finder_trial => k_is)
    (case l_Finder_trial => k_is)
    (case e_Finder_trial => k_is)
    (case k_Finder_trial => k_is)
    (case a_Finder_passed_ => k_is)
    (case i_Finder_passed => k_is)
    (case l_Finder_passed => k_is)
    (case e_Finder_passed => k_is)
    (case k_Finder_passed => k_is)
    (case a_Finder_failed_ => k_is)
    (case i_Finder_failed => k_is)
    (case l_Finder_failed => k_is)
    (case e_Finder_failed => k_is)
    (case k_Finder_failed => k_is)
    (case a_Finder_copied_ => k_is)
    (case i_Finder_copied => k_is)
    (case l_Finder_copied => k_is)
    (case e_Finder_copied => k_is)
    (case k_Finder_copied => k_is)
    (case a__law_whole_ => k_is)
    (case l__law_whole => k_is)
    (case e__law_whole => k_is)
    (case k__law_whole => k_is)
    (case a__law_bag_ => k_is)
    (case l__law_bag => k_is)
    (case e__law_bag => k_is)
    (case k__law_bag => k_is)
    (case a__law_take_ => k_is)
    (case l__law_take => k_is)
    (case e__law_take => k_is)
    (case k__law_take => k_is)
    (case a__law_lesser_ => k_is)
    (case l__law_lesser => k_is)
    (case e__law_lesser => k_is)
    (case k__law_lesser => k_is)
    (case a__law_greater_ => k_is)
    (case l__law_greater => k_is)
    (case e__law_greater => k_is)
    (case k__law_greater => k_is)
    (case a__law_bounds_ => k_is)
    (case l__law_bounds => k_is)
    (case e__law_bounds => k_is)
    (case k__law_bounds => k_is)
    (case a__law_path_ => k_is)
    (case l__law_path => k_is)
    (case e__law_path => k_is)
    (case k__law_path => k_is)
    (case a__law_seen_ => k_is)
    (case l__law_seen => k_is)
    (case e__law_seen => k_is)
    (case k__law_seen => k_is)
    (case a__law_aside_ => k_is)
    (case l__law_aside => k_is)
    (case e__law_aside => k_is)
    (case k__law_aside => k_is)
    (case a__law_answer_ => k_is)
    (case l__law_answer => k_is)
    (case e__law_answer => k_is)
    (case k__law_answer => k_is)
    (case a__law_step_ => k_is)
    (case l__law_step => k_is)
    (case e__law_step => k_is)
    (case k__law_step => k_is)
    (case a__law_ended_ => k_is)
    (case l__law_ended => k_is)
    (case e__law_ended => k_is)
    (case k__law_ended => k_is)
    (case a_law_ => k_is)
    (case l_law => k_is)
    (case e_law => k_is)
    (case k_law => k_is)
    (case z_abs => k_is)
    (case z_all => k_is)
    (case z_bool => k_is)
    (case z_int => k_is)
    (case z_isinstance => k_is)
    (case z_len => k_is)
    (case z_min => k_is)
    (case z_range => k_is)
    (case z_sum => k_is)
    (case q_MOST_BYTES => k_is)
    (case q_MOST_STRIKES => k_is)
    (case xm__InvalidNumber => decide +kernel)
    (case xm__InvalidSetting => decide +kernel)
    (case w_MOST_BYTES => exact ⟨_, rfl⟩)
    (case w_MOST_STRIKES => exact ⟨_, rfl⟩)
