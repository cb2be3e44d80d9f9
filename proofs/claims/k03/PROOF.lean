import PyProof.Rows.All
import Wide.All
import OpenK.AllK
import Wide.FinOn
import HandS.ForMost
import HandS.IsInst
import HandS.ClsMeth
import HandS.Codes
import HandS.Exc
import HandS.ExcOwn
import HandS.ExcInit
import HandS.ExcField
import HandS.ExcIs
import HandS.TryMany
import HandS.WordsExc
import HandS.CallSlots
import HandS.More
import KE.KExcIs
import KE.GoesEnum
import KE.GoesMore
import PySem.Challenge.RW_lossway_k03_sum_tells_changes
set_option Elab.async false
set_option maxRecDepth 100000
namespace My
open PySem L2
set_option linter.all false

/-! ### an own `in` -/
section
variable {X : Cx} {CX : CXT} {k : Nat} {C g : Addr} {fd : FuncData} {ps : List Str} {sp : Sp} {E : XK}
def rOwnIn (C : Addr) (m : Bool → Bool) (sp : Sp) (E : XK) : R2 := fun x y H Q => ∃ a dx fs, y = .ref a ∧ H a = some (.ins C dx fs) ∧ sp [.ref a, x] H (fun v H' => ∃ b, v = .bl b ∧ Q (.bl (m b)) H') E
theorem op_notInOwn (mm : Meth X.K C "__contains__" g) (F : FnOk X.prog X.w X.K X.mg X.base CX k g fd ps sp) (hr : Room k X.A) (hb : Binds X.K fd ps []) (hx : Passes CX X E) : OpR X (compareOp .NotIn) (rOwnIn C not sp E) := by
  intro pins s σ H x y v u Q I rx ry h
  obtain ⟨a, dx, fs, rfl, ha, q⟩ := h
  cases (show u = Value.ref a from ry)
  obtain ⟨mA, O, _⟩ := ins_get I.hok ha
  obtain ⟨od, J, _⟩ := O.look
  obtain ⟨m, hF⟩ := I.fr
  refine PySem.W.notIn_K hF I.ok.mod.kin J mm.at_ mm.fn ?_
  refine wpAny_mono (run_fn (us := [.ref a, v]) (vs := [.ref a, x]) (ds := []) (dvs := []) F hr hb .nil hx I (.cons rfl (.cons rx .nil)) q) (fun w s' z => ?_) fun _ _ x => x
  obtain ⟨z', H', I', rz, b, eb, qz⟩ := z
  subst eb
  cases (show w = Value.bool b from rz)
  exact wpAny_truthy_bool ⟨.bl (!b), H', I', rfl, qz⟩
theorem op_inOwn (mm : Meth X.K C "__contains__" g) (F : FnOk X.prog X.w X.K X.mg X.base CX k g fd ps sp) (hr : Room k X.A) (hb : Binds X.K fd ps []) (hx : Passes CX X E) : OpR X (compareOp .In) (rOwnIn C id sp E) := by
  intro pins s σ H x y v u Q I rx ry h
  obtain ⟨a, dx, fs, rfl, ha, q⟩ := h
  cases (show u = Value.ref a from ry)
  obtain ⟨mA, O, _⟩ := ins_get I.hok ha
  obtain ⟨od, J, _⟩ := O.look
  obtain ⟨m, hF⟩ := I.fr
  refine PySem.W.in_K hF I.ok.mod.kin J mm.at_ mm.fn ?_
  refine wpAny_mono (run_fn (us := [.ref a, v]) (vs := [.ref a, x]) (ds := []) (dvs := []) F hr hb .nil hx I (.cons rfl (.cons rx .nil)) q) (fun w s' z => ?_) fun _ _ x => x
  obtain ⟨z', H', I', rz, b, eb, qz⟩ := z
  subst eb
  cases (show w = Value.bool b from rz)
  exact wpAny_truthy_bool ⟨.bl b, H', I', rfl, qz⟩
end

/-! ### heaps -/
/-- all that was tracked stands, but what is at a -/
def SameX (a : Addr) (H H' : Hp) : Prop := ∀ b o, b ≠ a → H b = some o → H' b = some o
theorem SameX.refl {a : Addr} {H : Hp} : SameX a H H := fun _ _ _ h => h
theorem SameX.trans {a : Addr} {H H1 H2 : Hp} (x : SameX a H H1) (y : SameX a H1 H2) : SameX a H H2 := fun b o n h => y b o n (x b o n h)
theorem SameX.upd {a : Addr} {H : Hp} {o : HO} : SameX a H (L2.upd H a o) := fun b _ n h => by
  rw [upd_ne n]
  exact h
theorem SameX.upd' {a : Addr} {H H1 : Hp} {o : HO} (x : SameX a H H1) : SameX a H (L2.upd H1 a o) := x.trans .upd
theorem SameX.of {a : Addr} {H H1 : Hp} (x : Same H H1) : SameX a H H1 := fun b o _ h => x b o h
theorem Same.new {H : Hp} {p : Addr} {o : HO} (h : H p = none) : Same H (upd H p o) := fun b u e => by
  rw [upd_ne (ne_of_none e h)]
  exact e
theorem SqL.now {K : PySem.W.Frag} {H : Hp} {a : Addr} {xs : List V} (h : H a = some (.lst xs)) : SqL K H a xs := SqL.of h

/-! ### the purse -/
/-- a purse's rows -/
def pur (c : Addr) (p r n s : Int) : List V := [.ref c, .int p, .int r, .int n, .int s]
structure Purse (a c : Addr) (H : Hp) : Prop where
  ex : ∃ (cs : List Int) (p : Nat) (r n s : Int), H a = some (.lst (pur c p r n s)) ∧ H c = some (.lst (cs.map V.int)) ∧ (∀ x ∈ cs, 0 ≤ x) ∧ p ≤ cs.length ∧ cs.length ≤ 63 ∧ 0 ≤ r ∧ 0 ≤ s ∧ s < 2147483647
theorem pur_ne {H : Hp} {a c c' : Addr} {p r n s : Int} {cs : List Int} (h : H a = some (.lst (pur c p r n s))) (h' : H c' = some (.lst (cs.map V.int))) : c' ≠ a := ne_of h' h (by
  intro e
  injection e with e
  cases cs with
  | nil => cases e
  | cons x r => injection e with e1 _; cases e1)
theorem lk1 {m f : Str} {v : V} (h : (m == f) = false) : List.lookup m [(f, v)] = none := by
  simp only [List.lookup, h]
theorem bl_t {p : Prop} [Decidable p] (h : p) : V.bl (decide p) = V.bl true := congrArg V.bl (decide_eq_true h)
theorem bl_f {p : Prop} [Decidable p] (h : ¬ p) : V.bl (decide p) = V.bl false := congrArg V.bl (decide_eq_false h)
theorem bln_t {p : Prop} [Decidable p] (h : p) : V.bl (!decide p) = V.bl false := by rw [decide_eq_true h]; rfl
theorem bln_f {p : Prop} [Decidable p] (h : ¬ p) : V.bl (!decide p) = V.bl true := by rw [decide_eq_false h]; rfl
theorem int_ne {a b : Int} (h : ¬ a = b) : ¬ V.int a = V.int b := fun e => h (V.int.inj e)
theorem int_eq {a b : Int} (h : a = b) : V.int a = V.int b := congrArg V.int h

theorem Purse.there {a c : Addr} {H : Hp} (P : Purse a c H) : (∃ xs, H a = some (.lst xs)) ∧ ∃ ys, H c = some (.lst ys) := by
  obtain ⟨cs, p, r, n, s, h1, h2, _⟩ := P.ex
  exact ⟨⟨_, h1⟩, _, h2⟩
/-- a purse stands where both of its lists stand -/
theorem Purse.keep {a c : Addr} {H H' : Hp} (P : Purse a c H) (h : H' a = H a) (h' : H' c = H c) : Purse a c H' := by
  obtain ⟨cs, p, r, n, s, h1, h2, q⟩ := P.ex
  exact ⟨cs, p, r, n, s, h.trans h1, h'.trans h2, q⟩
theorem Purse.same {a c : Addr} {H H' : Hp} (P : Purse a c H) (s : Same H H') : Purse a c H' := by
  obtain ⟨cs, p, r, n, z, h1, h2, q⟩ := P.ex
  exact ⟨cs, p, r, n, z, s _ _ h1, s _ _ h2, q⟩
theorem Purse.on {a c b : Addr} {H H' : Hp} (P : Purse a c H) (s : SameX b H H') (na : a ≠ b) (nc : c ≠ b) : Purse a c H' := by
  obtain ⟨cs, p, r, n, z, h1, h2, q⟩ := P.ex
  exact ⟨cs, p, r, n, z, s _ _ na h1, s _ _ nc h2, q⟩
theorem small1000' {n : Nat} (h : n < 100000) : n < sizeLine := Nat.lt_of_lt_of_le h (by decide)
theorem sqT_sm {K : PySem.W.Frag} {H H' : Hp} {a : Addr} {xs : List V} (h : SqT K H a xs) (s : Same H H') : SqT K H' a xs := by
  rcases h with (h | ⟨o, h⟩) | h
  · exact .inl (.inl (s _ _ h))
  · exact .inl (.inr ⟨o, s _ _ h⟩)
  · exact .inr h
/-! ### several except clauses, each with or without a name -/
section
open PySem.Spec PyProof.Rows
variable {X : Cx}
/-- a clause: its class, the slot of its name, its suite -/
abbrev Cl := Value × Option Nat × (Addr → Value → Option Addr → TS)
def unN (D : Ends) (i : Nat) : Ends := { nx := fun σ H => D.nx (σ.set i none) H, rt := D.rt, bk := fun σ H => D.bk (σ.set i none) H, ct := fun σ H => D.ct (σ.set i none) H }
def clGo (D : Ends) (o : Option Nat) (t : TS) (a : Addr) (σ : L2.St) (H : Hp) : Prop := match o with
  | none => t D σ H
  | some i => t (unN D i) (σ.set i (some (.ref a))) H
def wCl (K : PySem.W.Frag) (Wout : WX) (D : Ends) : List Cl → WX
  | [] => Wout
  | (c, o, ts) :: r => fun cls d σ H => ∃ b, PySem.W.exmOne K cls c = some b ∧ (b = true → ∀ a, H a = none → clGo D o (ts a cls d) a σ H) ∧ (b = false → wCl K Wout D r cls d σ H)
inductive ClOk (X : Cx) : List ExceptHandler → List Cl → Prop
  | nil : ClOk X [] []
  | bare {x : Str} {c : Value} {ts : Addr → Value → Option Addr → TS} {b0 : Stmt} {su : List Stmt} {np ps : Pos} {hs : List ExceptHandler} {l : List Cl} (nm : Names X x c)
      (ok : ∀ (a : Addr) (oe : Obj) (cls : Value) (d : Option Addr) (pn : List (Addr × Obj)), Zc cls d oe → (∃ vs, oe.data = .fields vs) → PSs (X.suite a ((a, oe) :: pn)) (b0 :: su) (ts a cls d)) (rest : ClOk X hs l) :
      ClOk X (.ExceptHandler (some (.Name x np)) none (b0 :: su) ps :: hs) ((c, none, ts) :: l)
  | named {x n : Str} {i : Nat} {c : Value} {ts : Addr → Value → Option Addr → TS} {b0 : Stmt} {su : List Stmt} {np ps : Pos} {hs : List ExceptHandler} {l : List Cl} (nd : X.N.Nodup) (hi : X.N[i]? = some n) (lc : X.env.kindOf n = some .local) (nm : Names X x c)
      (ok : ∀ (a : Addr) (oe : Obj) (cls : Value) (d : Option Addr) (pn : List (Addr × Obj)), Zc cls d oe → (∃ vs, oe.data = .fields vs) → PSs (X.suite a ((a, oe) :: pn)) (b0 :: su) (ts a cls d)) (rest : ClOk X hs l) :
      ClOk X (.ExceptHandler (some (.Name x np)) (some n) (b0 :: su) ps :: hs) ((c, some i, ts) :: l)
theorem ps_try_cl {body : List Stmt} {h0 : ExceptHandler} {hs : List ExceptHandler} {l : List Cl} {pos : Pos} {tb : WX → TS} {Wout : WX} (st : X.stack = X.env :: X.outer) (fr : X.env.frame = some X.env.locals) (tk : Takes X Wout)
    (hb : ∀ (W : WX) (pn : List (Addr × Obj)) (xe : Value → Shared → Prop), Takes (X.tr pn xe) W → PassesOwn (model X.prog X.w) X.A X.env xe → PSs (X.tr pn xe) body (tb W))
    (hh : ClOk X (h0 :: hs) l) : PS X (.Try body (h0 :: hs) [] [] pos) (fun D σ H => tb (wCl X.K Wout D l) D σ H) := by
  refine ⟨fun pins s σ H D I h => ?_⟩
  have ok := I.ok
  have frs0 : X.A.frames = some (X.env :: X.outer) := by
    rw [ok.frames, st]
  refine wpAny_Try_except (wpAny_mono ((hb (wCl X.K Wout D l) (X.pn ++ pins) (fun e t1 => wpAny (model X.prog X.w) X.A (noteFrame e X.env) (fun _ t2 =>
    wpAny (model X.prog X.w) X.A (setFlight e none) (fun _ t3 => wpAny (model X.prog X.w) X.A (handleBy e X.env (h0 :: hs)) (SP X pins D) X.xe t3) X.xe t2) X.xe t1)
      (fun u s' xx => ?_) PassesOwn.looking).run [] s σ H D (I.toTry _) h) (fun f s1 hsp => ?_) (fun _ _ z => z))
  · obtain ⟨a, B, sI, pins', σ', H', cls, d, rfl, J', nb, up, sky, na, os, ag, w⟩ := xx
    have J := J'.ofTry ok
    have sky2 : Sky B (X.env :: X.outer) a (Zc cls d) X.env.locals s'.heap := by
      rw [← st]
      exact sky
    refine Sky.land Zc.steady frs0 fr sky2 fun g1 fl1 up1 => ?_
    have J1 : Inv X pins σ' H' { s' with heap := g1 } := J.landed nb fl1.1 (up.trans up1) os ag
    obtain ⟨o1, vs1, at1, z1, dt1⟩ := fl1.there
    have off : a ∉ frs (X.env :: X.outer) := fun hm => by
      obtain ⟨_, o', e', hnf⟩ := fl1.2.2.1.mem hm
      rw [at1] at e'
      cases e'
      exact hnf _ dt1
    have offL : a ≠ X.env.locals := fun z => off (List.mem_filterMap.mpr ⟨X.env, List.mem_cons_self, by rw [fr, z]⟩)
    have offF : a ∉ X.fs := fun hm => by
      obtain ⟨e, he, q⟩ := List.mem_filterMap.mp hm
      exact off (List.mem_filterMap.mpr ⟨e, List.mem_cons_of_mem _ he, q⟩)
    have S1 := J1.suite at1 dt1 na offL offF
    have LT : PySem.W.Looks (model X.prog X.w) g1 (typeOf (.ref a)) cls := fun A Q E s k q => wpAny_typeOf_ref (k _ _ at1) (by rw [z1.1]; exact q)
    have ask : ∀ {x : Str} {np : Pos} {c : Value}, Names X x c → ∀ {Q : Value → Shared → Prop} {E : Value → Shared → Prop}, Q c { s' with heap := g1 } →
        wpAny (model X.prog X.w) (X.A.mark (some (.ref a))) (eval (.Name x np) X.env) Q E { s' with heap := g1 } := fun {x np c} nm {Q E} q => by
      obtain ⟨hg, hdb, h1 | ⟨h1, h2, h3⟩⟩ := nm
      · exact ld_glob (X := X.suite a ((a, o1) :: (X.pn ++ pins))) S1 hg h1 q hdb
      · exact ld_blt (X := X.suite a ((a, o1) :: (X.pn ++ pins))) S1 hg h1 h2 q h3 hdb
    have go : ∀ {hs' : List ExceptHandler} {l' : List Cl}, ClOk X hs' l' → wCl X.K Wout D l' cls d σ' H' → wpAny (model X.prog X.w) X.A (handleBy (.ref a) X.env hs') (SP X pins D) X.xe { s' with heap := g1 } := by
      intro hs' l' hk
      induction hk with
      | nil =>
        intro w
        refine wpAny_handleBy_nil ?_
        obtain ⟨_, _, _, oe, vs, Tr, _, _, he, hz, hd, h1, _⟩ := id fl1
        unfold PySem.passOn
        refine wpAny_bind (wpAny_field he hd h1 ?_)
        rw [if_neg (show ¬ ((Value.ref Tr == Value.none) = true) from by simp)]
        have last : wpAny (model X.prog X.w) X.A (setFlight (.ref a) X.env.frame) (fun _ t => wpAny (model X.prog X.w) X.A (throw (.ref a) : Sem Flow) (SP X pins D) X.xe t) X.xe { s' with heap := g1 } := by
          rw [fr]
          refine HandSPX.setFlight_upZ fl1 fun g2 hh2 up2 => wpAny_throw (tk _ _ ?_)
          exact ⟨a, B, sI, pins, σ', H', cls, d, rfl, J, nb, (up.trans up1).trans up2, .inr (.inr (by rw [st]; exact hh2)), na, os, ag, w⟩
        first
          | exact wpAny_bind (wpAny_pure (wpAny_bind last))
          | exact wpAny_bind last
      | bare nm su rest ih =>
        intro w
        obtain ⟨b, hb1, yes, no⟩ := w
        have LM := PySem.W.exm_one (M := model X.prog X.w) J1.kIn LT hb1
        refine wpAny_handleBy_cons (codeAny_handlers_test (ask nm (LM.here ?_))) (fun q => by cases q)
        cases b with
        | false => exact ih (no rfl)
        | true =>
          refine codeAny_handlers_suite (HandSPX.lands_againZ fl1 fun g2 fl2 up2 => ?_)
          have J2 : Inv X pins σ' H' { s' with heap := g2 } := J.landed nb fl2.1 ((up.trans up1).trans up2) os ag
          obtain ⟨o2, vs2, at2, z2, dt2⟩ := fl2.there
          refine wpAny_mono ((su a o2 cls d (X.pn ++ pins) z2 ⟨_, dt2⟩).run [] _ _ H' _ (J2.suite at2 dt2 na offL offF) (yes rfl a na)) (fun f t hsp => ?_) (fun _ _ z => z.elim)
          cases f with
          | ret u =>
            obtain ⟨v6, σ6, H6, S6, r6, q6⟩ := hsp
            exact ⟨_, _, _, S6.unsuite ok, r6, q6⟩
          | next => exact let ⟨_, _, S6, q6⟩ := hsp; ⟨_, _, S6.unsuite ok, q6⟩
          | brk => exact let ⟨_, _, S6, q6⟩ := hsp; ⟨_, _, S6.unsuite ok, q6⟩
          | cont => exact let ⟨_, _, S6, q6⟩ := hsp; ⟨_, _, S6.unsuite ok, q6⟩
      | named nd hi lc nm su rest ih =>
        intro w
        obtain ⟨b, hb1, yes, no⟩ := w
        have LM := PySem.W.exm_one (M := model X.prog X.w) J1.kIn LT hb1
        refine wpAny_handleBy_cons (codeAny_handlers_test (ask nm (LM.here ?_))) (fun q => by cases q)
        cases b with
        | false => exact ih (no rfl)
        | true =>
          refine codeAny_handlers_suite_as (HandSPX.lands_againZ fl1 fun g2 fl2 up2 => ?_)
          have J2 : Inv X pins σ' H' { s' with heap := g2 } := J.landed nb fl2.1 ((up.trans up1).trans up2) os ag
          obtain ⟨o2, vs2, at2, z2, dt2⟩ := fl2.there
          refine store_ok (X := X.suite a ((a, o2) :: (X.pn ++ pins))) (v := .ref a) (J2.suite at2 dt2 na offL offF) nd hi (.inl lc) rfl (fun t S5 => ?_) (.inr lc)
          refine wpAny_mono ((su a o2 cls d (X.pn ++ pins) z2 ⟨_, dt2⟩).run [] t _ H' _ S5 (yes rfl a na)) (fun f t6 hsp => ?_) (fun _ _ z => z.elim)
          cases f with
          | next =>
            obtain ⟨σ6, H6, S6, q6⟩ := hsp
            exact gone_ok (S6.unsuite ok) nd hi lc fun s7 J7 => ⟨_, _, J7, q6⟩
          | brk =>
            obtain ⟨σ6, H6, S6, q6⟩ := hsp
            exact gone_ok (S6.unsuite ok) nd hi lc fun s7 J7 => ⟨_, _, J7, q6⟩
          | cont =>
            obtain ⟨σ6, H6, S6, q6⟩ := hsp
            exact gone_ok (S6.unsuite ok) nd hi lc fun s7 J7 => ⟨_, _, J7, q6⟩
          | ret u =>
            obtain ⟨v6, σ6, H6, S6, r6, q6⟩ := hsp
            exact gone_ok (S6.unsuite ok) nd hi lc fun s7 J7 => ⟨_, _, _, J7, r6, q6⟩
    exact go hh w
  · cases f with
    | ret u => exact let ⟨v, σ', H', J', r, q⟩ := hsp; ⟨v, σ', H', J'.ofTry ok, r, q⟩
    | next =>
      obtain ⟨σ', H', J', q⟩ := hsp
      exact wpAny_execs_nil ⟨σ', H', J'.ofTry ok, q⟩
    | brk => exact let ⟨σ', H', J', q⟩ := hsp; ⟨σ', H', J'.ofTry ok, q⟩
    | cont => exact let ⟨σ', H', J', q⟩ := hsp; ⟨σ', H', J'.ofTry ok, q⟩
end
/-! ### own exceptions -/
/-- what the written part says of an own exception class: the class at C, its __init__ at f -/
structure XCls (K : PySem.W.Frag) (mg : Str → Option Value) (nm : Str) (C f : Addr) : Prop where
  g : mg nm = some (.ref C)
  o : OexC K C
  i : PySem.W.findIn K (.ref C) "__init__" = some (some (.ref f))
  t : PySem.W.typeIn K (.ref f) = some (.type "function")
  x : XfC K C
  e : ExcC K C
theorem xcls_mk {K : PySem.W.Frag} {mg : Str → Option Value} {nm : Str} {C f : Addr} {n q : Str} {N : Addr} {bs bm : List Value} {sn : List Str} {sub : List Value} {ab : Bool} {col : _} {dd : Option Addr} {k0 k1 k2 k3 k5 : Option Value}
    (g : mg nm = some (.ref C)) (l : K.lookup C = some (excClassObj n q C N bs bm true sn sub ab col dd k0 k1 k2 k3 k5 "ValueError.__new__")) (bm' : PySem.HandSPX.refsVE bm = true) (sa : PySem.W.findIn K (.ref C) "__setattr__" = some (some (.builtin "object.__setattr__")))
    (ex : PySem.W.subIn K (.ref C) (.type "BaseException") = some true) (ty : PySem.W.typeIn K (.ref C) = some (.type "type")) (kp : PySem.W.keepIn K (.ref C) = true) (i : PySem.W.findIn K (.ref C) "__init__" = some (some (.ref f)))
    (t : PySem.W.typeIn K (.ref f) = some (.type "function")) (ga : PySem.W.findIn K (.ref C) "__getattribute__" = some (some (.builtin "BaseException.__getattribute__"))) (gg : PySem.W.findIn K (.ref C) "__getattr__" = some none) (hd : PySem.W.hasDictIn K C = true)
    (ha : PySem.W.findIn K (.ref C) "__class__" = some (some (.builtin "object.__class__"))) (hn : PySem.W.specialIn K (.builtin "object.__class__") "__get__" = some (some (.builtin "getset_descriptor.__get__")))
    (ht : PySem.W.takesIn K (.builtin "object.__class__") = some true) (hm : PySem.W.mroIn K C (.type "object") = some true) : XCls K mg nm C f :=
  ⟨g, ⟨⟨n, q, N, bs, bm, sn, sub, ab, col, dd, k0, k1, k2, k3, k5, l, bm'⟩, sa, ex, ty, kp⟩, i, t, ⟨ga, gg, ex, hd⟩, ⟨ga, gg, ex, hd, ha, hn, ht, hm⟩⟩
/-- __init__ of such a class: one field is stored -/
def sp_xinit (K : PySem.W.Frag) (f : Str) : Sp := fun vs H Q _ => ∃ (a C : Addr) (v : V), vs = [.ref a, v] ∧ OexC K C ∧ PySem.W.findIn K (.ref C) f = some none ∧ H a = some (exo a C none) ∧
  ∀ dx, H dx = none → dx ≠ a → Q .non (upd (upd H dx (exd dx [(f, v)])) a (exo a C (some dx)))
/-- raise C(v): what follows holds wherever the new error's dict is told, all else standing -/
theorem mkO_of {K : PySem.W.Frag} {f : Str} {C : Addr} {v : V} {H : Hp} {E : XK} (O : OexC K C) (hn : PySem.W.findIn K (.ref C) f = some none) (k : ∀ d H', H d = none → Same H H' → H' d = some (.xd [(f, v)]) → E (.ref C) (some d) H') :
    [v].length ≤ 1000 ∧ ∀ a, H a = none → sp_xinit K f (.ref a :: ([v] ++ [])) (upd H a (exo a C none))
      (fun w H2 => w = .non ∧ ∃ (d : Addr) (fs : List (Str × V)), H2 a = some (exo a C (some d)) ∧ H2 d = some (exd d fs) ∧ H d = none ∧ E (.ref C) (some d) (upd (del H2 a) d (.xd fs))) (fun _ _ _ => False) := by
  refine ⟨Nat.succ_le_succ (Nat.zero_le _), fun a ha => ⟨a, C, v, rfl, O, hn, upd_same, fun dx hdx ne => ⟨rfl, dx, [(f, v)], upd_same, ?_, ?_, ?_⟩⟩⟩
  · rw [upd_ne ne]
    exact upd_same
  · rw [upd_ne ne] at hdx
    exact hdx
  · have hdx0 : H dx = none := by
      rw [upd_ne ne] at hdx
      exact hdx
    refine k dx _ hdx0 (fun b o e => ?_) upd_same
    have nb : b ≠ dx := ne_of_none e hdx0
    have na : b ≠ a := ne_of_none e ha
    rw [upd_ne nb, del_ne na, upd_ne na, upd_ne nb, upd_ne na]
    exact e
section
variable {X : Cx} {a : Addr} {oe : Obj} {cls : Value} {d : Option Addr} {pn : List (Addr × Obj)} {n : Str}
/-- e.n in a suite, e of whichever class it is -/
def tXg (K : PySem.W.Frag) (a : Addr) (cls : Value) (d : Option Addr) (f : Str) (te : TE) : TE := fun σ H Q => te σ H fun x H1 => x = .ref a ∧ ∃ (C dd : Addr) (fs : List (Str × V)) (v : V), cls = .ref C ∧ XfC K C ∧ PySem.W.findIn K (.ref C) f = some none ∧ d = some dd ∧ H1 dd = some (.xd fs) ∧ fs.lookup f = some v ∧ Q v H1
theorem pe_xg {e : Expr} {te : TE} {pos : Pos} (hz : Zc cls d oe) (hf : ∃ vs, oe.data = .fields vs) (he : PE (X.suite a ((a, oe) :: pn)) e te)
    (hb : attributeBase e n X.env (eval e X.env) = eval e X.env := by rfl) : PE (X.suite a ((a, oe) :: pn)) (.Attribute e n pos) (tXg X.K a cls d n te) := by
  refine ⟨fun pins s σ H Q I h => ?_⟩
  refine attr_of hb (thn (he.run pins s σ H _ I h) fun u s1 hh => ?_)
  obtain ⟨x, H1, I1, rx, ex, C, dd, fs, v, ec, T, hno, ed, ea, l, q⟩ := hh
  subst ex ec ed
  obtain rfl : u = Value.ref a := rx
  obtain ⟨mA, hns, hr⟩ := (show ObjOk X.prog X.w H1 s1.heap dd (.xd fs) from I1.hok dd _ ea)
  obtain ⟨od, ho, hl⟩ := lookIn_ns hns
  obtain ⟨u, hu, ru⟩ := RelO.some_of (v := v) (o := mA n) (by rw [← l]; exact hr n)
  obtain ⟨vs, hv⟩ := hf
  have J : PySem.W.InstAt s1.heap a oe C (some od) := ⟨(I1.pin (a, oe) (List.mem_append_left _ List.mem_cons_self)).1, hz.1, by unfold PySem.W.notCls; rw [hv] <;> rfl, by rw [hz.2]; exact ho⟩
  exact PySem.HandSPX.exc_get I1.kIn J T.ga T.gg T.exC (PySem.W.findObj_own T.hdC hno rfl (by rw [hl, hu])) (handed_of ru) ⟨v, H1, I1.tok _, ru, q⟩
/-- isinstance(e, c) in a suite -/
def rIsX (K : PySem.W.Frag) (a : Addr) (cls : Value) (d : Option Addr) : List V → Hp → VK → Prop := fun xs H Q => ∃ (c : V) (cv : Value) (b : Bool) (D dd : Addr) (fs : List (Str × V)), xs = [.ref a, c] ∧ (∀ u, RelV c u → u = cv) ∧ cls = .ref D ∧ ExcC K D ∧ d = some dd ∧ H dd = some (.xd fs) ∧
  PySem.W.kitOne K (.ref D) cv = some b ∧ Q (.bl b) H
theorem call_isX (hz : Zc cls d oe) (hf : ∃ vs, oe.data = .fields vs) : CallR (X.suite a ((a, oe) :: pn)) (.builtin "isinstance") (rIsX X.K a cls d) := by
  intro pins s σ H xs us Q I r h
  obtain ⟨c, cv, b, D, dd, fs, rfl, hcv, ec, C, ed, ea, e, q⟩ := h
  subst ec ed
  obtain ⟨u1, u2, rfl, r1, r2⟩ := vals2 r
  cases (show u1 = Value.ref a from r1)
  cases (hcv _ r2)
  obtain ⟨mA, hns, hr⟩ := (show ObjOk X.prog X.w H s.heap dd (.xd fs) from I.hok dd _ ea)
  obtain ⟨od, ho, hl⟩ := lookIn_ns hns
  obtain ⟨vs, hv⟩ := hf
  have J : PySem.W.InstAt s.heap a oe D (some od) := ⟨(I.pin (a, oe) (List.mem_append_left _ List.mem_cons_self)).1, hz.1, by unfold PySem.W.notCls; rw [hv] <;> rfl, by rw [hz.2]; exact ho⟩
  obtain ⟨cd, hc, _⟩ := PySem.W.any_some C.hd
  exact PySem.W.kia_one (PySem.W.kitx_exc (by rw [hc]; rfl) C.hg C.hk C.hs C.ha C.hn C.ht C.hm) I.kIn J e (fun z => nomatch z) fun tk => ⟨.bl b, H, I.tok tk, rfl, q⟩
end
section
variable {X : Cx} {CX' : CXT} {k : Nat} {f C : Addr} {fd : FuncData} {ps : List Str} {sp : Sp} {E : St → XK} {x m : Str} {p pos apos : Pos} {e o : Expr} {es : List Expr} {ta : TE} {t : TA}
/-- o.m(..), what it lets out wished for at the caller's slots -/
def tMethX (C : Addr) (m : Str) (sp : Sp) (E : St → XK) (ta : TE) (t : TA) : TE := fun σ H Q => ta σ H fun x H1 => ∃ a dx fs, x = .ref a ∧ H1 a = some (.ins C dx fs) ∧ fs.lookup m = none ∧ t σ H1 fun vs H2 => sp (x :: vs) H2 Q (E σ)
theorem pe_methX {pl : Sem Bool} (he : PE X o ta) (c : Cls X.K C) (hm : Meth X.K C m f) (F : FnOk X.prog X.w X.K X.mg X.base CX' k f fd ps sp) (hr : Room k X.A) (hb : Binds X.K fd ps []) (hx : ∀ σ, PassesAt CX' X σ (E σ)) (ha : PA X (e :: es) t)
    (hst : starEach (e :: es) X.env = (false, eval e X.env) :: starEach es X.env := by rfl) (hpl : (PySem.backTo pos (starEach es X.env)).any (·.1) = false := by rfl)
    (ht : eval (.Call (.Attribute o m apos) (e :: es) [] pos) X.env = (eval o X.env >>= fun ov => standAt apos.atName >>= fun _ => holding [ov] (getMethod ov m pl) >>= fun fr => callWith pos fr.1 fr.2 (PySem.backTo pos (starEach (e :: es) X.env)) (backToKw pos (keywordEach [] X.env))) := by rfl) :
    PE X (.Call (.Attribute o m apos) (e :: es) [] pos) (tMethX C m sp E ta t) := by
  refine ⟨fun pins s σ H Q I h => ?_⟩
  refine PySem.W.methodCall_KW (pl := pl) (thn (he.run pins s σ H _ I h) fun u s1 ⟨x, H1, I1, rx, a, dx, fs, ex, ea, l, q⟩ => ?_) ht
  subst ex
  obtain rfl : u = Value.ref a := rx
  refine getmeth_ok I1 ea c hm l ?_
  refine PySem.W.callWith_K (h₀ := X.base) I1.ok.mod.kin hm.kp (thn (ha.run pos pins s1 σ H1 _ I1 q) fun us s2 ⟨vs, H2, I2, r, q2⟩ => ⟨I2.kIn, ?_⟩) hst hpl
  exact run_fnS (us := .ref a :: us) (vs := .ref a :: vs) F hr hb (hx σ) I2 (.cons rfl r) q2
end
/-- a class that is only named -/
structure GCls (mg : Str → Option Value) (nm : Str) (C : Addr) : Prop where
  g : mg nm = some (.ref C)
/-! ### enumerate of a list or of a tuple -/
section
open PySem.Spec PyProof.Rows
set_option maxHeartbeats 1000000 in
theorem meets_enum1 {v : Value} {o : Obj} {H : Heap → Prop} (B : PySem.Begins v o H) :
    Meets (Builtin.«enumerate.__new__» ⟨[.type "enumerate", v], []⟩) (fun _ R s => H s.heap ∧
      R (.ok (.ret (.ref (s.heap.push o).objs.size))) { s with heap := (s.heap.push o).push { cls := .type "enumerate", data := .fields #[.none, .bool false, .ref s.heap.objs.size, rawInt 0, .none, .none] } }) :=
  .of_wp fun prog w A R s h => by
    obtain ⟨hp, g, d, tk, os⟩ := s
    obtain ⟨h1, h⟩ := h
    have hsub := PySem.sub_enumerate
    have q1 : ∀ {A' : Around} {E : Value → Shared → Prop} {Q : Value → Shared → Prop}, Q (.ref hp.objs.size) ⟨hp.push o, g, d, tk, os⟩ → wpAny (model prog w) A' (pyIter v) Q E ⟨hp, g, d, tk, os⟩ := fun q =>
      B.iter prog w _ _ ⟨hp, g, d, tk, os⟩ _ h1 q
    wp_walk
    refine wpAny_stack_any fun st => wpAny_pure ?_
    split
    · rename_i c _ _ _ _ _
      cases (c == Value.type "enumerate") <;> (wp_walk using q1; exact ⟨_, rfl, h⟩)
    · wp_walk using q1
      exact ⟨_, rfl, h⟩
theorem enum1 {prog : Program} {w : World} {A : Around} {E : Value → Shared → Prop} {s : Shared} {v : Value} {o : Obj} {H : Heap → Prop} {Q : Value → Shared → Prop} (B : PySem.Begins v o H) (h1 : H s.heap)
    (h : ∀ h', PySem.IsEnum h' (s.heap.objs.size + 1) s.heap.objs.size 0 .none → h'.get? s.heap.objs.size = some o → (∀ b u, s.heap.get? b = some u → h'.get? b = some u) → Q (.ref (s.heap.objs.size + 1)) { s with heap := h' }) :
    wpAny (model prog w) A (call (.type "enumerate") [v]) Q E s := by
  refine callType_new F.called_enumerate (by decide) (F.typeCall_enumerate_1 _) (F.newCall_enumerate_1 _) (fun obj => F.args_object_init_2 obj _) F.entry_enumerate_new (meets_enum1 B) ⟨h1, ?_⟩
  have hz : (s.heap.push o).objs.size = s.heap.objs.size + 1 := Heap.size_push ..
  show _ ∧ _
  rw [hz]
  have he : PySem.IsEnum ((s.heap.push o).push { cls := .type "enumerate", data := .fields #[.none, .bool false, .ref s.heap.objs.size, rawInt 0, .none, .none] }) (s.heap.objs.size + 1) s.heap.objs.size 0 .none := by
    have z := Heap.get?_push_size (s.heap.push o) (o := { cls := .type "enumerate", data := .fields #[.none, .bool false, .ref s.heap.objs.size, rawInt 0, .none, .none] }) rfl
    rw [hz] at z
    exact z
  exact ⟨⟨_, he, rfl⟩, h _ he (Heap.get?_push_of_some _ (Heap.get?_push_size _ B.free)) fun b u x => Heap.get?_push_of_some _ (Heap.get?_push_of_some _ x)⟩
/-- the tuple at a, each item in a new pair -/
def Iteu (K : PySem.W.Frag) (a : Addr) : It :=
  ⟨fun i H => ∃ (xs : List V) (x : V), SqT K H a xs ∧ xs[i]? = some x, fun i H v H' => ∃ T x, v = .ref T ∧ H T = none ∧ H' = upd H T (.tup [.int (i : Nat), x]) ∧ ∀ xs, SqT K H a xs → xs[i]? = some x, fun i H => ∃ xs : List V, SqT K H a xs ∧ xs.length = i⟩
theorem turn_enumU {P : Program} {w : World} {K : PySem.W.Frag} {elts : List Expr} {kk : Nat} {tpos : Pos} (a e it : Addr) :
    Turn P w K (.Tuple elts kk tpos) (Iteu K a) [e, it] e (fun i h => (∃ old, PySem.IsEnum h e it ((i : Nat) : Int) old) ∧ h.IsTupleIter it a i ∧ e ≠ it ∧ a ≠ it ∧ e ≠ a) where
  mem := by simp
  obj := fun i h st b hb => by
    obtain ⟨⟨old, he⟩, ⟨o, ho, hc, hd⟩, _⟩ := st
    rcases (show b = e ∨ b = it by simpa using hb) with z | z
    · rw [z]
      exact ⟨_, he, fun v q => nomatch q⟩
    · rw [z]
      exact ⟨o, ho, fun v q => by rw [hd] at q; cases q⟩
  keep := fun i h h' st k => let ⟨⟨old, he⟩, hi, r⟩ := st; ⟨⟨old, k e (by simp) _ he⟩, hi.at fun o q => k it (by simp) o q, r⟩
  item := by
    intro X hP hw hK hc i pins s σ H E I hf st hg
    subst hP hw hK
    obtain ⟨⟨old, he⟩, hit, hne, hai, hea⟩ := st
    obtain ⟨xs, x, hq, hx⟩ := hg
    obtain ⟨its, rv, p, hz⟩ := I.tuple hq
    obtain ⟨u, hu, ru⟩ := rv.get hx
    have hel : e < s.heap.objs.size := Heap.lt_size he
    have hil : it < s.heap.objs.size := by
      obtain ⟨_, q, _⟩ := hit
      exact Heap.lt_size q
    have D := PySem.Draws.tuple (prog := X.prog) (w := X.w) (A := X.A.in1) (I.ok.hd hc) it a hai its.toArray
    have hlt : i < its.toArray.size := by
      have q := (List.getElem?_eq_some_iff.mp hu).1
      simpa using q
    refine PySem.wpAny_pyNext_enum_itemD D he ⟨hit, p⟩ hlt hne (by simp [hne, hea]) fun y h' tk hy ho hit' hT hsz hk => ?_
    have ey : y = u := by
      have z : its.toArray[i]? = some u := by simpa using hu
      rw [z] at hy
      exact (Option.some.inj hy).symm
    subst ey
    refine ⟨_, rfl, PySem.wpAny_letOwnedTupleGo_enum (s := { s with heap := h', toks := tk + 1 }) ho fun h'' he' sb => ?_⟩
    have hT2 : h''.get? s.heap.objs.size = some { cls := .type "tuple", data := .seq #[.int i tk, y] } := (sb.2 _ (Nat.ne_of_gt hel)).trans hT
    have new : ObjOk X.prog X.w (upd H s.heap.objs.size (.tup [.int (i : Nat), x])) h'' s.heap.objs.size (.tup [.int (i : Nat), x]) :=
      ⟨by show 2 ≤ sizeLine; decide, [.int i tk, y], .cons ⟨_, rfl⟩ (.cons ru .nil), ⟨_, hT2, rfl, _, rfl⟩⟩
    have I1 : Inv X pins σ (upd H s.heap.objs.size (.tup [.int (i : Nat), x])) { s with heap := h'', toks := tk + 1 } :=
      I.turnedNew (ch := [e, it]) (fun b ob hb q => (sb.2 b (fun z => hb (by simp [z]))).trans (hk b ob (fun z => hb (by simp [z])) (fun z => hb (by simp [z])) q)) hf (Nat.le_refl _) new
    refine ⟨.ref s.heap.objs.size, _, I1, rfl, ⟨_, x, rfl, I.hok.fresh (Nat.le_refl _), rfl, fun ys hy => by rw [I.tuple_inj hy hq]; exact hx⟩, ⟨⟨y, ?_⟩, hit'.1.at fun o q => (sb.2 it (Ne.symm hne)).trans q, hne, hai, hea⟩, fun b hb => ?_⟩
    · rw [show ((i + 1 : Nat) : Int) = (i : Int) + 1 by omega]
      exact he'
    · have hb' : b < s.heap.objs.size := by
        rcases (show b = e ∨ b = it by simpa using hb) with z | z
        · rw [z]; exact hel
        · rw [z]; exact hil
      rw [upd_ne (Nat.ne_of_lt hb')]
      exact (hf b hb).1
  done := by
    intro X hP hw hK hc i pins s σ H E I hf st hg
    subst hP hw hK
    obtain ⟨⟨old, he⟩, hit, hne, hai, hea⟩ := st
    obtain ⟨xs, hq, hx⟩ := hg
    obtain ⟨its, rv, p, hz⟩ := I.tuple hq
    obtain ⟨f0, f1, f2, f3, f4, f5⟩ := hf it (by simp)
    have D := PySem.Draws.tuple (prog := X.prog) (w := X.w) (A := X.A.in1) (I.ok.hd hc) it a hai its.toArray
    have hn : its.toArray.size = i := by
      rw [← hx, rv.length]
      simp
    exact PySem.wpAny_pyNext_enum_endD D he (by rw [hn]; exact ⟨hit, p⟩) fun h' eb => ⟨rfl, I.turned (t' := s.toks) (fun b o hb q => eb b o hb q) f0 f1 f3 f4 f5⟩
  self := fun A i s Q E st h => let ⟨⟨_, he⟩, _⟩ := st; PySem.wpAny_pyIter_enum he h
/-- enumerate of either -/
def EnQ (K : PySem.W.Frag) (H : Hp) (a : Addr) (xs : List V) (R : It → Hp → Prop) : Prop := (SqL K H a xs ∧ R (Ite K a) H) ∨ (SqT K H a xs ∧ R (Iteu K a) H)
def iEnumQ (K : PySem.W.Frag) (ta : TA) : TI := fun σ H R => ta σ H fun vs H1 => ∃ a xs, vs = [.ref a] ∧ EnQ K H1 a xs R
theorem pi_enumQ {X : Cx} {e : Expr} {ta : TA} {p pos tpos : Pos} {elts : List Expr} {kk : Nat} (hg : Gl X "enumerate") (hm : X.mg "enumerate" = none) (ha : PA X [e] ta) (hs : starEach [e] X.env = [(false, eval e X.env)] := by rfl) :
    PI X (.Tuple elts kk tpos) (.Call (.Name "enumerate" p) [e] [] pos) (iEnumQ X.K ta) := by
  refine ⟨fun pins s σ H R I h => ?_⟩
  refine Call_ (ld_blt I hg hm boot_enumerate (PyProof.Rows.callWith_type1 (thn (ha.run pos pins s σ H _ I h) fun us s1 ⟨vs, H1, I1, r1, q1⟩ => ?_) hs rfl))
  obtain ⟨a, xs, ex, q⟩ := q1
  subst ex
  have fresh : ∀ b ∈ [s1.heap.objs.size + 1, s1.heap.objs.size], s1.heap.objs.size ≤ b := fun b hb => by
    rcases (show b = s1.heap.objs.size + 1 ∨ b = s1.heap.objs.size by simpa using hb) with z | z
    · rw [z]; exact Nat.le_add_right _ _
    · rw [z]; exact Nat.le_refl _
  cases r1 with
  | cons r rr =>
    cases rr
    cases r
    rcases q with ⟨hq, q⟩ | ⟨hq, q⟩
    · obtain ⟨its, rv, p', hz⟩ := I1.list hq
      refine PySem.call_enumerate_list p'.isList fun h' he hit hsz hk => PySem.wpAny_pyIter_enum he ?_
      have I2 : Inv X pins σ H1 { s1 with heap := h' } := I1.kept (t' := s1.toks) hk
      exact ⟨s1.heap.objs.size + 1, [s1.heap.objs.size + 1, s1.heap.objs.size], _, _, H1, rfl, I2, turn_enum a (s1.heap.objs.size + 1) s1.heap.objs.size, ⟨⟨.none, he⟩, hit, Nat.succ_ne_self _⟩, fun b hb => I1.fpOk (fresh b hb) (I1.hok.fresh (fresh b hb)), q⟩
    · obtain ⟨its, rv, p', hz⟩ := I1.tuple hq
      have hlt := p'.lt
      refine enum1 (PySem.begins_tuple a its.toArray) p' fun h' he hit hk => PySem.wpAny_pyIter_enum he ?_
      have I2 : Inv X pins σ H1 { s1 with heap := h' } := I1.kept (t' := s1.toks) hk
      exact ⟨s1.heap.objs.size + 1, [s1.heap.objs.size + 1, s1.heap.objs.size], _, _, H1, rfl, I2, turn_enumU a (s1.heap.objs.size + 1) s1.heap.objs.size, ⟨⟨.none, he⟩, ⟨_, hit, rfl, rfl⟩, Nat.succ_ne_self _, Nat.ne_of_lt hlt, Nat.ne_of_gt (Nat.lt_succ_of_lt hlt)⟩,
        fun b hb => I1.fpOk (fresh b hb) (I1.hok.fresh (fresh b hb)), q⟩
/-- a loop over anything, by an invariant over the turn -/
theorem for_by {J : It} {n : Nat} {g : TG} {tb : TS} {D : Ends} {σ : L2.St} {H : Hp} (Pv : Nat → L2.St → Hp → Prop) (h0 : Pv 0 σ H) (go : ∀ i σ H, i < n → Pv i σ H → J.go i H) (st : ∀ σ H, Pv n σ H → J.stop n H)
    (hs : ∀ i σ H v H', i < n → Pv i σ H → J.yld i H v H' → g v σ H' fun σ2 H2 => tb { D with nx := Pv (i + 1), ct := Pv (i + 1), bk := D.nx } σ2 H2) (hd : ∀ σ H, Pv n σ H → D.nx σ H) :
    ∃ W : Nat → Nat → L2.St → Hp → Prop, (∃ m, W 0 m σ H) ∧ ∀ i m σ H, W i m σ H → (J.stop i H ∧ D.nx σ H) ∨ (J.go i H ∧ ∃ N : L2.St → Hp → Prop, (∀ σ' H', N σ' H' → ∃ m', m' < m ∧ W (i + 1) m' σ' H') ∧
      ∀ x H', J.yld i H x H' → g x σ H' fun σ2 H2 => tb { D with nx := N, ct := N, bk := D.nx } σ2 H2) := by
  refine ⟨fun i m σ H => m = n - i ∧ i ≤ n ∧ Pv i σ H, ⟨n, rfl, Nat.zero_le _, h0⟩, ?_⟩
  rintro i m σ H ⟨rfl, hi, p⟩
  by_cases hlt : i < n
  · exact .inr ⟨go i σ H hlt p, Pv (i + 1), fun σ' H' p' => ⟨n - (i + 1), by omega, rfl, hlt, p'⟩, fun x H' y => hs i σ H x H' hlt p y⟩
  · obtain rfl : i = n := by omega
    exact .inl ⟨st σ H p, hd σ H p⟩
end
/-- what enumerate goes over, whichever it is -/
theorem enum_it {K : PySem.W.Frag} {H : Hp} {a : Addr} {xs : List V} (h : SqL K H a xs ∨ SqT K H a xs) : ∃ (S : Hp → Prop) (J : It), S H ∧ (∀ H H', S H → Same H H' → S H') ∧ (∀ i H, S H → i < xs.length → J.go i H) ∧ (∀ H, S H → J.stop xs.length H) ∧
    (∀ i H v H', S H → J.yld i H v H' → ∃ T x, v = .ref T ∧ H T = none ∧ H' = upd H T (.tup [.int (i : Nat), x]) ∧ xs[i]? = some x) ∧
    (∀ R : It → Hp → Prop, R J H → EnQ K H a xs R) := by
  rcases h with h | h
  · exact ⟨fun H => SqL K H a xs, Ite K a, h, fun H H' q s => s.seq q, fun i H q hi => ⟨xs, xs[i], q, List.getElem?_eq_getElem hi⟩, fun H q => ⟨xs, q, Nat.le_refl _⟩, fun i H v H' q ⟨T, x, e1, e2, e3, e4⟩ => ⟨T, x, e1, e2, e3, e4 xs q⟩, fun R r => .inl ⟨h, r⟩⟩
  · exact ⟨fun H => SqT K H a xs, Iteu K a, h, fun H H' q s => sqT_sm q s, fun i H q hi => ⟨xs, xs[i], q, List.getElem?_eq_getElem hi⟩, fun H q => ⟨xs, q, rfl⟩, fun i H v H' q ⟨T, x, e1, e2, e3, e4⟩ => ⟨T, x, e1, e2, e3, e4 xs q⟩, fun R r => .inr ⟨h, r⟩⟩
def top (i : Nat) : Stmt := PySem.Challenge.pw_lossway_k03_sum_tells_changes.main.body.getD i (.Pass ⟨0, 0, 0, 0⟩)
abbrev s_InvalidWords_init_ : Stmt := inClass (top 2) 0
theorem st_InvalidWords_init_ {t : TS} {D : Ends} {H : Hp} {v0 v1 : V} (h : t D [some v0, some v1] H) : t D (L2.start ["self", "place"] [v0, v1]) H := h
theorem sc_InvalidWords_init_ : FnScope ["self", "place"] ["self", "place"] (defScope s_InvalidWords_init_) := ⟨rfl, rfl, rfl, by decide +kernel, rfl, by decide +kernel, by decide +kernel⟩
abbrev s_is_integer : Stmt := top 5
theorem st_is_integer {t : TS} {D : Ends} {H : Hp} {v0 : V} (h : t D [some v0] H) : t D (L2.start ["value"] [v0]) H := h
theorem sc_is_integer : FnScope ["value"] ["value"] (defScope s_is_integer) := ⟨rfl, rfl, rfl, by decide +kernel, rfl, by decide +kernel, by decide +kernel⟩
abbrev s_is_between : Stmt := top 6
theorem st_is_between {t : TS} {D : Ends} {H : Hp} {v0 v1 v2 : V} (h : t D [some v0, some v1, some v2] H) : t D (L2.start ["value", "low", "high"] [v0, v1, v2]) H := h
theorem sc_is_between : FnScope ["value", "low", "high"] ["value", "low", "high"] (defScope s_is_between) := ⟨rfl, rfl, rfl, by decide +kernel, rfl, by decide +kernel, by decide +kernel⟩
abbrev s_is_word : Stmt := top 7
theorem st_is_word {t : TS} {D : Ends} {H : Hp} {v0 : V} (h : t D [some v0] H) : t D (L2.start ["value"] [v0]) H := h
theorem sc_is_word : FnScope ["value"] ["value"] (defScope s_is_word) := ⟨rfl, rfl, rfl, by decide +kernel, rfl, by decide +kernel, by decide +kernel⟩
abbrev s_is_sequence : Stmt := top 8
theorem st_is_sequence {t : TS} {D : Ends} {H : Hp} {v0 : V} (h : t D [some v0] H) : t D (L2.start ["value"] [v0]) H := h
theorem sc_is_sequence : FnScope ["value"] ["value"] (defScope s_is_sequence) := ⟨rfl, rfl, rfl, by decide +kernel, rfl, by decide +kernel, by decide +kernel⟩
abbrev s_check_sum : Stmt := top 11
theorem st_check_sum {t : TS} {D : Ends} {H : Hp} {v0 : V} (h : t D [some v0, none, none, none] H) : t D (L2.start ["words", "total", "place", "word"] [v0]) H := h
theorem sc_check_sum : FnScope ["words", "total", "place", "word"] ["words"] (defScope s_check_sum) := ⟨rfl, rfl, rfl, by decide +kernel, rfl, by decide +kernel, by decide +kernel⟩
abbrev s__law_purse : Stmt := top 13
theorem st__law_purse {t : TS} {D : Ends} {H : Hp} {v0 : V} (h : t D [some v0, none, none, none, none] H) : t D (L2.start ["script", "cells", "seed", "cell", "one"] [v0]) H := h
theorem sc__law_purse : FnScope ["script", "cells", "seed", "cell", "one"] ["script"] (defScope s__law_purse) := ⟨rfl, rfl, rfl, by decide +kernel, rfl, by decide +kernel, by decide +kernel⟩
abbrev s__law_draw : Stmt := top 14
theorem st__law_draw {t : TS} {D : Ends} {H : Hp} {v0 v1 : V} (h : t D [some v0, some v1, none, none, none] H) : t D (L2.start ["purse", "many", "digit", "amount", "blend"] [v0, v1]) H := h
theorem sc__law_draw : FnScope ["purse", "many", "digit", "amount", "blend"] ["purse", "many"] (defScope s__law_draw) := ⟨rfl, rfl, rfl, by decide +kernel, rfl, by decide +kernel, by decide +kernel⟩
abbrev s__law_number : Stmt := top 15
theorem st__law_number {t : TS} {D : Ends} {H : Hp} {v0 v1 : V} (h : t D [some v0, some v1, none, none] H) : t D (L2.start ["purse", "most", "way", "amount"] [v0, v1]) H := h
theorem sc__law_number : FnScope ["purse", "most", "way", "amount"] ["purse", "most"] (defScope s__law_number) := ⟨rfl, rfl, rfl, by decide +kernel, rfl, by decide +kernel, by decide +kernel⟩
abbrev s__law_is : Stmt := top 16
theorem st__law_is {t : TS} {D : Ends} {H : Hp} {v0 v1 : V} (h : t D [some v0, some v1] H) : t D (L2.start ["actual", "wanted"] [v0, v1]) H := h
theorem sc__law_is : FnScope ["actual", "wanted"] ["actual", "wanted"] (defScope s__law_is) := ⟨rfl, rfl, rfl, by decide +kernel, rfl, by decide +kernel, by decide +kernel⟩
abbrev s__law_word : Stmt := top 17
theorem st__law_word {t : TS} {D : Ends} {H : Hp} {v0 : V} (h : t D [some v0, none] H) : t D (L2.start ["purse", "way"] [v0]) H := h
theorem sc__law_word : FnScope ["purse", "way"] ["purse"] (defScope s__law_word) := ⟨rfl, rfl, rfl, by decide +kernel, rfl, by decide +kernel, by decide +kernel⟩
abbrev s__law_is_word : Stmt := top 18
theorem st__law_is_word {t : TS} {D : Ends} {H : Hp} {v0 : V} (h : t D [some v0] H) : t D (L2.start ["value"] [v0]) H := h
theorem sc__law_is_word : FnScope ["value"] ["value"] (defScope s__law_is_word) := ⟨rfl, rfl, rfl, by decide +kernel, rfl, by decide +kernel, by decide +kernel⟩
abbrev s__law_sum : Stmt := top 19
theorem st__law_sum {t : TS} {D : Ends} {H : Hp} {v0 : V} (h : t D [some v0, none, none] H) : t D (L2.start ["words", "amount", "k"] [v0]) H := h
theorem sc__law_sum : FnScope ["words", "amount", "k"] ["words"] (defScope s__law_sum) := ⟨rfl, rfl, rfl, by decide +kernel, rfl, by decide +kernel, by decide +kernel⟩
abbrev s__law_form : Stmt := top 20
theorem st__law_form {t : TS} {D : Ends} {H : Hp} {v0 v1 : V} (h : t D [some v0, some v1] H) : t D (L2.start ["way", "values"] [v0, v1]) H := h
theorem sc__law_form : FnScope ["way", "values"] ["way", "values"] (defScope s__law_form) := ⟨rfl, rfl, rfl, by decide +kernel, rfl, by decide +kernel, by decide +kernel⟩
abbrev s__law_sequence : Stmt := top 21
theorem st__law_sequence {t : TS} {D : Ends} {H : Hp} {v0 : V} (h : t D [some v0, none, none, none, none, none, none] H) : t D (L2.start ["purse", "way", "start", "stride", "k", "many", "words"] [v0]) H := h
theorem sc__law_sequence : FnScope ["purse", "way", "start", "stride", "k", "many", "words"] ["purse"] (defScope s__law_sequence) := ⟨rfl, rfl, rfl, by decide +kernel, rfl, by decide +kernel, by decide +kernel⟩
abbrev s__law_odd : Stmt := top 22
theorem st__law_odd {t : TS} {D : Ends} {H : Hp} {v0 : V} (h : t D [some v0, none] H) : t D (L2.start ["purse", "way"] [v0]) H := h
theorem sc__law_odd : FnScope ["purse", "way"] ["purse"] (defScope s__law_odd) := ⟨rfl, rfl, rfl, by decide +kernel, rfl, by decide +kernel, by decide +kernel⟩
abbrev s__law_refusal : Stmt := top 23
theorem st__law_refusal {t : TS} {D : Ends} {H : Hp} {v0 : V} (h : t D [some v0, none] H) : t D (L2.start ["words", "e"] [v0]) H := h
theorem sc__law_refusal : FnScope ["words", "e"] ["words"] (defScope s__law_refusal) := ⟨rfl, rfl, rfl, by decide +kernel, rfl, by decide +kernel, by decide +kernel⟩
abbrev s__law_refuses : Stmt := top 24
theorem st__law_refuses {t : TS} {D : Ends} {H : Hp} {v0 v1 : V} (h : t D [some v0, some v1, none, none, none, none] H) : t D (L2.start ["purse", "words", "spoilt", "k", "spot", "told"] [v0, v1]) H := h
theorem sc__law_refuses : FnScope ["purse", "words", "spoilt", "k", "spot", "told"] ["purse", "words"] (defScope s__law_refuses) := ⟨rfl, rfl, rfl, by decide +kernel, rfl, by decide +kernel, by decide +kernel⟩
abbrev s__law_changes : Stmt := top 25
theorem st__law_changes {t : TS} {D : Ends} {H : Hp} {v0 v1 v2 : V} (h : t D [some v0, some v1, some v2, none, none, none, none, none] H) : t D (L2.start ["purse", "words", "amount", "one", "changed", "told", "two", "turned"] [v0, v1, v2]) H := h
theorem sc__law_changes : FnScope ["purse", "words", "amount", "one", "changed", "told", "two", "turned"] ["purse", "words", "amount"] (defScope s__law_changes) := ⟨rfl, rfl, rfl, by decide +kernel, rfl, by decide +kernel, by decide +kernel⟩
abbrev s_law : Stmt := top 26
theorem st_law {t : TS} {D : Ends} {H : Hp} {v0 : V} (h : t D [some v0, none, none, none, none] H) : t D (L2.start ["script", "purse", "words", "amount", "handed"] [v0]) H := h
theorem sc_law : FnScope ["script", "purse", "words", "amount", "handed"] ["script"] (defScope s_law) := ⟨rfl, rfl, rfl, by decide +kernel, rfl, by decide +kernel, by decide +kernel⟩

set_option maxHeartbeats 0 in
structure Txt (K : PySem.W.Frag) (mg : Str → Option Value) where
  c_LossError : Addr
  c_InvalidWords : Addr
  c_WrongSum : Addr
  a_InvalidWords_init_ : Addr
  fd_InvalidWords_init_ : FuncData
  F_InvalidWords_init_ : Fun K "__init__" "InvalidWords.__init__" s_InvalidWords_init_ a_InvalidWords_init_ fd_InvalidWords_init_
  B_InvalidWords_init_ : Binds K fd_InvalidWords_init_ ["self", "place"] []
  a_is_integer : Addr
  fd_is_integer : FuncData
  F_is_integer : Fun K "is_integer" "is_integer" s_is_integer a_is_integer fd_is_integer
  B_is_integer : Binds K fd_is_integer ["value"] []
  g_is_integer : mg "is_integer" = some (.ref a_is_integer)
  a_is_between : Addr
  fd_is_between : FuncData
  F_is_between : Fun K "is_between" "is_between" s_is_between a_is_between fd_is_between
  B_is_between : Binds K fd_is_between ["value", "low", "high"] []
  g_is_between : mg "is_between" = some (.ref a_is_between)
  a_is_word : Addr
  fd_is_word : FuncData
  F_is_word : Fun K "is_word" "is_word" s_is_word a_is_word fd_is_word
  B_is_word : Binds K fd_is_word ["value"] []
  g_is_word : mg "is_word" = some (.ref a_is_word)
  a_is_sequence : Addr
  fd_is_sequence : FuncData
  F_is_sequence : Fun K "is_sequence" "is_sequence" s_is_sequence a_is_sequence fd_is_sequence
  B_is_sequence : Binds K fd_is_sequence ["value"] []
  g_is_sequence : mg "is_sequence" = some (.ref a_is_sequence)
  a_check_sum : Addr
  fd_check_sum : FuncData
  F_check_sum : Fun K "check_sum" "check_sum" s_check_sum a_check_sum fd_check_sum
  B_check_sum : Binds K fd_check_sum ["words"] []
  g_check_sum : mg "check_sum" = some (.ref a_check_sum)
  a__law_purse : Addr
  fd__law_purse : FuncData
  F__law_purse : Fun K "_law_purse" "_law_purse" s__law_purse a__law_purse fd__law_purse
  B__law_purse : Binds K fd__law_purse ["script"] []
  g__law_purse : mg "_law_purse" = some (.ref a__law_purse)
  a__law_draw : Addr
  fd__law_draw : FuncData
  F__law_draw : Fun K "_law_draw" "_law_draw" s__law_draw a__law_draw fd__law_draw
  B__law_draw : Binds K fd__law_draw ["purse", "many"] []
  g__law_draw : mg "_law_draw" = some (.ref a__law_draw)
  a__law_number : Addr
  fd__law_number : FuncData
  F__law_number : Fun K "_law_number" "_law_number" s__law_number a__law_number fd__law_number
  B__law_number : Binds K fd__law_number ["purse", "most"] []
  g__law_number : mg "_law_number" = some (.ref a__law_number)
  a__law_is : Addr
  fd__law_is : FuncData
  F__law_is : Fun K "_law_is" "_law_is" s__law_is a__law_is fd__law_is
  B__law_is : Binds K fd__law_is ["actual", "wanted"] []
  g__law_is : mg "_law_is" = some (.ref a__law_is)
  a__law_word : Addr
  fd__law_word : FuncData
  F__law_word : Fun K "_law_word" "_law_word" s__law_word a__law_word fd__law_word
  B__law_word : Binds K fd__law_word ["purse"] []
  g__law_word : mg "_law_word" = some (.ref a__law_word)
  a__law_is_word : Addr
  fd__law_is_word : FuncData
  F__law_is_word : Fun K "_law_is_word" "_law_is_word" s__law_is_word a__law_is_word fd__law_is_word
  B__law_is_word : Binds K fd__law_is_word ["value"] []
  g__law_is_word : mg "_law_is_word" = some (.ref a__law_is_word)
  a__law_sum : Addr
  fd__law_sum : FuncData
  F__law_sum : Fun K "_law_sum" "_law_sum" s__law_sum a__law_sum fd__law_sum
  B__law_sum : Binds K fd__law_sum ["words"] []
  g__law_sum : mg "_law_sum" = some (.ref a__law_sum)
  a__law_form : Addr
  fd__law_form : FuncData
  F__law_form : Fun K "_law_form" "_law_form" s__law_form a__law_form fd__law_form
  B__law_form : Binds K fd__law_form ["way", "values"] []
  g__law_form : mg "_law_form" = some (.ref a__law_form)
  a__law_sequence : Addr
  fd__law_sequence : FuncData
  F__law_sequence : Fun K "_law_sequence" "_law_sequence" s__law_sequence a__law_sequence fd__law_sequence
  B__law_sequence : Binds K fd__law_sequence ["purse"] []
  g__law_sequence : mg "_law_sequence" = some (.ref a__law_sequence)
  a__law_odd : Addr
  fd__law_odd : FuncData
  F__law_odd : Fun K "_law_odd" "_law_odd" s__law_odd a__law_odd fd__law_odd
  B__law_odd : Binds K fd__law_odd ["purse"] []
  g__law_odd : mg "_law_odd" = some (.ref a__law_odd)
  a__law_refusal : Addr
  fd__law_refusal : FuncData
  F__law_refusal : Fun K "_law_refusal" "_law_refusal" s__law_refusal a__law_refusal fd__law_refusal
  B__law_refusal : Binds K fd__law_refusal ["words"] []
  g__law_refusal : mg "_law_refusal" = some (.ref a__law_refusal)
  a__law_refuses : Addr
  fd__law_refuses : FuncData
  F__law_refuses : Fun K "_law_refuses" "_law_refuses" s__law_refuses a__law_refuses fd__law_refuses
  B__law_refuses : Binds K fd__law_refuses ["purse", "words"] []
  g__law_refuses : mg "_law_refuses" = some (.ref a__law_refuses)
  a__law_changes : Addr
  fd__law_changes : FuncData
  F__law_changes : Fun K "_law_changes" "_law_changes" s__law_changes a__law_changes fd__law_changes
  B__law_changes : Binds K fd__law_changes ["purse", "words", "amount"] []
  g__law_changes : mg "_law_changes" = some (.ref a__law_changes)
  a_law : Addr
  fd_law : FuncData
  F_law : Fun K "law" "law" s_law a_law fd_law
  B_law : Binds K fd_law ["script"] []
  g_law : mg "law" = some (.ref a_law)
  X_LossError : GCls mg "LossError" c_LossError
  X_InvalidWords : XCls K mg "InvalidWords" c_InvalidWords a_InvalidWords_init_
  nX_InvalidWords : PySem.W.findIn K (.ref c_InvalidWords) "place" = some none
  X_WrongSum : GCls mg "WrongSum" c_WrongSum
  Me_InvalidWords_InvalidWords : PySem.W.exmOne K (.ref c_InvalidWords) (.ref c_InvalidWords) = some true
  Kt_InvalidWords_WrongSum : PySem.W.kitOne K (.ref c_InvalidWords) (.ref c_WrongSum) = some false
  b_bool : mg "bool" = none
  b_enumerate : mg "enumerate" = none
  b_int : mg "int" = none
  b_isinstance : mg "isinstance" = none
  b_len : mg "len" = none
  b_list : mg "list" = none
  b_max : mg "max" = none
  b_min : mg "min" = none
  b_range : mg "range" = none
  b_tuple : mg "tuple" = none
  u_PRIME : Value
  g_PRIME : mg "PRIME" = some u_PRIME
  r_PRIME : RelV (.int 65537) u_PRIME

section
variable {P : Program} {w : World} {K : PySem.W.Frag} {mg : Str → Option Value} {base : Heap}
/-! ### kinds of values -/
/-- whether x is an int and no bool, by its kind -/
def IntK (K : PySem.W.Frag) (H : Hp) (x : V) (r : Bool) : Prop := ∃ (t : Value) (i b : Bool), TyX K H x t ∧ PySem.W.kitOne K t (.type "int") = some i ∧ PySem.W.kitOne K t (.type "bool") = some b ∧ r = (i && !b)
theorem intK_int {K : PySem.W.Frag} {H : Hp} (n : Int) : IntK K H (.int n) true := ⟨.type "int", true, false, .base (.int n), kit_ty (by decide +kernel), kit_ty (by decide +kernel), rfl⟩
/-- isinstance(x, int) and not isinstance(x, bool) -/
def sp_is_integer (K : PySem.W.Frag) : Sp := fun vs H Q _ => ∃ (x : V) (r : Bool), vs = [x] ∧ IntK K H x r ∧ Q (.bl r) H
def sp_is_between (K : PySem.W.Frag) : Sp := fun vs H Q _ => ∃ (x : V) (lo hi : Int), vs = [x, .int lo, .int hi] ∧ ((∃ n, x = .int n ∧ Q (.bl (decide (lo ≤ n) && decide (n ≤ hi))) H) ∨ (IntK K H x false ∧ Q (.bl false) H))
theorem ok_is_integer (T : Txt K mg) : FnOk P w K mg base CX0 1 T.a_is_integer T.fd_is_integer ["value"] (sp_is_integer K) := by
  have S := sc_is_integer
  refine T.F_is_integer.ok S (fun vs H Q E h => ?_) (fun cdv A outer s H vs Q E hr h => ?_)
  · obtain ⟨x, r, rfl, _⟩ := h
    rfl
  · obtain ⟨x, r, rfl, ⟨t, i, b, ty, hi, hb, rfl⟩, k⟩ := h
    refine ⟨_, (pss_one (ps_ret (pe_and (pe_callB (id := "isinstance") call_isi (by rfl) T.b_isinstance (by decide +kernel) (pa_cons (pv 0) (pa_cons (pe_bltn (v := .ty "int") (u := .type "int") (by rfl) T.b_int (by decide +kernel) rfl) pa_nil))) (pe_one (pe_not (pe_callB (id := "isinstance") call_isi (by rfl) T.b_isinstance (by decide +kernel) (pa_cons (pv 0) (pa_cons (pe_bltn (v := .ty "bool") (u := .type "bool") (by rfl) T.b_bool (by decide +kernel) rfl) pa_nil)))))))), ?_⟩
    refine ⟨_, rfl, _, _, _, _, i, rfl, .ty _, ty, hi, i, rfl, ?_⟩
    cases i with
    | false => exact iteF k
    | true => exact iteT ⟨_, rfl, _, _, _, _, b, rfl, .ty _, ty, hb, b, rfl, k⟩
theorem ok_is_between (T : Txt K mg) : FnOk P w K mg base CX0 2 T.a_is_between T.fd_is_between ["value", "low", "high"] (sp_is_between K) := by
  have S := sc_is_between
  refine T.F_is_between.ok S (fun vs H Q E h => ?_) (fun cdv A outer s H vs Q E hr h => ?_)
  · obtain ⟨x, lo, hi, rfl, _⟩ := h
    rfl
  · obtain ⟨x, lo, hi, rfl, h⟩ := h
    refine ⟨_, (pss_one (ps_ret (pe_and (pe_call (ok_is_integer T) (hr.mono (by decide)) rfl T.g_is_integer T.F_is_integer.kp T.B_is_integer .nil pass0 (pa_cons (pv 0) pa_nil)) (pe_one (pe_chain op_le op_le (pv 1) (pv 0) (pv 2)))))), ?_⟩
    rcases h with ⟨n, rfl, k⟩ | ⟨hk, k⟩
    · refine ⟨_, rfl, _, true, rfl, intK_int n, true, rfl, iteT ?_⟩
      refine ⟨_, rfl, _, rfl, _, _, rfl, rfl, _, rfl, ?_⟩
      by_cases q : lo ≤ n
      · rw [decide_eq_true q, Bool.true_and] at k
        rw [decide_eq_true q]
        exact iteT ⟨_, rfl, _, _, rfl, rfl, k⟩
      · rw [decide_eq_false q, Bool.false_and] at k
        rw [decide_eq_false q]
        exact iteF k
    · exact ⟨_, rfl, _, false, rfl, hk, false, rfl, iteF k⟩
/-! ### sequences, items by their kinds -/
theorem tyX_same {K : PySem.W.Frag} {H H' : Hp} {x : V} {t : Value} (h : TyX K H x t) (s : Same H H') : TyX K H' x t := by
  cases h with
  | base b =>
    refine .base ?_
    cases b with
    | non => exact .non
    | bl y => exact .bl y
    | int i => exact .int i
    | str y => exact .str y
    | flt y => exact .flt y
    | lst e => exact .lst (s _ _ e)
    | frz e => exact .frz (s _ _ e)
    | tup e => exact .tup (s _ _ e)
    | dK e => exact .dK (s _ _ e)
    | dT e => exact .dT (s _ _ e)
    | ins e cl ha hn ht hm => exact .ins (s _ _ e) cl ha hn ht hm
  | byt b => exact .byt b
  | set e => exact .set (s _ _ e)
  | kList e c => exact .kList e c
  | kTuple e c => exact .kTuple e c
  | kDict e c => exact .kDict e c
  | fTuple e => exact .fTuple (s _ _ e)
  | fDict e => exact .fDict (s _ _ e)
theorem IntK.same {K : PySem.W.Frag} {H H' : Hp} {x : V} {r : Bool} (h : IntK K H x r) (s : Same H H') : IntK K H' x r := by
  obtain ⟨t, i, b, ty, h1, h2, h3⟩ := h
  exact ⟨t, i, b, tyX_same ty s, h1, h2, h3⟩
/-- x is the int n, or no int at all -/
def Kd (K : PySem.W.Frag) (H : Hp) (x : V) : Option Int → Prop
  | some n => x = .int n
  | none => IntK K H x false
theorem Kd.same {K : PySem.W.Frag} {H H' : Hp} {x : V} {o : Option Int} (h : Kd K H x o) (s : Same H H') : Kd K H' x o := by
  cases o with
  | some n => exact h
  | none => exact IntK.same h s
/-- what lies in lo .. hi -/
def inR (lo hi : Int) : Option Int → Bool
  | some n => decide (lo ≤ n) && decide (n ≤ hi)
  | none => false
/-- a list or a tuple -/
def SeqA (K : PySem.W.Frag) (H : Hp) (a : Addr) (xs : List V) : Prop := SqL K H a xs ∨ SqT K H a xs
theorem SeqA.lst {K : PySem.W.Frag} {H : Hp} {a : Addr} {xs : List V} (h : H a = some (.lst xs)) : SeqA K H a xs := .inl (SqL.of h)
theorem SeqA.tup {K : PySem.W.Frag} {H : Hp} {a : Addr} {xs : List V} (h : H a = some (.tup xs)) : SeqA K H a xs := .inr (SqT.of h)
theorem SeqA.sm {K : PySem.W.Frag} {H H' : Hp} {a : Addr} {xs : List V} (h : SeqA K H a xs) (s : Same H H') : SeqA K H' a xs := h.elim (fun h => .inl (s.seq h)) fun h => .inr (sqT_sm h s)
/-- whether x is a sequence, by its kind -/
def SeqK (K : PySem.W.Frag) (H : Hp) (x : V) (r : Bool) : Prop := ∃ t, TyX K H x t ∧ PySem.W.kitAny K t [.type "list", .type "tuple"] = some r
theorem kit2 {K : PySem.W.Frag} {t : Value} {a b : Bool} (h1 : PySem.W.kitOne K t (.type "list") = some a) (h2 : PySem.W.kitOne K t (.type "tuple") = some b) : PySem.W.kitAny K t [.type "list", .type "tuple"] = some (a || b) := by
  unfold PySem.W.kitAny
  rw [h1]
  cases a with
  | true => rfl
  | false =>
    show PySem.W.kitAny K t [.type "tuple"] = some b
    unfold PySem.W.kitAny
    rw [h2]
    cases b <;> rfl
theorem seqK_ty {K : PySem.W.Frag} {H : Hp} {x : V} {n : String} {a b : Bool} (t : TyX K H x (.type n)) (h1 : kitB n "list" = some a) (h2 : kitB n "tuple" = some b) : SeqK K H x (a || b) := ⟨_, t, kit2 (kit_ty h1) (kit_ty h2)⟩
theorem seqK_of {K : PySem.W.Frag} {H : Hp} {a : Addr} {xs : List V} (h : SeqA K H a xs) : SeqK K H (.ref a) true := by
  rcases h with h | h
  · rcases h with (h | ⟨o, h⟩) | ⟨o, its, n, hk, hc, _⟩
    · exact seqK_ty (a := true) (b := false) (.base (.lst h)) (by decide +kernel) (by decide +kernel)
    · exact seqK_ty (a := true) (b := false) (.base (.frz h)) (by decide +kernel) (by decide +kernel)
    · exact seqK_ty (a := true) (b := false) (.kList hk hc) (by decide +kernel) (by decide +kernel)
  · rcases h with (h | ⟨o, h⟩) | ⟨o, its, n, hk, hc, _⟩
    · exact seqK_ty (a := false) (b := true) (.base (.tup h)) (by decide +kernel) (by decide +kernel)
    · exact seqK_ty (a := false) (b := true) (.fTuple h) (by decide +kernel) (by decide +kernel)
    · exact seqK_ty (a := false) (b := true) (.kTuple hk hc) (by decide +kernel) (by decide +kernel)
/-! ### lists stay lists -/
def Typ (H H' : Hp) : Prop := ∀ a o, H a = some o → H' a = some o ∨ ((∃ xs, o = .lst xs) ∧ ∃ ys, H' a = some (.lst ys))
theorem Typ.refl (H : Hp) : Typ H H := fun _ _ h => .inl h
theorem Typ.of {H H' : Hp} (s : Same H H') : Typ H H' := fun _ _ h => .inl (s _ _ h)
theorem Typ.trans {H H1 H2 : Hp} (x : Typ H H1) (y : Typ H1 H2) : Typ H H2 := fun a o h => by
  rcases x a o h with h1 | ⟨hx, ys, h1⟩
  · exact y a o h1
  · rcases y a _ h1 with h2 | ⟨_, zs, h2⟩
    · exact .inr ⟨hx, ys, h2⟩
    · exact .inr ⟨hx, zs, h2⟩
theorem Typ.upd {H : Hp} {a : Addr} {xs ys : List V} (h : H a = some (.lst xs)) : Typ H (L2.upd H a (.lst ys)) := fun b o hb => by
  by_cases q : b = a
  · subst q
    rw [h] at hb
    cases hb
    exact .inr ⟨⟨_, rfl⟩, ys, upd_same⟩
  · exact .inl (by rw [upd_ne q]; exact hb)
theorem Typ.purse {H H' : Hp} {p c : Addr} (P : Purse p c H) (P' : Purse p c H') (s : SameX p H H') : Typ H H' := fun b o hb => by
  by_cases q : b = p
  · subst q
    obtain ⟨⟨xs, h⟩, _⟩ := P.there
    obtain ⟨⟨ys, h'⟩, _⟩ := P'.there
    rw [h] at hb
    cases hb
    exact .inr ⟨⟨_, rfl⟩, ys, h'⟩
  · exact .inl (s b o q hb)
theorem tyX_typ {K : PySem.W.Frag} {H H' : Hp} {x : V} {t : Value} (h : TyX K H x t) (s : Typ H H') : TyX K H' x t := by
  cases h with
  | base b =>
    refine .base ?_
    cases b with
    | non => exact .non
    | bl y => exact .bl y
    | int i => exact .int i
    | str y => exact .str y
    | flt y => exact .flt y
    | lst e => exact (s _ _ e).elim (fun h => .lst h) fun ⟨_, ys, h⟩ => .lst h
    | frz e => exact (s _ _ e).elim (fun h => .frz h) fun ⟨⟨_, z⟩, _⟩ => nomatch z
    | tup e => exact (s _ _ e).elim (fun h => .tup h) fun ⟨⟨_, z⟩, _⟩ => nomatch z
    | dK e => exact (s _ _ e).elim (fun h => .dK h) fun ⟨⟨_, z⟩, _⟩ => nomatch z
    | dT e => exact (s _ _ e).elim (fun h => .dT h) fun ⟨⟨_, z⟩, _⟩ => nomatch z
    | ins e cl ha hn ht hm => exact (s _ _ e).elim (fun h => .ins h cl ha hn ht hm) fun ⟨⟨_, z⟩, _⟩ => nomatch z
  | byt b => exact .byt b
  | set e => exact (s _ _ e).elim (fun h => .set h) fun ⟨⟨_, z⟩, _⟩ => nomatch z
  | kList e c => exact .kList e c
  | kTuple e c => exact .kTuple e c
  | kDict e c => exact .kDict e c
  | fTuple e => exact (s _ _ e).elim (fun h => .fTuple h) fun ⟨⟨_, z⟩, _⟩ => nomatch z
  | fDict e => exact (s _ _ e).elim (fun h => .fDict h) fun ⟨⟨_, z⟩, _⟩ => nomatch z
theorem Kd.typ {K : PySem.W.Frag} {H H' : Hp} {x : V} {o : Option Int} (h : Kd K H x o) (s : Typ H H') : Kd K H' x o := by
  cases o with
  | some n => exact h
  | none =>
    obtain ⟨t, i, b, ty, h1, h2, h3⟩ := (show IntK K H x false from h)
    exact ⟨t, i, b, tyX_typ ty s, h1, h2, h3⟩
theorem intK_no {K : PySem.W.Frag} {H : Hp} {x : V} {n : String} {i b : Bool} (t : TyX K H x (.type n)) (h1 : kitB n "int" = some i) (h2 : kitB n "bool" = some b) (h : (i && !b) = false) : IntK K H x false := ⟨_, i, b, t, kit_ty h1, kit_ty h2, h.symm⟩
theorem ixN_nat {n j : Nat} {z : Int} (e : z = (j : Int)) (h : j < n) : ixN n z = some j := by
  subst e
  unfold ixN
  rw [if_pos (by omega), if_pos (by omega)]
  rfl
/-! ### is it a sequence -/
def sp_is_sequence (K : PySem.W.Frag) : Sp := fun vs H Q _ => ∃ (x : V) (r : Bool), vs = [x] ∧ SeqK K H x r ∧ ∀ H', Same H H' → Q (.bl r) H'
theorem ok_is_sequence (T : Txt K mg) : FnOk P w K mg base CX0 1 T.a_is_sequence T.fd_is_sequence ["value"] (sp_is_sequence K) := by
  have S := sc_is_sequence
  refine T.F_is_sequence.ok S (fun vs H Q E h => ?_) (fun cdv A outer s H vs Q E hr h => ?_)
  · obtain ⟨x, r, rfl, _⟩ := h
    rfl
  · obtain ⟨x, r, rfl, ⟨t, ty, hk⟩, k⟩ := h
    refine ⟨_, (pss_one (ps_ret (pe_callB (id := "isinstance") call_isiT (by rfl) T.b_isinstance (by decide +kernel) (pa_cons (pv 0) (pa_cons (pe_tup (pa_cons (pe_bltn (v := .ty "list") (u := .type "list") (by rfl) T.b_list (by decide +kernel) rfl) (pa_cons (pe_bltn (v := .ty "tuple") (u := .type "tuple") (by rfl) T.b_tuple (by decide +kernel) rfl) pa_nil))) pa_nil))))), ?_⟩
    refine ⟨_, rfl, (by show 2 ≤ sizeLine; decide), fun tp htp => ?_⟩
    exact ⟨_, tp, _, t, [.type "list", .type "tuple"], r, rfl, upd_same, .cons (.ty _) (.cons (.ty _) .nil), tyX_same ty (Same.new htp), hk, k _ (Same.new htp)⟩
/-! ### words -/
def sp_is_word (K : PySem.W.Frag) : Sp := fun vs H Q _ => ∃ (x : V) (o : Option Int), vs = [x] ∧ Kd K H x o ∧ Q (.bl (inR 0 65535 o)) H
theorem ok_is_word (T : Txt K mg) : FnOk P w K mg base CX0 3 T.a_is_word T.fd_is_word ["value"] (sp_is_word K) := by
  have S := sc_is_word
  refine T.F_is_word.ok S (fun vs H Q E h => ?_) (fun cdv A outer s H vs Q E hr h => ?_)
  · obtain ⟨x, o, rfl, _⟩ := h
    rfl
  · obtain ⟨x, o, rfl, hk, k⟩ := h
    refine ⟨_, (pss_one (ps_ret (pe_call (ok_is_between T) (hr.mono (by decide)) rfl T.g_is_between T.F_is_between.kp T.B_is_between .nil pass0 (pa_cons (pv 0) (pa_cons pe_int (pa_cons pe_int pa_nil)))))), ?_⟩
    refine ⟨_, rfl, _, _, _, rfl, ?_⟩
    cases o with
    | some n => exact .inl ⟨n, hk, k⟩
    | none => exact .inr ⟨hk, k⟩
/-! ### draws -/
/-- a draw below m: some digit, the purse a purse again, all else as it was -/
def sp__law_draw (K : PySem.W.Frag) : Sp := fun vs H Q _ => ∃ (a : Addr) (m : Int), vs = [.ref a, .int m] ∧ ∃ c, Purse a c H ∧ 0 < m ∧ m < 1073741824 ∧ ∀ d H', 0 ≤ d → d < m → Purse a c H' → SameX a H H' → Q (.int d) H'
theorem ok__law_draw (T : Txt K mg) : FnOk P w K mg base CX0 1 T.a__law_draw T.fd__law_draw ["purse", "many"] (sp__law_draw K) := by
  have S := sc__law_draw
  refine T.F__law_draw.ok S (fun vs H Q E h => ?_) (fun cdv A outer s H vs Q E hr h => ?_)
  · obtain ⟨a, m, rfl, _⟩ := h
    rfl
  · obtain ⟨a, m, rfl, c, ⟨cs, p, r, n, z, hA, hC, hpos, hp, hl, hr0, hz0, hz1⟩, hm0, hm1, k⟩ := h
    have hca : c ≠ a := pur_ne hA hC
    refine ⟨_, (C8.pss_cut (ps_if (PW.pt (pw_and (pt_cmpR op_eq (pe_ix ix_list (pv 0) pe_int (fun _ _ => rfl)) pe_int (nomark _)) (pw_and (pt_cmpR op_lt (pe_ix ix_list (pv 0) pe_int (fun _ _ => rfl)) (pe_callB (id := "len") call_len_seq (by rfl) T.b_len (by decide +kernel) (pa_cons (pe_ix ix_list (pv 0) pe_int (fun _ _ => rfl)) pa_nil)) (nomark _)) (pw_and1 (pt_cmpR op_ge (pe_ix ix_list (pe_ix ix_list (pv 0) pe_int (fun _ _ => rfl)) (pe_ix ix_list (pv 0) pe_int (fun _ _ => rfl)) (fun _ _ => rfl)) (pe_op op_pow pe_int pe_int) (nomark _)))))) (pss_cons (ps_asg (pe_ix ix_list (pe_ix ix_list (pv 0) pe_int (fun _ _ => rfl)) (pe_ix ix_list (pv 0) pe_int (fun _ _ => rfl)) (fun _ _ => rfl)) (pg_sub (pv 0) pe_int set_list))
      (pss_one (ps_asg (pe_op op_add (pe_ix ix_list (pv 0) pe_int (fun _ _ => rfl)) pe_int) (pg_sub (pv 0) pe_int set_list)))) pss_nil)
      (pss_cons (ps_if (pt_cmpR op_gt (pe_ix ix_list (pv 0) pe_int (fun _ _ => rfl)) pe_int (nomark _)) (pss_cons (ps_set (i := 2) S.nd rfl (Or.inl rfl) (pe_op op_mod (pe_callTy (T := "int") call_int1 (by rfl) T.b_int (by decide +kernel) (pa_cons (pe_ix ix_list (pv 0) pe_int (fun _ _ => rfl)) pa_nil)) (pv 1)))
      (pss_cons (ps_asg (pe_op op_fdiv (pe_ix ix_list (pv 0) pe_int (fun _ _ => rfl)) (pv 1)) (pg_sub (pv 0) pe_int set_list))
      (pss_one (ps_ret (pv 2))))) pss_nil)
      (pss_cons (ps_set (i := 3) S.nd rfl (Or.inl rfl) (pe_ix ix_list (pv 0) pe_int (fun _ _ => rfl)))
      (C8.pss_cut (ps_if (pt_cmpR op_lt (pe_ix ix_list (pv 0) pe_int (fun _ _ => rfl)) (pe_callB (id := "len") call_len_seq (by rfl) T.b_len (by decide +kernel) (pa_cons (pe_ix ix_list (pv 0) pe_int (fun _ _ => rfl)) pa_nil)) (nomark _)) (pss_cons (ps_set (i := 3) S.nd rfl (Or.inl rfl) (pe_ix ix_list (pe_ix ix_list (pv 0) pe_int (fun _ _ => rfl)) (pe_ix ix_list (pv 0) pe_int (fun _ _ => rfl)) (fun _ _ => rfl)))
      (pss_one (ps_asg (pe_op op_add (pe_ix ix_list (pv 0) pe_int (fun _ _ => rfl)) pe_int) (pg_sub (pv 0) pe_int set_list)))) pss_nil)
      (pss_cons (ps_asg (pe_op op_add (pe_ix ix_list (pv 0) pe_int (fun _ _ => rfl)) pe_int) (pg_sub (pv 0) pe_int set_list))
      (pss_cons (ps_set (i := 4) S.nd rfl (Or.inl rfl) (pe_op op_mod (pe_callTy (T := "int") call_int1 (by rfl) T.b_int (by decide +kernel) (pa_cons (pe_op op_add (pe_op op_mul (pv 3) pe_int) (pe_op op_mul (pe_ix ix_list (pv 0) pe_int (fun _ _ => rfl)) (pe_op op_add pe_int (pe_op op_mul pe_int (pe_ix ix_list (pv 0) pe_int (fun _ _ => rfl)))))) pa_nil)) pe_int))
      (pss_cons (ps_set (i := 4) S.nd rfl (Or.inl rfl) (pe_op op_mod (pe_callTy (T := "int") call_int1 (by rfl) T.b_int (by decide +kernel) (pa_cons (pe_op op_add (pe_op op_mul (pv 4) (pe_op op_add pe_int (pe_op op_fdiv (pv 4) pe_int))) (pe_op op_mul (pe_ix ix_list (pv 0) pe_int (fun _ _ => rfl)) (pe_ix ix_list (pv 0) pe_int (fun _ _ => rfl)))) pa_nil)) pe_int))
      (pss_one (ps_ret (pe_op op_mod (pe_callTy (T := "int") call_int1 (by rfl) T.b_int (by decide +kernel) (pa_cons (pe_op op_fdiv (pv 4) pe_int) pa_nil)) (pv 1))))))))))), ?_⟩
    refine ⟨fun σ H' => ∃ (p : Nat) (r : Int), σ = [some (.ref a), some (.int m), none, none, none] ∧ H' a = some (.lst (pur c p r n z)) ∧ p ≤ cs.length ∧ 0 ≤ r ∧ SameX a H H', ?_, ?_⟩
    · refine ⟨_, rfl, _, _, _, _, rfl, rfl, SqL.of hA, rfl, rfl, _, rfl, ?_⟩
      refine ite2 (fun _ => ?_) (fun _ => iteF ⟨p, r, rfl, hA, hp, hr0, SameX.refl⟩)
      refine ⟨_, rfl, _, _, _, _, rfl, rfl, SqL.of hA, rfl, _, rfl, _, _, _, _, rfl, rfl, SqL.of hA, rfl, _, _, rfl, .inl (SqL.of hC), _, _, rfl, rfl, _, rfl, ?_⟩
      refine ite2 (fun e2 => ?_) (fun _ => iteF ⟨p, r, rfl, hA, hp, hr0, SameX.refl⟩)
      have hlt : p < cs.length := by
        have q := of_decide_eq_true e2
        rw [List.length_map] at q
        omega
      have hx : (cs.map V.int)[p]? = some (V.int cs[p]) := by simp [hlt]
      have hx0 : 0 ≤ cs[p] := hpos _ (List.getElem_mem hlt)
      refine ⟨_, rfl, _, _, _, _, rfl, rfl, SqL.of hA, rfl, _, rfl, _, _, _, _, rfl, rfl, SqL.of hA, rfl, _, _, _, _, rfl, rfl, SqL.of hC, atI_nat hx, _, _, rfl, rfl, (by unfold CPow; decide), _, _, rfl, rfl, _, rfl, ?_⟩
      refine ite2 (fun _ => ?_) (fun _ => ⟨p, r, rfl, hA, hp, hr0, SameX.refl⟩)
      refine ⟨_, rfl, _, _, _, _, rfl, rfl, SqL.of hA, rfl, _, rfl, _, _, _, _, rfl, rfl, SqL.of hA, rfl, _, _, _, _, rfl, rfl, SqL.of hC, atI_nat hx, _, rfl, _, _, _, _, rfl, rfl, hA, rfl, ?_⟩
      have hA1 : (upd H a (.lst (pur c p cs[p] n z))) a = some (.lst (pur c p cs[p] n z)) := upd_same
      refine ⟨_, rfl, _, _, _, _, rfl, rfl, SqL.of hA1, rfl, _, _, rfl, rfl, _, rfl, _, _, _, _, rfl, rfl, hA1, rfl, ?_⟩
      exact ⟨p + 1, cs[p], rfl, upd_same, hlt, hx0, (SameX.upd).upd'⟩
    · rintro σ H1 ⟨p, r, rfl, hA, hp, hr0, sx⟩
      have hC : H1 c = some (.lst (cs.map V.int)) := sx _ _ hca hC
      refine ⟨_, rfl, _, _, _, _, rfl, rfl, SqL.of hA, rfl, _, _, rfl, rfl, _, rfl, ?_⟩
      refine ite2 (fun e1 => ?_) (fun e1 => ?_)
      · refine ⟨_, rfl, _, _, _, _, rfl, rfl, SqL.of hA, rfl, .inl ⟨_, rfl, _, rfl, _, _, rfl, rfl, hm0, ?_⟩⟩
        refine ⟨_, rfl, _, _, _, _, rfl, rfl, SqL.of hA, rfl, _, rfl, _, _, rfl, rfl, ⟨hm0, hm1⟩, _, rfl, _, _, _, _, rfl, rfl, hA, rfl, ?_⟩
        refine ⟨_, rfl, k _ _ (Int.emod_nonneg _ (by omega)) (Int.emod_lt_of_pos _ hm0) ⟨cs, p, r / m, n, z, upd_same, by rw [upd_ne hca]; exact hC, hpos, hp, hl, Int.ediv_nonneg hr0 (by omega), hz0, hz1⟩ sx.upd'⟩
      · refine ⟨_, rfl, _, _, _, _, rfl, rfl, SqL.of hA, rfl, ?_⟩
        refine ⟨fun σ H' => ∃ (p : Nat) (v : Int), σ = [some (.ref a), some (.int m), none, some (.int v), none] ∧ H' a = some (.lst (pur c p r n z)) ∧ p ≤ cs.length ∧ SameX a H H', ?_, ?_⟩
        · refine ⟨_, rfl, _, _, _, _, rfl, rfl, SqL.of hA, rfl, _, rfl, _, _, _, _, rfl, rfl, SqL.of hA, rfl, _, _, rfl, .inl (SqL.of hC), _, _, rfl, rfl, _, rfl, ?_⟩
          refine ite2 (fun e2 => ?_) (fun _ => ⟨p, z, rfl, hA, hp, sx⟩)
          have hlt : p < cs.length := by
            have q := of_decide_eq_true e2
            rw [List.length_map] at q
            omega
          have hx : (cs.map V.int)[p]? = some (V.int cs[p]) := by simp [hlt]
          refine ⟨_, rfl, _, _, _, _, rfl, rfl, SqL.of hA, rfl, _, rfl, _, _, _, _, rfl, rfl, SqL.of hA, rfl, _, _, _, _, rfl, rfl, SqL.of hC, atI_nat hx, ?_⟩
          refine ⟨_, rfl, _, _, _, _, rfl, rfl, SqL.of hA, rfl, _, _, rfl, rfl, _, rfl, _, _, _, _, rfl, rfl, hA, rfl, ?_⟩
          exact ⟨p + 1, cs[p], rfl, upd_same, hlt, sx.upd'⟩
        · rintro σ H2 ⟨p, v, rfl, hA, hp, sx⟩
          have hC : H2 c = some (.lst (cs.map V.int)) := sx _ _ hca ‹H c = _›
          refine ⟨_, rfl, _, _, _, _, rfl, rfl, SqL.of hA, rfl, _, _, rfl, rfl, _, rfl, _, _, _, _, rfl, rfl, hA, rfl, ?_⟩
          have hA1 : (upd H2 a (.lst (pur c p r (n + 1) z))) a = some (.lst (pur c p r (n + 1) z)) := upd_same
          refine ⟨_, rfl, _, _, rfl, rfl, .inr ⟨by decide, by decide⟩, _, rfl, _, _, _, _, rfl, rfl, SqL.of hA1, rfl, _, rfl, _, _, _, _, rfl, rfl, SqL.of hA1, rfl, _, _, rfl, rfl, .inl ⟨by decide, by decide⟩, _, _, rfl, rfl, _, _, rfl, rfl, .inl ⟨by omega, by omega⟩, _, _, rfl, rfl, .inl ⟨_, rfl, _, _, rfl, rfl, (by show (0 : Int) < _; decide), ?_⟩⟩
          generalize hb : (v * 48271 + z * (7919 + 69621 * (n + 1))) % 2147483647 = b
          have hb0 : 0 ≤ b := by rw [← hb]; exact Int.emod_nonneg _ (by decide)
          have hb1 : b < 2147483647 := by rw [← hb]; exact Int.emod_lt_of_pos _ (by decide)
          refine ⟨_, rfl, _, rfl, _, _, rfl, rfl, ⟨by decide, by decide⟩, _, _, rfl, rfl, _, _, rfl, rfl, .inl ⟨by omega, by omega⟩, _, rfl, _, _, _, _, rfl, rfl, SqL.of hA1, rfl, _, rfl, _, _, _, _, rfl, rfl, SqL.of hA1, rfl, _, _, rfl, rfl, .inl ⟨by omega, by omega⟩, _, _, rfl, rfl, .inl ⟨_, rfl, _, _, rfl, rfl, (by show (0 : Int) < _; decide), ?_⟩⟩
          refine ⟨_, rfl, _, _, rfl, rfl, ⟨by decide, by decide⟩, .inl ⟨_, rfl, _, rfl, _, _, rfl, rfl, hm0, ?_⟩⟩
          exact k _ _ (Int.emod_nonneg _ (by omega)) (Int.emod_lt_of_pos _ hm0) ⟨cs, p, r, n + 1, z, upd_same, by rw [upd_ne hca]; exact hC, hpos, hp, hl, hr0, hz0, hz1⟩ sx.upd'
/-! ### equality of words -/
theorem dec_int (a b : Int) : decide (V.int a = V.int b) = decide (a = b) := by
  by_cases e : a = b
  · rw [decide_eq_true e, decide_eq_true (congrArg V.int e)]
  · rw [decide_eq_false e, decide_eq_false (fun q => e (V.int.inj q))]
theorem dec_bl (a b : Bool) : decide (V.bl a = V.bl b) = (a == b) := by
  cases a <;> cases b <;> rfl
/-! ### the law's small defs -/
def sp__law_is (K : PySem.W.Frag) : Sp := fun vs H Q _ => ∃ (a b : Int), vs = [.int a, .int b] ∧ Q (.bl (decide (a = b))) H
theorem ok__law_is (T : Txt K mg) : FnOk P w K mg base CX0 1 T.a__law_is T.fd__law_is ["actual", "wanted"] (sp__law_is K) := by
  have S := sc__law_is
  refine T.F__law_is.ok S (fun vs H Q E h => ?_) (fun cdv A outer s H vs Q E hr h => ?_)
  · obtain ⟨a, b, rfl, _⟩ := h
    rfl
  · obtain ⟨a, b, rfl, k⟩ := h
    refine ⟨_, (pss_one (ps_ret (pe_and (pe_callB (id := "isinstance") call_isi (by rfl) T.b_isinstance (by decide +kernel) (pa_cons (pv 0) (pa_cons (pe_bltn (v := .ty "int") (u := .type "int") (by rfl) T.b_int (by decide +kernel) rfl) pa_nil))) (pe_and (pe_not (pe_callB (id := "isinstance") call_isi (by rfl) T.b_isinstance (by decide +kernel) (pa_cons (pv 0) (pa_cons (pe_bltn (v := .ty "bool") (u := .type "bool") (by rfl) T.b_bool (by decide +kernel) rfl) pa_nil)))) (pe_one (pe_cmpR op_eq (pv 0) (pv 1) (nomark _))))))), ?_⟩
    refine ⟨_, rfl, _, _, _, _, true, rfl, .ty _, .base (.int a), kit_ty (by decide +kernel), true, rfl, iteT ?_⟩
    refine ⟨_, rfl, _, _, _, _, false, rfl, .ty _, .base (.int a), kit_ty (by decide +kernel), false, rfl, true, rfl, iteT ?_⟩
    refine ⟨_, rfl, _, rfl, rfl, ?_⟩
    rw [dec_int]
    exact k
/-! ### the purse -/
def sp__law_purse (K : PySem.W.Frag) : Sp := fun vs H Q _ => ∃ (a : Addr) (ns : List Int), vs = [.ref a] ∧ SqL K H a (ns.map V.int) ∧ ∀ p c H', H p = none → H c = none → p ≠ c → Purse p c H' → Same H H' → Q (.ref p) H'
/-- a cell of the script, none below nought -/
def cel (x : Int) : Int := if 0 ≤ x then x else -1 - x
theorem cel_nn (x : Int) : 0 ≤ cel x := by
  unfold cel
  split <;> omega
theorem ok__law_purse (T : Txt K mg) : FnOk P w K mg base CX0 1 T.a__law_purse T.fd__law_purse ["script"] (sp__law_purse K) := by
  have S := sc__law_purse
  refine T.F__law_purse.ok S (fun vs H Q E h => ?_) (fun cdv A outer s H vs Q E hr h => ?_)
  · obtain ⟨a, ns, rfl, _⟩ := h
    rfl
  · obtain ⟨a, ns, rfl, hS, k⟩ := h
    refine ⟨_, (pss_cons (ps_setLc (i := 1) (own := [("one", 4)]) (g := gName 4) (tt := tYes) rfl S.nd rfl rfl (sw_true rfl rfl rfl (by decide +kernel)) (pi_list (pe_slice sl_list (pv 0) po_none (po_some pe_int))) (blkOk_by (N := ["script", "cells", "seed", "cell", "one"]) (sc := defScope s__law_purse) (by decide +kernel)) (fun _ _ _ _ _ => pg_name (i := 4) S.nd rfl (Or.inl rfl)) (fun _ _ _ _ _ => pts_nil) (fun _ _ _ _ _ => (pe_ifExp (pt_cmpR op_ge (pv 4) pe_int (nomark _)) (pv 4) (pe_op op_sub (pe_un un_neg pe_int) (pv 4)))))
      (pss_cons (ps_set (i := 2) S.nd rfl (Or.inl rfl) pe_int)
      (pss_cons (ps_for PassesOwn.never rfl (pi_list (pv 1)) (pg_name (i := 3) S.nd rfl (Or.inl rfl)) (pss_one (ps_set (i := 2) S.nd rfl (Or.inl rfl) (pe_op op_mod (pe_callTy (T := "int") call_int1 (by rfl) T.b_int (by decide +kernel) (pa_cons (pe_op op_add (pe_op op_add (pe_op op_mul (pv 2) pe_int) (pv 3)) pe_int) pa_nil)) pe_int))))
      (pss_one (ps_ret (pe_lst (pa_cons (pv 1) (pa_cons pe_int (pa_cons pe_int (pa_cons pe_int (pa_cons (pv 2) pa_nil))))))))))), ?_⟩
    refine ⟨_, rfl, _, rfl, _, _, rfl, hS, fun q hq => ?_⟩
    have eC : cutV (ns.map V.int) none (some 63) = (ns.take 63).map V.int := by
      have e1 : HT.sIx (ns.map V.int).length 0 none = 0 := rfl
      have e2 : HT.sIx (ns.map V.int).length (ns.map V.int).length (some 63) = min 63 ns.length := by
        unfold HT.sIx
        simp
      unfold cutV
      rw [e1, e2, List.drop_zero, Nat.sub_zero, ← List.map_take]
      exact congrArg (List.map V.int) (by rw [List.take_eq_take_iff]; omega)
    generalize hcs : ns.take 63 = cs at eC
    rw [eC]
    have hl63 : cs.length ≤ 63 := by
      rw [← hcs, List.length_take]
      omega
    have hS1 : (upd H q (.lst (cs.map V.int))) q = some (.lst (cs.map V.int)) := upd_same
    refine ⟨_, rfl, ⟨_, SqL.of hS1⟩, fun D hD => ?_⟩
    have nq : q ≠ D := fun e => by
      rw [← e, upd_same] at hD
      cases hD
    have hD0 : H D = none := by
      rw [upd_ne nq.symm] at hD
      exact hD
    refine lc_list (K := K) (a := q) (xs := cs.map V.int) (fun i H' => H' q = some (.lst (cs.map V.int)) ∧ H' D = some (.lst (((cs.take i).map cel).map V.int)) ∧ ∀ b o, b ≠ D → H b = some o → H' b = some o)
      ⟨by rw [upd_ne nq]; exact upd_same, upd_same, fun b o nb e => by rw [upd_ne nb, upd_ne (ne_of_none e hq)]; exact e⟩ (fun i H' _ ⟨h1, _⟩ => SqL.of h1) ?_ ?_
    · rintro i x H' hi ⟨h1, h2, h3⟩
      rw [List.getElem?_map] at hi
      cases e : cs[i]? with
      | none =>
        rw [e] at hi
        cases hi
      | some u =>
        rw [e] at hi
        cases hi
        have hil : i < cs.length := (List.getElem?_eq_some_iff.mp e).1
        refine ⟨rfl, ?_⟩
        have fin : ∃ acc, H' D = some (.lst acc) ∧ acc.length < sizeLine ∧ (fun i H' => H' q = some (.lst (cs.map V.int)) ∧ H' D = some (.lst (((cs.take i).map cel).map V.int)) ∧ ∀ b o, b ≠ D → H b = some o → H' b = some o) (i + 1) (upd H' D (.lst (acc ++ [V.int (cel u)]))) := by
          refine ⟨_, h2, ?_, by show upd H' D _ q = _; rw [upd_ne nq]; exact h1, ?_, fun b o nb e => by rw [upd_ne nb]; exact h3 b o nb e⟩
          · simp only [List.length_map, List.length_take]
            exact small1000 (by omega)
          · show upd H' D _ D = _
            rw [upd_same, List.take_succ_eq_append_getElem hil]
            have e2 : cs[i] = u := (List.getElem?_eq_some_iff.mp e).2
            rw [e2]
            simp
        refine ⟨_, rfl, _, _, rfl, rfl, _, rfl, ?_⟩
        by_cases hu : 0 ≤ u
        · have ec : cel u = u := if_pos hu
          rw [ec] at fin
          rw [decide_eq_true hu]
          exact iteT ⟨_, rfl, fin⟩
        · have ec : cel u = -1 - u := if_neg hu
          rw [ec] at fin
          rw [decide_eq_false hu]
          exact iteF ⟨_, rfl, _, rfl, _, _, rfl, rfl, fin⟩
    · rintro H1 ⟨_, h2, h3⟩
      have h3' : Same H H1 := fun b o e => h3 b o (ne_of_none e hD0) e
      rw [List.length_map, List.take_length] at h2
      have hpos : ∀ x ∈ cs.map cel, 0 ≤ x := fun x hx => by
        obtain ⟨y, _, rfl⟩ := List.mem_map.mp hx
        exact cel_nn y
      have hl2 : (cs.map cel).length ≤ 63 := by rw [List.length_map]; exact hl63
      generalize cs.map cel = ds at h2 hpos hl2
      refine ⟨_, rfl, _, rfl, ⟨_, SqL.of h2⟩, ?_⟩
      refine for_list (K := K) (a := D) (xs := ds.map V.int) (fun i σ H' => ∃ (z : Int) (v : Option V), σ = [some (.ref a), some (.ref D), some (.int z), v, none] ∧ 0 ≤ z ∧ z < 2147483647 ∧ H' = H1)
        ⟨0, none, rfl, by decide, by decide, rfl⟩ (fun i σ H' _ ⟨_, _, _, _, _, e⟩ => by rw [e]; exact SqL.of h2) ?_ ?_
      · rintro i x σ H' hi ⟨z, v, rfl, hz0, hz1, rfl⟩
        rw [List.getElem?_map] at hi
        cases e : ds[i]? with
        | none =>
          rw [e] at hi
          cases hi
        | some u =>
          rw [e] at hi
          cases hi
          refine ⟨_, rfl, _, _, rfl, rfl, .inr ⟨by decide, by decide⟩, _, rfl, _, _, rfl, rfl, _, _, rfl, rfl, .inl ⟨_, rfl, _, _, rfl, rfl, (by show (0 : Int) < _; decide), ?_⟩⟩
          exact ⟨_, _, rfl, Int.emod_nonneg _ (by decide), Int.emod_lt_of_pos _ (by decide), rfl⟩
      · rintro σ H' ⟨z, v, rfl, hz0, hz1, rfl⟩
        refine ⟨_, rfl, _, rfl, (by show 5 ≤ sizeLine; decide), fun p hp => ?_⟩
        have hpD : D ≠ p := ne_of_none h2 hp
        refine k p D _ (Same.free h3' hp) hD0 hpD.symm ⟨ds, 0, 0, 0, z, upd_same, by rw [upd_ne hpD]; exact h2, hpos, Nat.zero_le _, hl2, by decide, hz0, hz1⟩ (h3'.trans (Same.new hp))
def sp__law_number (K : PySem.W.Frag) : Sp := fun vs H Q _ => ∃ (p : Addr) (m : Int), vs = [.ref p, .int m] ∧ ∃ c, Purse p c H ∧ 0 ≤ m ∧ ∀ v H', 0 ≤ v → v ≤ m → Purse p c H' → SameX p H H' → Q (.int v) H'
theorem ok__law_number (T : Txt K mg) : FnOk P w K mg base CX0 2 T.a__law_number T.fd__law_number ["purse", "most"] (sp__law_number K) := by
  have S := sc__law_number
  refine T.F__law_number.ok S (fun vs H Q E h => ?_) (fun cdv A outer s H vs Q E hr h => ?_)
  · obtain ⟨p, m, rfl, _⟩ := h
    rfl
  · obtain ⟨p, m, rfl, c, P0, m0, k⟩ := h
    refine ⟨_, (pss_cons (ps_set (i := 2) S.nd rfl (Or.inl rfl) (pe_call (ok__law_draw T) (hr.mono (by decide)) rfl T.g__law_draw T.F__law_draw.kp T.B__law_draw .nil pass0 (pa_cons (pv 0) (pa_cons pe_int pa_nil))))
      (pss_cons (ps_if (pt_cmpR op_eq (pv 2) pe_int (nomark _)) (pss_one (ps_ret (pe_callB (id := "min") (call_min2 rfl) (by rfl) T.b_min (by decide +kernel) (pa_cons (pv 1) (pa_cons (pe_call (ok__law_draw T) (hr.mono (by decide)) rfl T.g__law_draw T.F__law_draw.kp T.B__law_draw .nil pass0 (pa_cons (pv 0) (pa_cons pe_int pa_nil))) pa_nil))))) pss_nil)
      (pss_cons (ps_if (pt_cmpR op_eq (pv 2) pe_int (nomark _)) (pss_one (ps_ret (pe_callB (id := "max") (call_max2 rfl) (by rfl) T.b_max (by decide +kernel) (pa_cons pe_int (pa_cons (pe_op op_sub (pv 1) (pe_call (ok__law_draw T) (hr.mono (by decide)) rfl T.g__law_draw T.F__law_draw.kp T.B__law_draw .nil pass0 (pa_cons (pv 0) (pa_cons pe_int pa_nil)))) pa_nil))))) pss_nil)
      (pss_cons (ps_set (i := 3) S.nd rfl (Or.inl rfl) (pe_op op_add (pe_op op_mul (pe_call (ok__law_draw T) (hr.mono (by decide)) rfl T.g__law_draw T.F__law_draw.kp T.B__law_draw .nil pass0 (pa_cons (pv 0) (pa_cons pe_int pa_nil))) pe_int) (pe_call (ok__law_draw T) (hr.mono (by decide)) rfl T.g__law_draw T.F__law_draw.kp T.B__law_draw .nil pass0 (pa_cons (pv 0) (pa_cons pe_int pa_nil)))))
      (pss_one (ps_ret (pe_op op_mod (pe_callTy (T := "int") call_int1 (by rfl) T.b_int (by decide +kernel) (pa_cons (pv 3) pa_nil)) (pe_op op_add (pv 1) pe_int)))))))), ?_⟩
    refine ⟨_, rfl, p, 4, rfl, c, P0, by decide, by decide, fun e H1 e0 e1 P1 s1 => ?_⟩
    by_cases q0 : e = 0
    · refine ⟨_, rfl, rfl, true, bl_t (int_eq q0), ?_⟩
      refine ⟨_, rfl, _, rfl, p, 4, rfl, c, P1, by decide, by decide, fun f H2 f0 f1 P2 s2 => ⟨_, _, rfl, ?_⟩⟩
      refine k _ _ ?_ ?_ P2 (s1.trans s2)
      · split <;> omega
      · split <;> omega
    refine ⟨_, rfl, rfl, false, bl_f (int_ne q0), ?_⟩
    by_cases q1 : e = 1
    · refine ⟨_, rfl, rfl, true, bl_t (int_eq q1), ?_⟩
      refine ⟨_, rfl, _, rfl, p, 4, rfl, c, P1, by decide, by decide, fun f H2 f0 f1 P2 s2 => ⟨_, _, rfl, rfl, _, _, rfl, ?_⟩⟩
      refine k _ _ ?_ ?_ P2 (s1.trans s2)
      · split <;> omega
      · split <;> omega
    refine ⟨_, rfl, rfl, false, bl_f (int_ne q1), ?_⟩
    refine ⟨_, rfl, p, 65536, rfl, c, P1, by decide, by decide, fun f H2 f0 f1 P2 s2 => ?_⟩
    refine ⟨_, _, rfl, rfl, .inr ⟨by decide, by decide⟩, _, rfl, p, 65536, rfl, c, P2, by decide, by decide, fun g H3 g0 g1 P3 s3 => ⟨_, _, rfl, rfl, ?_⟩⟩
    refine ⟨_, rfl, .inl ⟨_, rfl, _, rfl, _, _, rfl, rfl, _, _, rfl, rfl, (by show (0 : Int) < m + 1; omega), ?_⟩⟩
    have z := Int.emod_lt_of_pos (f * 65536 + g) (show (0 : Int) < m + 1 by omega)
    exact k _ _ (Int.emod_nonneg _ (by omega)) (by omega) P3 ((s1.trans s2).trans s3)
/-! ### the sum -/
abbrev sp_InvalidWords_init_ (K : PySem.W.Frag) : Sp := sp_xinit K "place"
theorem ok_InvalidWords_init_ (T : Txt K mg) : FnOk P w K mg base CX0 1 T.a_InvalidWords_init_ T.fd_InvalidWords_init_ ["self", "place"] (sp_InvalidWords_init_ K) := by
  have S := sc_InvalidWords_init_
  refine T.F_InvalidWords_init_.ok S (fun vs H Q E h => ?_) (fun cdv A outer s H vs Q E hr h => ?_)
  · obtain ⟨a, C, v, rfl, _⟩ := h
    rfl
  · obtain ⟨a, C, v, rfl, O, hn, ha, k⟩ := h
    refine ⟨_, (pss_one (ps_ost (pv 0) (pv 1))), ?_⟩
    exact ⟨_, rfl, _, rfl, a, C, rfl, O, hn, .inl ⟨ha, k⟩⟩
/-- the words times their places, the first place k + 1 -/
def csum : Nat → List Int → Int
  | _, [] => 0
  | k, n :: r => ((k : Int) + 1) * n + csum (k + 1) r
theorem csum_snoc : ∀ (l : List Int) (k : Nat) (n : Int), csum k (l ++ [n]) = csum k l + (((k + l.length : Nat) : Int) + 1) * n
  | [], k, n => by
    show ((k : Int) + 1) * n + 0 = 0 + (((k + 0 : Nat) : Int) + 1) * n
    rw [Nat.add_zero]
    omega
  | m :: r, k, n => by
    show ((k : Int) + 1) * m + csum (k + 1) (r ++ [n]) = ((k : Int) + 1) * m + csum (k + 1) r + (((k + (r.length + 1) : Nat) : Int) + 1) * n
    rw [csum_snoc r (k + 1) n, show k + (r.length + 1) = k + 1 + r.length by omega]
    omega
theorem csum_take {l : List Int} {i : Nat} (h : i < l.length) : csum 0 (l.take (i + 1)) = csum 0 (l.take i) + ((i : Int) + 1) * l[i] := by
  rw [List.take_succ_eq_append_getElem h, csum_snoc, List.length_take, Nat.zero_add, Nat.min_eq_left (Nat.le_of_lt h)]
/-- items by their kinds -/
abbrev Kds (K : PySem.W.Frag) (H : Hp) : List V → List (Option Int) → Prop := Paired (Kd K H)
theorem Paired.nth {α β : Type} {R : α → β → Prop} : ∀ {xs : List α} {ys : List β}, Paired R xs ys → ∀ {i : Nat} {x : α}, xs[i]? = some x → ∃ y, ys[i]? = some y ∧ R x y
  | _, _, .nil, i, x, h => by simp at h
  | _, _, .cons r t, 0, x, h => by
    simp at h
    subst h
    exact ⟨_, rfl, r⟩
  | _, _, .cons r t, i + 1, x, h => by
    obtain ⟨y, h1, h2⟩ := Paired.nth t (i := i) (x := x) (by simpa using h)
    exact ⟨y, by simpa using h1, h2⟩
theorem Paired.len {α β : Type} {R : α → β → Prop} : ∀ {xs : List α} {ys : List β}, Paired R xs ys → xs.length = ys.length
  | _, _, .nil => rfl
  | _, _, .cons _ t => congrArg (· + 1) (Paired.len t)
theorem Kds.same {K : PySem.W.Frag} {H H' : Hp} {xs : List V} {os : List (Option Int)} (h : Kds K H xs os) (s : Same H H') : Kds K H' xs os := Paired.mapP h fun _ _ r => Kd.same r s
theorem Kds.ints {K : PySem.W.Frag} {H : Hp} : ∀ ns : List Int, Kds K H (ns.map V.int) (ns.map some)
  | [] => .nil
  | n :: r => .cons rfl (Kds.ints r)
/-- what check_sum is told: all words, or the first that is none, or no sequence -/
def Words (K : PySem.W.Frag) (H : Hp) (x : V) (ns : List Int) : Prop := ∃ a, x = .ref a ∧ SeqA K H a (ns.map V.int) ∧ (∀ n ∈ ns, 0 ≤ n ∧ n ≤ 65535) ∧ ns.length ≤ 100000
def BadAt (K : PySem.W.Frag) (H : Hp) (x : V) (k : Nat) : Prop := (SeqK K H x false ∧ k = 0) ∨
  ∃ a xs os o, x = .ref a ∧ SeqA K H a xs ∧ Kds K H xs os ∧ xs.length ≤ 100000 ∧ os[k]? = some o ∧ inR 0 65535 o = false ∧ ∀ j p, j < k → os[j]? = some p → inR 0 65535 p = true
def sp_check_sum (K : PySem.W.Frag) (C : Addr) : Sp := fun vs H Q E => ∃ (x : V), vs = [x] ∧
  ((∃ ns, Words K H x ns ∧ ∀ H', Same H H' → Q (.int (csum 0 ns % 65537)) H') ∨ (∃ k, BadAt K H x k ∧ ∀ d H', Same H H' → H' d = some (.xd [("place", .int k)]) → E (.ref C) (some d) H'))
theorem ok_check_sum (T : Txt K mg) : FnOk P w K mg base (L2.CX P w) 4 T.a_check_sum T.fd_check_sum ["words"] (sp_check_sum K T.c_InvalidWords) := by
  have S := sc_check_sum
  refine T.F_check_sum.okX S (fun vs H Q E h => ?_) (fun cdv A outer s H vs Q E hr h => ?_)
  · obtain ⟨x, rfl, _⟩ := h
    rfl
  · obtain ⟨x, rfl, h⟩ := h
    have h' : (SeqK K H x false ∧ ∀ d H', Same H H' → H' d = some (.xd [("place", .int 0)]) → E (.ref T.c_InvalidWords) (some d) H') ∨
        ∃ a xs os, x = .ref a ∧ SeqA K H a xs ∧ Kds K H xs os ∧ xs.length ≤ 100000 ∧ (∀ ns : List Int, os = ns.map some → (∀ n ∈ ns, 0 ≤ n ∧ n ≤ 65535) → ∀ H', Same H H' → Q (.int (csum 0 ns % 65537)) H') ∧
          ∀ (k : Nat) (o : Option Int), os[k]? = some o → inR 0 65535 o = false → (∀ (j : Nat) p, j < k → os[j]? = some p → inR 0 65535 p = true) → ∀ d H', Same H H' → H' d = some (.xd [("place", .int k)]) → E (.ref T.c_InvalidWords) (some d) H' := by
      rcases h with ⟨ns, ⟨a, rfl, hs, hw, hl⟩, k⟩ | ⟨k, hb, hE⟩
      · refine .inr ⟨a, _, _, rfl, hs, Kds.ints ns, by rw [List.length_map]; exact hl, fun ns' e hw' H' s' => ?_, fun i o ho hf _ => ?_⟩
        · have e' : ns = ns' := List.map_inj_right (fun x y z => Option.some.inj z) |>.mp e
          rw [← e']
          exact k _ s'
        · rw [List.getElem?_map] at ho
          cases e : ns[i]? with
          | none =>
            rw [e] at ho
            cases ho
          | some n =>
            rw [e] at ho
            cases ho
            obtain ⟨h1, h2⟩ := hw n (List.mem_of_getElem? e)
            have hf : (decide (0 ≤ n) && decide (n ≤ 65535)) = false := hf
            rw [decide_eq_true h1, decide_eq_true h2] at hf
            cases hf
      · rcases hb with ⟨hq, rfl⟩ | ⟨a, xs, os, o, rfl, hs, hk, hl, ho, hf, hj⟩
        · exact .inl ⟨hq, hE⟩
        · refine .inr ⟨a, xs, os, rfl, hs, hk, hl, fun ns e hw => ?_, fun i p hp hpf hpj => ?_⟩
          · rw [e, List.getElem?_map] at ho
            cases e : ns[k]? with
            | none =>
              rw [e] at ho
              cases ho
            | some n =>
              rw [e] at ho
              cases ho
              obtain ⟨h1, h2⟩ := hw n (List.mem_of_getElem? e)
              have hf : (decide (0 ≤ n) && decide (n ≤ 65535)) = false := hf
              rw [decide_eq_true h1, decide_eq_true h2] at hf
              cases hf
          · have ik : i = k := by
              rcases Nat.lt_trichotomy i k with c | c | c
              · have z := hj i p c hp
                rw [hpf] at z
                cases z
              · exact c
              · have z := hpj k o c ho
                rw [hf] at z
                cases z
            rw [ik]
            exact hE
    clear h
    refine ⟨_, (pss_cons (ps_if (pt_not (pt_val (pe_call (ok_is_sequence T) (hr.mono (by decide)) rfl T.g_is_sequence T.F_is_sequence.kp T.B_is_sequence .nil pass0 (pa_cons (pv 0) pa_nil)))) (pss_one (ps_raise rfl (takes_of rfl rfl rfl rfl) (pmk_oex T.X_InvalidWords.o T.X_InvalidWords.i T.X_InvalidWords.t (ok_InvalidWords_init_ T) (hr.mono (by decide)) T.B_InvalidWords_init_ .nil pass0 rfl T.X_InvalidWords.g (pa_cons pe_int pa_nil)))) pss_nil)
      (pss_cons (ps_set (i := 1) S.nd rfl (Or.inl rfl) pe_int)
      (C8.pss_cut (ps_for (passes_of rfl) rfl (pi_enumQ (by rfl) T.b_enumerate (pa_cons (pv 0) pa_nil)) (pg_tup rfl (pgs_cons (pg_name (i := 2) S.nd rfl (Or.inl rfl)) (pgs_cons (pg_name (i := 3) S.nd rfl (Or.inl rfl)) pgs_nil))) (pss_cons (ps_if (pt_not (pt_val (pe_call (ok_is_word T) (hr.mono (by decide)) rfl T.g_is_word T.F_is_word.kp T.B_is_word .nil pass0 (pa_cons (pv 3) pa_nil)))) (pss_one (ps_raise rfl (takes_of rfl rfl rfl rfl) (pmk_oex T.X_InvalidWords.o T.X_InvalidWords.i T.X_InvalidWords.t (ok_InvalidWords_init_ T) (hr.mono (by decide)) T.B_InvalidWords_init_ .nil pass0 rfl T.X_InvalidWords.g (pa_cons (pv 2) pa_nil)))) pss_nil)
      (pss_one (ps_aug (i := 1) S.nd rfl (.inl rfl) (pe_op op_mul (pe_op op_add (pv 2) pe_int) (pv 3)) ip_add))))
      (pss_one (ps_ret (pe_op op_mod (pv 1) (pe_glob rfl T.g_PRIME T.r_PRIME))))))), ?_⟩
    rcases h' with ⟨hq, hE⟩ | ⟨a, xs, os, rfl, hs, hk, hl, hok, hbad⟩
    · refine ⟨_, rfl, _, false, rfl, hq, fun H1 s1 => ⟨_, rfl, ?_⟩⟩
      exact mkO_of T.X_InvalidWords.o T.nX_InvalidWords fun d H3 nd ss hx => hE d H3 (s1.trans ss) hx
    · refine ⟨_, rfl, _, true, rfl, seqK_of hs, fun H1 s1 => ⟨_, rfl, ?_⟩⟩
      have hs1 : SeqA K H1 a xs := hs.sm s1
      refine ⟨fun σ H' => ∃ (p v : Option V) (tot : Int) (ns : List Int), σ = [some (.ref a), some (.int tot), p, v] ∧ os = ns.map some ∧ (∀ n ∈ ns, 0 ≤ n ∧ n ≤ 65535) ∧ tot = csum 0 ns ∧ Same H H', ?_, ?_⟩
      · obtain ⟨S, J, hS, mono, hgo, hst, hy, hR⟩ := enum_it hs1
        refine ⟨_, rfl, a, xs, rfl, hR _ ?_⟩
        refine for_by (J := J) (n := xs.length) (fun i σ H' => ∃ (p v : Option V) (tot : Int) (ns : List Int), σ = [some (.ref a), some (.int tot), p, v] ∧ os.take i = ns.map some ∧ (∀ n ∈ ns, 0 ≤ n ∧ n ≤ 65535) ∧ tot = csum 0 ns ∧ Same H1 H')
          ⟨none, none, 0, [], rfl, rfl, (fun n hn => nomatch hn), rfl, Same.refl H1⟩ (fun i σ H' hi ⟨_, _, _, _, _, _, _, _, s⟩ => hgo i H' (mono _ _ hS s) hi) (fun σ H' ⟨_, _, _, _, _, _, _, _, s⟩ => hst H' (mono _ _ hS s)) ?_ ?_
        · rintro i σ H' v H2 hi ⟨p, v0, tot, ns, rfl, hns, hw, rfl, s2⟩ hyl
          obtain ⟨Tp, y, rfl, hT, rfl, hxy⟩ := hy i H' v H2 (mono _ _ hS s2) hyl
          obtain ⟨o, ho, hko⟩ := Paired.nth hk hxy
          have s3 : Same H' (upd H' Tp (.tup [.int (i : Nat), y])) := Same.new hT
          have hlen : ns.length = i := by
            have z := congrArg List.length hns
            rw [List.length_take, List.length_map, ← Paired.len hk] at z
            omega
          refine ⟨Tp, _, rfl, SqT.of upd_same, rfl, _, _, rfl, _, _, rfl, rfl, ?_⟩
          refine ⟨_, rfl, y, o, rfl, Kd.same hko ((s1.trans s2).trans s3), _, rfl, ?_⟩
          cases e : inR 0 65535 o with
          | false =>
            refine ⟨_, rfl, ?_⟩
            refine mkO_of T.X_InvalidWords.o T.nX_InvalidWords fun d H3 nd ss hx => hbad i o ho e (fun j q hj hq => ?_) d H3 (((s1.trans s2).trans s3).trans ss) hx
            have z : (os.take i)[j]? = some q := by rw [List.getElem?_take, if_pos hj]; exact hq
            rw [hns, List.getElem?_map] at z
            cases e2 : ns[j]? with
            | none =>
              rw [e2] at z
              cases z
            | some n =>
              rw [e2] at z
              cases z
              obtain ⟨h1, h2⟩ := hw n (List.mem_of_getElem? e2)
              show (decide (0 ≤ n) && decide (n ≤ 65535)) = true
              rw [decide_eq_true h1, decide_eq_true h2]
              rfl
          | true =>
            cases o with
            | none => cases e
            | some n =>
              have ey : y = .int n := hko
              subst ey
              have en : 0 ≤ n ∧ n ≤ 65535 := by
                have z : (decide (0 ≤ n) && decide (n ≤ 65535)) = true := e
                exact ⟨of_decide_eq_true (Bool.and_eq_true_iff.mp z).1, of_decide_eq_true (Bool.and_eq_true_iff.mp z).2⟩
              refine ⟨_, rfl, _, rfl, _, _, rfl, rfl, _, rfl, _, _, rfl, rfl, .inr ⟨by omega, by omega⟩, _, _, rfl, rfl, ?_⟩
              refine ⟨_, _, _, ns ++ [n], rfl, ?_, fun m hm => ?_, ?_, s2.trans s3⟩
              · obtain ⟨hio, eo⟩ := List.getElem?_eq_some_iff.mp ho
                rw [List.take_succ_eq_append_getElem hio, eo, hns, List.map_append]
                rfl
              · rcases List.mem_append.mp hm with q | q
                · exact hw m q
                · rw [List.mem_singleton.mp q]
                  exact en
              · rw [csum_snoc, hlen, Nat.zero_add]
        · rintro σ H' ⟨p, v, tot, ns, rfl, hns, hw, rfl, s2⟩
          have e : os.take xs.length = os := by
            rw [Paired.len hk, List.take_length]
          rw [e] at hns
          exact ⟨p, v, _, ns, rfl, hns, hw, rfl, s1.trans s2⟩
      · rintro σ H' ⟨p, v, tot, ns, rfl, hns, hw, rfl, s2⟩
        exact ⟨_, rfl, _, _, rfl, rfl, (by show (0 : Int) < 65537; decide), hok ns hns hw H' s2⟩
/-! ### the law's defs -/
def sp__law_word (K : PySem.W.Frag) : Sp := fun vs H Q _ => ∃ (p : Addr), vs = [.ref p] ∧ ∃ c, Purse p c H ∧ ∀ v H', 0 ≤ v → v ≤ 65535 → Purse p c H' → SameX p H H' → Q (.int v) H'
theorem ok__law_word (T : Txt K mg) : FnOk P w K mg base CX0 2 T.a__law_word T.fd__law_word ["purse"] (sp__law_word K) := by
  have S := sc__law_word
  refine T.F__law_word.ok S (fun vs H Q E h => ?_) (fun cdv A outer s H vs Q E hr h => ?_)
  · obtain ⟨p, rfl, _⟩ := h
    rfl
  · obtain ⟨p, rfl, c, P0, k⟩ := h
    refine ⟨_, (pss_cons (ps_set (i := 1) S.nd rfl (Or.inl rfl) (pe_call (ok__law_draw T) (hr.mono (by decide)) rfl T.g__law_draw T.F__law_draw.kp T.B__law_draw .nil pass0 (pa_cons (pv 0) (pa_cons pe_int pa_nil))))
      (pss_cons (ps_if (pt_cmpR op_eq (pv 1) pe_int (nomark _)) (pss_one (ps_ret (pe_op op_sub pe_int (pe_call (ok__law_draw T) (hr.mono (by decide)) rfl T.g__law_draw T.F__law_draw.kp T.B__law_draw .nil pass0 (pa_cons (pv 0) (pa_cons pe_int pa_nil)))))) pss_nil)
      (pss_cons (ps_if (pt_cmpR op_eq (pv 1) pe_int (nomark _)) (pss_one (ps_ret (pe_call (ok__law_draw T) (hr.mono (by decide)) rfl T.g__law_draw T.F__law_draw.kp T.B__law_draw .nil pass0 (pa_cons (pv 0) (pa_cons pe_int pa_nil))))) pss_nil)
      (pss_one (ps_ret (pe_call (ok__law_draw T) (hr.mono (by decide)) rfl T.g__law_draw T.F__law_draw.kp T.B__law_draw .nil pass0 (pa_cons (pv 0) (pa_cons pe_int pa_nil)))))))), ?_⟩
    refine ⟨_, rfl, p, 4, rfl, c, P0, by decide, by decide, fun e H1 e0 e1 P1 s1 => ?_⟩
    refine ⟨_, rfl, rfl, _, rfl, ?_⟩
    refine ite2 (fun _ => ?_) (fun _ => ?_)
    · refine ⟨_, rfl, p, 3, rfl, c, P1, by decide, by decide, fun f H2 f0 f1 P2 s2 => ⟨_, _, rfl, rfl, ?_⟩⟩
      exact k _ _ (by omega) (by omega) P2 (s1.trans s2)
    refine ⟨_, rfl, rfl, _, rfl, ?_⟩
    refine ite2 (fun _ => ?_) (fun _ => ?_)
    · refine ⟨_, rfl, p, 3, rfl, c, P1, by decide, by decide, fun f H2 f0 f1 P2 s2 => ?_⟩
      exact k _ _ (by omega) (by omega) P2 (s1.trans s2)
    · refine ⟨_, rfl, p, 65536, rfl, c, P1, by decide, by decide, fun f H2 f0 f1 P2 s2 => ?_⟩
      exact k _ _ (by omega) (by omega) P2 (s1.trans s2)
def sp__law_is_word (K : PySem.W.Frag) : Sp := fun vs H Q _ => ∃ (x : V) (o : Option Int), vs = [x] ∧ Kd K H x o ∧ Q (.bl (inR 0 65535 o)) H
theorem ok__law_is_word (T : Txt K mg) : FnOk P w K mg base CX0 1 T.a__law_is_word T.fd__law_is_word ["value"] (sp__law_is_word K) := by
  have S := sc__law_is_word
  refine T.F__law_is_word.ok S (fun vs H Q E h => ?_) (fun cdv A outer s H vs Q E hr h => ?_)
  · obtain ⟨x, o, rfl, _⟩ := h
    rfl
  · obtain ⟨x, o, rfl, hk, k⟩ := h
    refine ⟨_, (pss_one (ps_ret (pe_and (pe_callB (id := "isinstance") call_isi (by rfl) T.b_isinstance (by decide +kernel) (pa_cons (pv 0) (pa_cons (pe_bltn (v := .ty "int") (u := .type "int") (by rfl) T.b_int (by decide +kernel) rfl) pa_nil))) (pe_and (pe_not (pe_callB (id := "isinstance") call_isi (by rfl) T.b_isinstance (by decide +kernel) (pa_cons (pv 0) (pa_cons (pe_bltn (v := .ty "bool") (u := .type "bool") (by rfl) T.b_bool (by decide +kernel) rfl) pa_nil)))) (pe_one (pe_chain op_le op_le pe_int (pv 0) pe_int)))))), ?_⟩
    cases o with
    | none =>
      obtain ⟨t, i, b, ty, hi, hb, e⟩ := (show IntK K H x false from hk)
      refine ⟨_, rfl, _, _, _, _, i, rfl, .ty _, ty, hi, i, rfl, ?_⟩
      cases i with
      | false => exact k
      | true =>
        have eb : b = true := by
          cases b with
          | true => rfl
          | false => cases e
        subst eb
        exact ⟨_, rfl, _, _, _, _, true, rfl, .ty _, ty, hb, true, rfl, false, rfl, k⟩
    | some n =>
      have ex : x = .int n := hk
      subst ex
      refine ⟨_, rfl, _, _, _, _, true, rfl, .ty _, .base (.int n), kit_ty (by decide +kernel), true, rfl, ?_⟩
      refine ⟨_, rfl, _, _, _, _, false, rfl, .ty _, .base (.int n), kit_ty (by decide +kernel), false, rfl, true, rfl, ?_⟩
      refine ⟨_, rfl, _, _, rfl, rfl, _, rfl, ?_⟩
      have k : Q (.bl (decide (0 ≤ n) && decide (n ≤ 65535))) H := k
      by_cases q : 0 ≤ n
      · rw [decide_eq_true q, Bool.true_and] at k
        rw [decide_eq_true q]
        exact ⟨_, _, rfl, rfl, k⟩
      · rw [decide_eq_false q, Bool.false_and] at k
        rw [decide_eq_false q]
        exact k
def sp__law_sum (K : PySem.W.Frag) : Sp := fun vs H Q _ => ∃ (a : Addr) (ns : List Int), vs = [.ref a] ∧ H a = some (.lst (ns.map V.int)) ∧ ns.length ≤ 100000 ∧ Q (.int (csum 0 ns % 65537)) H
theorem ok__law_sum (T : Txt K mg) : FnOk P w K mg base CX0 1 T.a__law_sum T.fd__law_sum ["words"] (sp__law_sum K) := by
  have S := sc__law_sum
  refine T.F__law_sum.ok S (fun vs H Q E h => ?_) (fun cdv A outer s H vs Q E hr h => ?_)
  · obtain ⟨a, ns, rfl, _⟩ := h
    rfl
  · obtain ⟨a, ns, rfl, hA, hl, k⟩ := h
    refine ⟨_, (pss_cons (ps_set (i := 1) S.nd rfl (Or.inl rfl) pe_int)
      (pss_cons (ps_for PassesOwn.never rfl (pi_range1 (by rfl) T.b_range (pa_cons (pe_callB (id := "len") call_len_seq (by rfl) T.b_len (by decide +kernel) (pa_cons (pv 0) pa_nil)) pa_nil)) (pg_name (i := 2) S.nd rfl (Or.inl rfl)) (pss_one (ps_set (i := 1) S.nd rfl (Or.inl rfl) (pe_op op_add (pv 1) (pe_op op_mul (pe_ix ix_list (pv 0) (pv 2) (fun _ _ => rfl)) (pe_op op_add (pv 2) pe_int))))))
      (pss_one (ps_ret (pe_op op_mod (pe_callTy (T := "int") call_int1 (by rfl) T.b_int (by decide +kernel) (pa_cons (pv 1) pa_nil)) pe_int))))), ?_⟩
    refine ⟨_, rfl, a, _, rfl, .inl (SqL.of hA), _, rfl, by omega, (by rw [List.length_map]; omega), for_range (lo := 0) (n := (((ns.map V.int).length : Nat) : Int).toNat) (fun i σ H' => ∃ (v : Option V) (z : Int), σ = [some (.ref a), some (.int z), v] ∧ z = csum 0 (ns.take i) ∧ H' = H)
      ⟨none, 0, rfl, rfl, rfl⟩ ?_ ?_⟩
    · rintro i σ H' hi ⟨v, z, rfl, rfl, rfl⟩
      have hi' : i < ns.length := by
        rw [List.length_map] at hi
        omega
      have hx : (ns.map V.int)[i]? = some (V.int ns[i]) := by simp [hi']
      refine ⟨_, rfl, _, rfl, _, rfl, _, _, _, _, rfl, rfl, SqL.of hA, at_of (by omega) hx, _, rfl, _, _, rfl, rfl, _, _, rfl, rfl, .inr ⟨by omega, by omega⟩, _, _, rfl, rfl, ?_⟩
      refine ⟨_, _, rfl, ?_, rfl⟩
      rw [csum_take hi', Int.mul_comm, Int.zero_add]
    · rintro σ H' ⟨v, z, rfl, ez, rfl⟩
      refine ⟨_, rfl, .inl ⟨_, rfl, _, _, rfl, rfl, (by show (0 : Int) < 65537; decide), ?_⟩⟩
      have e : ns.take (((ns.map V.int).length : Nat) : Int).toNat = ns := by
        rw [List.length_map, Int.toNat_natCast, List.take_length]
      rw [e] at ez
      rw [ez]
      exact k
def sp__law_form (K : PySem.W.Frag) : Sp := fun vs H Q _ => ∃ (w : Int) (a : Addr) (xs : List V), vs = [.int w, .ref a] ∧ H a = some (.lst xs) ∧ ∀ p H', Same H H' → SeqA K H' p xs → Q (.ref p) H'
theorem ok__law_form (T : Txt K mg) : FnOk P w K mg base CX0 1 T.a__law_form T.fd__law_form ["way", "values"] (sp__law_form K) := by
  have S := sc__law_form
  refine T.F__law_form.ok S (fun vs H Q E h => ?_) (fun cdv A outer s H vs Q E hr h => ?_)
  · obtain ⟨w, a, xs, rfl, _⟩ := h
    rfl
  · obtain ⟨w, a, xs, rfl, hA, k⟩ := h
    refine ⟨_, (pss_cons (ps_if (pt_cmpR op_eq (pv 0) pe_int (nomark _)) (pss_one (ps_ret (pe_callTy (T := "list") call_list_of (by rfl) T.b_list (by decide +kernel) (pa_cons (pv 1) pa_nil)))) pss_nil)
      (pss_one (ps_ret (pe_callTy (T := "tuple") call_tuple_of (by rfl) T.b_tuple (by decide +kernel) (pa_cons (pv 1) pa_nil))))), ?_⟩
    refine ⟨_, rfl, rfl, _, rfl, ?_⟩
    refine ite2 (fun _ => ?_) (fun _ => ?_)
    · exact ⟨_, rfl, a, _, rfl, .inl (SqL.of hA), fun p hp => k p _ (Same.new hp) (SeqA.lst upd_same)⟩
    · exact ⟨_, rfl, a, _, rfl, .inl ⟨SqL.of hA, fun p hp => k p _ (Same.new hp) (SeqA.tup upd_same)⟩⟩
def WordsL (ns : List Int) : Prop := (∀ n ∈ ns, 0 ≤ n ∧ n ≤ 65535) ∧ ns.length ≤ 65535
def sp__law_sequence (K : PySem.W.Frag) : Sp := fun vs H Q _ => ∃ (p : Addr), vs = [.ref p] ∧ ∃ c, Purse p c H ∧ ∀ l ns H', H l = none → H' l = some (.lst (ns.map V.int)) → WordsL ns → Purse p c H' → SameX p H H' → Q (.ref l) H'
theorem ok__law_sequence (T : Txt K mg) : FnOk P w K mg base CX0 3 T.a__law_sequence T.fd__law_sequence ["purse"] (sp__law_sequence K) := by
  have S := sc__law_sequence
  refine T.F__law_sequence.ok S (fun vs H Q E h => ?_) (fun cdv A outer s H vs Q E hr h => ?_)
  · obtain ⟨p, rfl, _⟩ := h
    rfl
  · obtain ⟨p, rfl, c, P0, k⟩ := h
    refine ⟨_, (pss_cons (ps_set (i := 1) S.nd rfl (Or.inl rfl) (pe_call (ok__law_draw T) (hr.mono (by decide)) rfl T.g__law_draw T.F__law_draw.kp T.B__law_draw .nil pass0 (pa_cons (pv 0) (pa_cons pe_int pa_nil))))
      (pss_cons (ps_if (pt_cmpR op_eq (pv 1) pe_int (nomark _)) (pss_cons (ps_set (i := 2) S.nd rfl (Or.inr rfl) (pe_call (ok__law_word T) (hr.mono (by decide)) rfl T.g__law_word T.F__law_word.kp T.B__law_word .nil pass0 (pa_cons (pv 0) pa_nil)))
      (pss_cons (ps_set (i := 3) S.nd rfl (Or.inr rfl) (pe_call (ok__law_word T) (hr.mono (by decide)) rfl T.g__law_word T.F__law_word.kp T.B__law_word .nil pass0 (pa_cons (pv 0) pa_nil)))
      (pss_one (ps_ret (pe_lc (own := [("k", 4)]) (g := gName 4) (tt := tYes) rfl S.nd (pi_range1 (by rfl) T.b_range (pa_cons (pe_op op_add pe_int (pe_call (ok__law_draw T) (hr.mono (by decide)) rfl T.g__law_draw T.F__law_draw.kp T.B__law_draw .nil pass0 (pa_cons (pv 0) (pa_cons pe_int pa_nil)))) pa_nil)) (blkOk_by (N := ["purse", "way", "start", "stride", "k", "many", "words"]) (sc := defScope s__law_sequence) (by decide +kernel)) (fun _ _ _ _ _ => pg_name (i := 4) S.nd rfl (Or.inl rfl)) (fun _ _ _ _ _ => pts_nil) (fun _ _ _ _ _ => (pe_op op_mod (pe_callTy (T := "int") call_int1 (by rfl) T.b_int (by decide +kernel) (pa_cons (pe_op op_add (pv 2) (pe_op op_mul (pv 3) (pv 4))) pa_nil)) pe_int))))))) pss_nil)
      (pss_cons (ps_set (i := 5) S.nd rfl (Or.inl rfl) (pe_op op_mod (pe_callTy (T := "int") call_int1 (by rfl) T.b_int (by decide +kernel) (pa_cons (pe_op op_add pe_int (pe_call (ok__law_draw T) (hr.mono (by decide)) rfl T.g__law_draw T.F__law_draw.kp T.B__law_draw .nil pass0 (pa_cons (pv 0) (pa_cons pe_int pa_nil)))) pa_nil)) pe_int))
      (C8.pss_cut (ps_if (pt_cmpR op_eq (pe_op op_mod (pe_callTy (T := "int") call_int1 (by rfl) T.b_int (by decide +kernel) (pa_cons (pv 1) pa_nil)) pe_int) pe_int (nomark _)) (pss_one (ps_set (i := 5) S.nd rfl (Or.inl rfl) (pe_call (ok__law_draw T) (hr.mono (by decide)) rfl T.g__law_draw T.F__law_draw.kp T.B__law_draw .nil pass0 (pa_cons (pv 0) (pa_cons pe_int pa_nil))))) pss_nil)
      (pss_cons (ps_set (i := 6) S.nd rfl (Or.inl rfl) (pe_lst pa_nil))
      (pss_cons (ps_for PassesOwn.never rfl (pi_range1 (by rfl) T.b_range (pa_cons (pv 5) pa_nil)) (pg_name (i := 4) S.nd rfl (Or.inl rfl)) (pss_one (ps_expr (pe_bm PySem.F.plainAttrs_list PySem.F.slot_list_append PySem.F.type_list_append mt_append (pv 6) (pa_cons (pe_call (ok__law_word T) (hr.mono (by decide)) rfl T.g__law_word T.F__law_word.kp T.B__law_word .nil pass0 (pa_cons (pv 0) pa_nil)) pa_nil)))))
      (pss_one (ps_ret (pv 6))))))))), ?_⟩
    refine ⟨_, rfl, p, 256, rfl, c, P0, by decide, by decide, fun e H1 e0 e1 P1 s1 => ?_⟩
    refine ⟨_, rfl, rfl, _, rfl, ?_⟩
    refine ite2 (fun _ => ?_) (fun _ => ?_)
    · refine ⟨_, rfl, p, rfl, c, P1, fun st H2 st0 st1 P2 s2 => ?_⟩
      refine ⟨_, rfl, p, rfl, c, P2, fun sd H3 sd0 sd1 P3 s3 => ?_⟩
      refine ⟨_, rfl, p, 3, rfl, c, P3, by decide, by decide, fun f H4 f0 f1 P4 s4 => ⟨_, _, rfl, rfl, ?_⟩⟩
      have s := ((s1.trans s2).trans s3).trans s4
      refine ⟨_, rfl, by omega, by omega, fun D hD => ?_⟩
      obtain ⟨⟨_, hp⟩, _, hc⟩ := P4.there
      have npD : p ≠ D := ne_of_none hp hD
      have ncD : c ≠ D := ne_of_none hc hD
      have hD0 : H D = none := by
        cases q : H D with
        | none => rfl
        | some o =>
          rw [s D o npD.symm q] at hD
          cases hD
      refine lc_range (lo := 0) (n := (65533 + f).toNat) (fun i H' => ∃ ns : List Int, ns.length = i ∧ H' D = some (.lst (ns.map V.int)) ∧ (∀ n ∈ ns, 0 ≤ n ∧ n ≤ 65535) ∧ ∀ b o, b ≠ D → H4 b = some o → H' b = some o)
        ⟨[], rfl, upd_same, (fun n hn => nomatch hn), fun b o nb h => by rw [upd_ne nb]; exact h⟩ ?_ ?_
      · rintro i H' hi ⟨ns, hl, h1, h2, h3⟩
        refine ⟨rfl, ?_⟩
        refine ⟨_, rfl, _, rfl, _, rfl, _, _, rfl, rfl, .inl ⟨by omega, by omega⟩, _, _, rfl, rfl, .inl ⟨_, rfl, _, _, rfl, rfl, (by show (0 : Int) < 65536; decide), ?_⟩⟩
        refine ⟨_, h1, (by rw [List.length_map, hl]; exact Nat.lt_of_lt_of_le (show i < 100000 by omega) (by decide)), ns ++ [(st + sd * (0 + (i : Int))) % 65536], by rw [List.length_append, hl]; rfl, by rw [upd_same, List.map_append]; rfl, fun n hn => ?_, fun b o nb h => by rw [upd_ne nb]; exact h3 b o nb h⟩
        rcases List.mem_append.mp hn with q | q
        · exact h2 n q
        · rw [List.mem_singleton.mp q]
          have z1 := Int.emod_nonneg (st + sd * (0 + (i : Int))) (show (65536 : Int) ≠ 0 by decide)
          have z2 := Int.emod_lt_of_pos (st + sd * (0 + (i : Int))) (show (0 : Int) < 65536 by decide)
          omega
      · rintro H' ⟨ns, hl, h1, h2, h3⟩
        refine k D ns H' hD0 h1 ⟨h2, by omega⟩ (P4.on (b := D) (fun b o nb h => h3 b o nb h) npD ncD) (s.trans fun b o nb h => ?_)
        exact h3 b o (ne_of_none h hD) h
    · refine ⟨_, rfl, p, 12, rfl, c, P1, by decide, by decide, fun m H2 m0 m1 P2 s2 => ?_⟩
      refine ⟨_, _, rfl, rfl, .inl ⟨_, rfl, _, _, rfl, rfl, (by show (0 : Int) < 12; decide), ?_⟩⟩
      refine ⟨fun σ H' => ∃ (m : Int) (v2 v3 v4 v6 : Option V), σ = [some (.ref p), some (.int e), v2, v3, v4, some (.int m), v6] ∧ 0 ≤ m ∧ m ≤ 1500 ∧ Purse p c H' ∧ SameX p H H', ?_, ?_⟩
      · refine ⟨_, rfl, .inl ⟨_, rfl, _, _, rfl, rfl, (by show (0 : Int) < 16; decide), rfl, _, rfl, ?_⟩⟩
        refine ite2 (fun _ => ?_) (fun _ => ?_)
        · refine ⟨_, rfl, p, 1500, rfl, c, P2, by decide, by decide, fun f H3 f0 f1 P3 s3 => ?_⟩
          exact ⟨f, _, _, _, _, rfl, f0, by omega, P3, (s1.trans s2).trans s3⟩
        · exact ⟨_, _, _, _, _, rfl, Int.emod_nonneg _ (by decide), by have := Int.emod_lt_of_pos (3 + m) (show (0 : Int) < 12 by decide); omega, P2, s1.trans s2⟩
      · rintro σ H3 ⟨m, v2, v3, v4, v6, rfl, m0, m1, P3, s3⟩
        refine ⟨Nat.zero_le _, fun D hD => ?_⟩
        obtain ⟨⟨_, hp⟩, _, hc⟩ := P3.there
        have npD : p ≠ D := ne_of_none hp hD
        have ncD : c ≠ D := ne_of_none hc hD
        have hD0 : H D = none := by
          cases q : H D with
          | none => rfl
          | some o =>
            rw [s3 D o npD.symm q] at hD
            cases hD
        refine ⟨_, rfl, _, rfl, by omega, by omega, for_range (lo := 0) (n := m.toNat) (fun i σ H' => ∃ (ns : List Int) (v2 v3 v4 : Option V), σ = [some (.ref p), some (.int e), v2, v3, v4, some (.int m), some (.ref D)] ∧ ns.length = i ∧ H' D = some (.lst (ns.map V.int)) ∧ (∀ n ∈ ns, 0 ≤ n ∧ n ≤ 65535) ∧ Purse p c H' ∧ SameX p H H')
          ⟨[], _, _, _, rfl, rfl, upd_same, (fun n hn => nomatch hn), P3.same (Same.new hD), s3.trans (SameX.of (Same.new hD))⟩ ?_ ?_⟩
        · rintro i σ H' hi ⟨ns, v2, v3, v4, rfl, hl, h1, h2, P4, s4⟩
          refine ⟨_, rfl, .inl ⟨rfl, _, SqL.of h1⟩, _, rfl, p, rfl, c, P4, fun z H5 z0 z1 P5 s5 => ?_⟩
          have h5 := s5 _ _ npD.symm h1
          refine ⟨D, _, _, rfl, rfl, h5, (by rw [List.length_map, hl]; exact small1000' (by omega)), ?_⟩
          refine ⟨ns ++ [z], _, _, _, rfl, by rw [List.length_append, hl]; rfl, by rw [upd_same, List.map_append]; rfl, fun n hn => ?_, P5.keep (upd_ne npD) (upd_ne ncD), fun b o nb h => ?_⟩
          · rcases List.mem_append.mp hn with q | q
            · exact h2 n q
            · rw [List.mem_singleton.mp q]
              exact ⟨z0, z1⟩
          · rw [upd_ne (fun q => by rw [q, hD0] at h; cases h)]
            exact s5 b o nb (s4 b o nb h)
        · rintro σ H' ⟨ns, v2, v3, v4, rfl, hl, h1, h2, P4, s4⟩
          exact ⟨_, rfl, k D ns H' hD0 h1 ⟨h2, by omega⟩ P4 s4⟩
def sp__law_odd (K : PySem.W.Frag) : Sp := fun vs H Q _ => ∃ (p : Addr), vs = [.ref p] ∧ ∃ c, Purse p c H ∧ ∀ v o H', Kd K H' v o → inR 0 65535 o = false → Purse p c H' → SameX p H H' → Q v H'
theorem ok__law_odd (T : Txt K mg) : FnOk P w K mg base CX0 3 T.a__law_odd T.fd__law_odd ["purse"] (sp__law_odd K) := by
  have S := sc__law_odd
  refine T.F__law_odd.ok S (fun vs H Q E h => ?_) (fun cdv A outer s H vs Q E hr h => ?_)
  · obtain ⟨p, rfl, _⟩ := h
    rfl
  · obtain ⟨p, rfl, c, P0, k⟩ := h
    refine ⟨_, (pss_cons (ps_set (i := 1) S.nd rfl (Or.inl rfl) (pe_call (ok__law_draw T) (hr.mono (by decide)) rfl T.g__law_draw T.F__law_draw.kp T.B__law_draw .nil pass0 (pa_cons (pv 0) (pa_cons pe_int pa_nil))))
      (pss_cons (ps_if (pt_cmpR op_eq (pv 1) pe_int (nomark _)) (pss_one (ps_ret (pe_op op_add pe_int (pe_call (ok__law_number T) (hr.mono (by decide)) rfl T.g__law_number T.F__law_number.kp T.B__law_number .nil pass0 (pa_cons (pv 0) (pa_cons pe_int pa_nil)))))) pss_nil)
      (pss_cons (ps_if (pt_cmpR op_eq (pv 1) pe_int (nomark _)) (pss_one (ps_ret (pe_op op_sub (pe_un un_neg pe_int) (pe_call (ok__law_number T) (hr.mono (by decide)) rfl T.g__law_number T.F__law_number.kp T.B__law_number .nil pass0 (pa_cons (pv 0) (pa_cons pe_int pa_nil)))))) pss_nil)
      (pss_one (ps_ret (pe_ix ix_list (pe_lst (pa_cons pe_int (pa_cons (pe_un un_neg pe_int) (pa_cons pe_bl (pa_cons pe_bl (pa_cons pe_non (pa_cons pe_str (pa_cons pe_str (pa_cons (pe_tup (pa_cons pe_int pa_nil)) (pa_cons (pe_lst pa_nil) (pa_cons pe_dnewK pa_nil))))))))))) (pv 1) (fun _ _ => rfl))))))), ?_⟩
    refine ⟨_, rfl, p, 12, rfl, c, P0, by decide, by decide, fun e H1 e0 e1 P1 s1 => ?_⟩
    by_cases q10 : e = 10
    · refine ⟨_, rfl, rfl, true, bl_t (int_eq q10), ?_⟩
      refine ⟨_, rfl, p, 1000000000, rfl, c, P1, by decide, fun v H2 v0 v1 P2 s2 => ⟨_, _, rfl, rfl, k _ (some (65537 + v)) _ rfl ?_ P2 (s1.trans s2)⟩⟩
      show (decide (0 ≤ 65537 + v) && decide (65537 + v ≤ 65535)) = false
      rw [decide_eq_false (show ¬ 65537 + v ≤ 65535 by omega), Bool.and_false]
    refine ⟨_, rfl, rfl, false, bl_f (int_ne q10), ?_⟩
    by_cases q11 : e = 11
    · refine ⟨_, rfl, rfl, true, bl_t (int_eq q11), ?_⟩
      refine ⟨_, rfl, _, rfl, p, 1000000000, rfl, c, P1, by decide, fun v H2 v0 v1 P2 s2 => ⟨_, _, rfl, rfl, k _ (some (-2 - v)) _ rfl ?_ P2 (s1.trans s2)⟩⟩
      show (decide (0 ≤ -2 - v) && decide (-2 - v ≤ 65535)) = false
      rw [decide_eq_false (show ¬ 0 ≤ -2 - v by omega), Bool.false_and]
    refine ⟨_, rfl, rfl, false, bl_f (int_ne q11), ?_⟩
    refine ⟨_, rfl, (by show 1 ≤ sizeLine; decide), fun t ht => ⟨Nat.zero_le _, fun l hl => fun d hd => ⟨by show 10 ≤ sizeLine; decide, fun L hL => ?_⟩⟩⟩
    have n1 : Same H1 (upd H1 t (.tup [.int 1])) := Same.new ht
    have n2 : Same (upd H1 t (.tup [.int 1])) (upd (upd H1 t (.tup [.int 1])) l (.lst [])) := Same.new hl
    have n3 : Same (upd (upd H1 t (.tup [.int 1])) l (.lst [])) (upd (upd (upd H1 t (.tup [.int 1])) l (.lst [])) d (.dK [])) := Same.new hd
    have n4 := Same.new (o := .lst [.int 65536, .int (-1), .bl true, .bl false, .non, .str "1", .str "", .ref t, .ref l, .ref d]) hL
    have ft := n4 _ _ (n3 _ _ (n2 t _ upd_same))
    have fl := n4 _ _ (n3 l _ upd_same)
    have fd := n4 d _ upd_same
    have P5 := (((P1.same n1).same n2).same n3).same n4
    have s5 : SameX p H _ := s1.trans (.of (((n1.trans n2).trans n3).trans n4))
    have hat : ∃ v o, atI ([.int 65536, .int (-1), .bl true, .bl false, .non, .str "1", .str "", .ref t, .ref l, .ref d] : List V) e = some v ∧
        Kd K (upd (upd (upd (upd H1 t (.tup [.int 1])) l (.lst [])) d (.dK [])) L (.lst [.int 65536, .int (-1), .bl true, .bl false, .non, .str "1", .str "", .ref t, .ref l, .ref d])) v o ∧ inR 0 65535 o = false := by
      rcases (show e = 0 ∨ e = 1 ∨ e = 2 ∨ e = 3 ∨ e = 4 ∨ e = 5 ∨ e = 6 ∨ e = 7 ∨ e = 8 ∨ e = 9 by omega) with rfl | rfl | rfl | rfl | rfl | rfl | rfl | rfl | rfl | rfl
      · exact ⟨_, some 65536, rfl, rfl, by decide⟩
      · exact ⟨_, some (-1), rfl, rfl, by decide⟩
      · exact ⟨_, none, rfl, intK_no (.base (.bl true)) (i := true) (b := true) (by decide +kernel) (by decide +kernel) rfl, rfl⟩
      · exact ⟨_, none, rfl, intK_no (.base (.bl false)) (i := true) (b := true) (by decide +kernel) (by decide +kernel) rfl, rfl⟩
      · exact ⟨_, none, rfl, intK_no (.base .non) (i := false) (b := false) (by decide +kernel) (by decide +kernel) rfl, rfl⟩
      · exact ⟨_, none, rfl, intK_no (.base (.str _)) (i := false) (b := false) (by decide +kernel) (by decide +kernel) rfl, rfl⟩
      · exact ⟨_, none, rfl, intK_no (.base (.str _)) (i := false) (b := false) (by decide +kernel) (by decide +kernel) rfl, rfl⟩
      · exact ⟨_, none, rfl, intK_no (.base (.tup ft)) (i := false) (b := false) (by decide +kernel) (by decide +kernel) rfl, rfl⟩
      · exact ⟨_, none, rfl, intK_no (.base (.lst fl)) (i := false) (b := false) (by decide +kernel) (by decide +kernel) rfl, rfl⟩
      · exact ⟨_, none, rfl, intK_no (.base (.dK fd)) (i := false) (b := false) (by decide +kernel) (by decide +kernel) rfl, rfl⟩
    obtain ⟨v, o, ha, hk, ho⟩ := hat
    exact ⟨_, rfl, _, _, _, _, rfl, rfl, SqL.of upd_same, ha, k v o _ hk ho P5 s5⟩
def sp__law_refusal (K : PySem.W.Frag) : Sp := fun vs H Q _ => ∃ (x : V) (k : Nat), vs = [x] ∧ BadAt K H x k ∧ ∀ p H', Same H H' → H' p = some (.tup [.str "words", .int k]) → Q (.ref p) H'
theorem ok__law_refusal (T : Txt K mg) : FnOk P w K mg base CX0 5 T.a__law_refusal T.fd__law_refusal ["words"] (sp__law_refusal K) := by
  have S := sc__law_refusal
  refine T.F__law_refusal.ok S (fun vs H Q E h => ?_) (fun cdv A outer s H vs Q E hr h => ?_)
  · obtain ⟨x, k, rfl, _⟩ := h
    rfl
  · obtain ⟨x, n, rfl, hb, k⟩ := h
    refine ⟨_, (pss_cons (ps_try_cl rfl rfl takes0 (fun W pn xe tk po => (pss_one (ps_expr (pe_callS (ok_check_sum T) (hr.mono (by decide)) rfl T.g_check_sum T.F_check_sum.kp T.B_check_sum (fun σ => passAt tk σ) (pa_cons (pv 0) pa_nil)))))
      (ClOk.named (i := 1) S.nd rfl rfl ⟨rfl, by decide, .inl T.X_InvalidWords.g⟩ (fun a oe cls d pn hz hf => (pss_cons (ps_if (pt_val (pe_callB (id := "isinstance") (call_isX hz hf) (by rfl) T.b_isinstance (by decide +kernel) (pa_cons (pv 1) (pa_cons (pe_glob (v := .ref T.c_WrongSum) rfl T.X_WrongSum.g rfl) pa_nil)))) (pss_one (ps_ret (pe_tup (pa_cons pe_str (pa_cons (pe_xg hz hf (pv 1)) pa_nil))))) pss_nil)
      (pss_one (ps_ret (pe_tup (pa_cons pe_str (pa_cons (pe_xg hz hf (pv 1)) pa_nil)))))))
      (ClOk.bare ⟨rfl, by decide, .inl T.X_LossError.g⟩ (fun a oe cls d pn hz hf => (pss_one (ps_ret (pe_tup (pa_cons pe_str (pa_cons pe_int pa_nil))))))
      ClOk.nil)))
      (pss_one (ps_ret (pe_tup (pa_cons pe_str (pa_cons pe_int pa_nil)))))), ?_⟩
    refine ⟨_, rfl, x, rfl, .inr ⟨n, hb, fun d H1 s1 hx => ?_⟩⟩
    refine ⟨true, T.Me_InvalidWords_InvalidWords, fun _ a ha => ?_, fun z => nomatch z⟩
    refine ⟨_, rfl, _, _, false, _, d, _, rfl, fun u r => r, rfl, T.X_InvalidWords.e, rfl, hx, T.Kt_InvalidWords_WrongSum, _, rfl, ?_⟩
    refine ⟨_, rfl, rfl, _, d, _, _, rfl, T.X_InvalidWords.x, T.nX_InvalidWords, rfl, hx, rfl, (by show 2 ≤ sizeLine; decide), fun p hp => ?_⟩
    exact k p _ (s1.trans (Same.new hp)) upd_same
theorem Paired.app {α β : Type} {R : α → β → Prop} : ∀ {xs : List α} {ys : List β} {xs' : List α} {ys' : List β}, Paired R xs ys → Paired R xs' ys' → Paired R (xs ++ xs') (ys ++ ys')
  | _, _, _, _, .nil, t => t
  | _, _, _, _, .cons r s, t => .cons r (Paired.app s t)
theorem Paired.tk {α β : Type} {R : α → β → Prop} : ∀ {xs : List α} {ys : List β} (n : Nat), Paired R xs ys → Paired R (xs.take n) (ys.take n)
  | _, _, 0, _ => .nil
  | _, _, _ + 1, .nil => .nil
  | _, _, n + 1, .cons r t => .cons r (Paired.tk n t)
theorem Paired.dp {α β : Type} {R : α → β → Prop} : ∀ {xs : List α} {ys : List β} (n : Nat), Paired R xs ys → Paired R (xs.drop n) (ys.drop n)
  | _, _, 0, r => r
  | _, _, _ + 1, .nil => .nil
  | _, _, n + 1, .cons _ t => Paired.dp n t
theorem Kds.typ {K : PySem.W.Frag} {H H' : Hp} {xs : List V} {os : List (Option Int)} (h : Kds K H xs os) (s : Typ H H') : Kds K H' xs os := Paired.mapP h fun _ _ r => Kd.typ r s
/-- some item is no word -/
def Spoilt (os : List (Option Int)) : Prop := ∃ o ∈ os, inR 0 65535 o = false
theorem first_bad : ∀ {os : List (Option Int)}, Spoilt os → ∃ (k : Nat) (o : Option Int), os[k]? = some o ∧ inR 0 65535 o = false ∧ ∀ (j : Nat) p, j < k → os[j]? = some p → inR 0 65535 p = true
  | [], ⟨_, h, _⟩ => nomatch h
  | a :: r, ⟨o, h, ho⟩ => by
    cases e : inR 0 65535 a with
    | false => exact ⟨0, a, rfl, e, fun j p hj => absurd hj (Nat.not_lt_zero j)⟩
    | true =>
      have hr : o ∈ r := by
        rcases List.mem_cons.mp h with q | q
        · rw [q, e] at ho
          cases ho
        · exact q
      obtain ⟨k, p, h1, h2, h3⟩ := first_bad (os := r) ⟨o, hr, ho⟩
      refine ⟨k + 1, p, by simpa using h1, h2, fun j q hj hq => ?_⟩
      cases j with
      | zero =>
        have z : a = q := by simpa using hq
        rw [← z]
        exact e
      | succ j => exact h3 j q (by omega) (by simpa using hq)
def sp__law_refuses (K : PySem.W.Frag) : Sp := fun vs H Q _ => ∃ (p a : Addr) (ns : List Int), vs = [.ref p, .ref a] ∧ ∃ c, Purse p c H ∧ H a = some (.lst (ns.map V.int)) ∧ WordsL ns ∧ ∀ H', Purse p c H' → SameX p H H' → Q (.bl true) H'
theorem ok__law_refuses (T : Txt K mg) : FnOk P w K mg base CX0 6 T.a__law_refuses T.fd__law_refuses ["purse", "words"] (sp__law_refuses K) := by
  have S := sc__law_refuses
  refine T.F__law_refuses.ok S (fun vs H Q E h => ?_) (fun cdv A outer s H vs Q E hr h => ?_)
  · obtain ⟨p, a, ns, rfl, _⟩ := h
    rfl
  · obtain ⟨p, a, ns, rfl, c, P0, hA, ⟨hw, hl⟩, k⟩ := h
    refine ⟨_, (pss_cons (ps_set (i := 2) S.nd rfl (Or.inl rfl) (pe_callTy (T := "list") call_list_of (by rfl) T.b_list (by decide +kernel) (pa_cons (pv 1) pa_nil)))
      (C8.pss_cut (ps_for PassesOwn.never rfl (pi_range1 (by rfl) T.b_range (pa_cons (pe_op op_add pe_int (pe_call (ok__law_draw T) (hr.mono (by decide)) rfl T.g__law_draw T.F__law_draw.kp T.B__law_draw .nil pass0 (pa_cons (pv 0) (pa_cons pe_int pa_nil)))) pa_nil)) (pg_name (i := 3) S.nd rfl (Or.inl rfl)) (pss_one (ps_expr (pe_bm PySem.F.plainAttrs_list PySem.F.slot_list_insert PySem.F.type_list_insert mt_insert (pv 2) (pa_cons (pe_call (ok__law_draw T) (hr.mono (by decide)) rfl T.g__law_draw T.F__law_draw.kp T.B__law_draw .nil pass0 (pa_cons (pv 0) (pa_cons (pe_op op_add (pe_callB (id := "len") call_len_seq (by rfl) T.b_len (by decide +kernel) (pa_cons (pv 2) pa_nil)) pe_int) pa_nil))) (pa_cons (pe_call (ok__law_odd T) (hr.mono (by decide)) rfl T.g__law_odd T.F__law_odd.kp T.B__law_odd .nil pass0 (pa_cons (pv 0) pa_nil)) pa_nil))))))
      (pss_cons (ps_set (i := 4) S.nd rfl (Or.inl rfl) pe_int)
      (pss_cons (ps_while PassesOwn.never (PW.pt (pw_and (pt_cmpR op_lt (pv 4) (pe_callB (id := "len") call_len_seq (by rfl) T.b_len (by decide +kernel) (pa_cons (pv 2) pa_nil)) (nomark _)) (pw_and1 (pt_val (pe_call (ok__law_is_word T) (hr.mono (by decide)) rfl T.g__law_is_word T.F__law_is_word.kp T.B__law_is_word .nil pass0 (pa_cons (pe_ix ix_list (pv 2) (pv 4) (fun _ _ => rfl)) pa_nil)))))) (pss_one (ps_set (i := 4) S.nd rfl (Or.inl rfl) (pe_op op_add (pv 4) pe_int))))
      (pss_cons (ps_set (i := 5) S.nd rfl (Or.inl rfl) (pe_call (ok__law_refusal T) (hr.mono (by decide)) rfl T.g__law_refusal T.F__law_refusal.kp T.B__law_refusal .nil pass0 (pa_cons (pe_call (ok__law_form T) (hr.mono (by decide)) rfl T.g__law_form T.F__law_form.kp T.B__law_form .nil pass0 (pa_cons (pe_call (ok__law_draw T) (hr.mono (by decide)) rfl T.g__law_draw T.F__law_draw.kp T.B__law_draw .nil pass0 (pa_cons (pv 0) (pa_cons pe_int pa_nil))) (pa_cons (pv 2) pa_nil))) pa_nil)))
      (pss_cons (ps_if (PW.pt (pw_or (pt_cmpR op_ne (pe_ix ix_tup (pv 5) pe_int (fun _ _ => rfl)) pe_str (nomark _)) (pw_or1 (pt_not (pt_val (pe_call (ok__law_is T) (hr.mono (by decide)) rfl T.g__law_is T.F__law_is.kp T.B__law_is .nil pass0 (pa_cons (pe_ix ix_tup (pv 5) pe_int (fun _ _ => rfl)) (pa_cons (pv 4) pa_nil)))))))) (pss_one (ps_ret pe_bl)) pss_nil)
      (pss_cons (ps_set (i := 5) S.nd rfl (Or.inl rfl) (pe_call (ok__law_refusal T) (hr.mono (by decide)) rfl T.g__law_refusal T.F__law_refusal.kp T.B__law_refusal .nil pass0 (pa_cons (pe_ix ix_list (pe_lst (pa_cons pe_non (pa_cons pe_int (pa_cons pe_bl (pa_cons pe_str (pa_cons pe_str (pa_cons pe_dnewK (pa_cons pe_int pa_nil)))))))) (pe_call (ok__law_draw T) (hr.mono (by decide)) rfl T.g__law_draw T.F__law_draw.kp T.B__law_draw .nil pass0 (pa_cons (pv 0) (pa_cons pe_int pa_nil))) (fun _ _ => rfl)) pa_nil)))
      (pss_one (ps_ret (pe_and (pe_cmpR op_eq (pe_ix ix_tup (pv 5) pe_int (fun _ _ => rfl)) pe_str (nomark _)) (pe_one (pe_call (ok__law_is T) (hr.mono (by decide)) rfl T.g__law_is T.F__law_is.kp T.B__law_is .nil pass0 (pa_cons (pe_ix ix_tup (pv 5) pe_int (fun _ _ => rfl)) (pa_cons pe_int pa_nil)))))))))))))), ?_⟩
    refine ⟨_, rfl, a, _, rfl, .inl (SqL.of hA), fun D hD => ?_⟩
    obtain ⟨⟨_, hp⟩, _, hc⟩ := P0.there
    have npD : p ≠ D := ne_of_none hp hD
    have ncD : c ≠ D := ne_of_none hc hD
    refine ⟨fun σ H' => ∃ (xs : List V) (os : List (Option Int)) (v3 v4 v5 : Option V), σ = [some (.ref p), some (.ref a), some (.ref D), v3, v4, v5] ∧ H' D = some (.lst xs) ∧ Kds K H' xs os ∧ xs.length ≤ 70000 ∧ Spoilt os ∧ Purse p c H' ∧ (∀ b o, b ≠ p → b ≠ D → H b = some o → H' b = some o), ?_, ?_⟩
    · have P1 : Purse p c (upd H D (.lst (ns.map V.int))) := P0.same (Same.new hD)
      refine ⟨_, rfl, p, 2, rfl, c, P1, by decide, by decide, fun e H2 e0 e1 P2 s2 => ⟨_, _, rfl, rfl, ?_⟩⟩
      refine ⟨_, rfl, by omega, by omega, for_range (lo := 0) (n := (1 + e).toNat) (fun i σ H' => ∃ (xs : List V) (os : List (Option Int)) (v3 v4 v5 : Option V), σ = [some (.ref p), some (.ref a), some (.ref D), v3, v4, v5] ∧ H' D = some (.lst xs) ∧ Kds K H' xs os ∧ xs.length = ns.length + i ∧ (0 < i → Spoilt os) ∧ Purse p c H' ∧
          (∀ b o, b ≠ p → b ≠ D → H b = some o → H' b = some o))
        ⟨ns.map V.int, ns.map some, _, _, _, rfl, s2 _ _ npD.symm upd_same, Kds.ints ns, by rw [List.length_map]; rfl, fun z => absurd z (Nat.lt_irrefl 0), P2, fun b o nb nd h => s2 _ _ nb (by rw [upd_ne nd]; exact h)⟩ ?_ ?_⟩
      · rintro i σ H3 hi ⟨xs, os, v3, v4, v5, rfl, h3, hk, hlen, hsp, P3, s3⟩
        have hi' : i < 2 := by omega
        refine ⟨_, rfl, .inl ⟨rfl, _, SqL.of h3⟩, ?_⟩
        refine ⟨_, rfl, _, rfl, D, _, rfl, .inl (SqL.of h3), _, _, rfl, rfl, p, _, rfl, c, P3, by omega, by omega, fun at_ H4 a0 a1 P4 s4 => ?_⟩
        refine ⟨_, rfl, p, rfl, c, P4, fun v o H5 hkv ho P5 s5 => ?_⟩
        have h5 := s5 _ _ npD.symm (s4 _ _ npD.symm h3)
        have ty : Typ H3 H5 := (Typ.purse P3 P4 s4).trans (Typ.purse P4 P5 s5)
        refine ⟨D, xs, at_, v, rfl, rfl, h5, small1000' (by omega), a0, by omega, ?_⟩
        refine ⟨_, os.take at_.toNat ++ [o] ++ os.drop at_.toNat, _, _, _, rfl, upd_same, ?_, ?_, fun _ => ⟨o, by simp, ho⟩, P5.keep (upd_ne npD) (upd_ne ncD), fun b q nb nd h => ?_⟩
        · have hk5 := (Kds.typ hk ty).typ (Typ.upd (ys := xs.take at_.toNat ++ [v] ++ xs.drop at_.toNat) h5)
          exact Paired.app (Paired.app (Paired.tk _ hk5) (.cons (Kd.typ hkv (Typ.upd h5)) .nil)) (Paired.dp _ hk5)
        · simp only [List.length_append, List.length_take, List.length_drop, List.length_singleton]
          omega
        · rw [upd_ne nd]
          exact s5 _ _ nb (s4 _ _ nb (s3 b q nb nd h))
      · rintro σ H3 ⟨xs, os, v3, v4, v5, rfl, h3, hk, hlen, hsp, P3, s3⟩
        exact ⟨xs, os, v3, v4, v5, rfl, h3, hk, by omega, hsp (by omega), P3, s3⟩
    · rintro σ H3 ⟨xs, os, v3, v4, v5, rfl, h3, hk, hlen, hsp, P3, s3⟩
      obtain ⟨kk, ok, hok, hob, hoj⟩ := first_bad hsp
      have hkl : kk < xs.length := by
        rw [Paired.len hk]
        exact (List.getElem?_eq_some_iff.mp hok).1
      refine ⟨fun m σ H' => ∃ (i : Nat) (v5 : Option V), m = kk - i ∧ i ≤ kk ∧ σ = [some (.ref p), some (.ref a), some (.ref D), v3, some (.int i), v5] ∧ H' = H3, ⟨kk, 0, _, rfl, Nat.zero_le _, rfl, rfl⟩, ?_⟩
      rintro m σ H' ⟨i, w5, rfl, hi, rfl, rfl⟩
      have hx : xs[i]? = some xs[i] := List.getElem?_eq_getElem (by omega)
      obtain ⟨oi, hoi, hki⟩ := Paired.nth hk hx
      refine ⟨_, rfl, _, rfl, D, _, rfl, .inl (SqL.of h3), _, _, rfl, rfl, true, bl_t (by omega), ?_⟩
      refine ⟨_, rfl, _, rfl, _, _, _, _, rfl, rfl, SqL.of h3, atI_nat hx, _, oi, rfl, hki, _, rfl, ?_⟩
      by_cases q : i < kk
      · rw [hoj i oi q hoi]
        refine ⟨fun σ2 H2 => ∃ m' < kk - i, ∃ (i : Nat) (v5 : Option V), m' = kk - i ∧ i ≤ kk ∧ σ2 = [some (.ref p), some (.ref a), some (.ref D), v3, some (.int i), v5] ∧ H2 = H', fun σ' H' h => h, ?_⟩
        refine ⟨_, rfl, _, _, rfl, rfl, ?_⟩
        refine ⟨kk - (i + 1), by omega, i + 1, w5, rfl, by omega, ?_, rfl⟩
        rw [show ((i + 1 : Nat) : Int) = (i : Int) + 1 by omega]
        rfl
      · have ik : i = kk := by omega
        subst ik
        have e : oi = ok := by
          rw [hok] at hoi
          exact (Option.some.inj hoi).symm
        rw [e, hob]
        refine ⟨_, rfl, p, 2, rfl, c, P3, by decide, by decide, fun f H4 f0 f1 P4 s4 => ?_⟩
        have h4 := s4 _ _ npD.symm h3
        have hk4 := Kds.typ hk (Typ.purse P3 P4 s4)
        refine ⟨_, rfl, f, D, xs, rfl, h4, fun l H5 s5 hs5 => ?_⟩
        refine ⟨_, i, rfl, .inr ⟨l, xs, os, ok, rfl, hs5, Kds.same hk4 s5, by omega, hok, hob, hoj⟩, fun u H6 s6 hu => ?_⟩
        refine ⟨_, rfl, _, _, _, _, rfl, rfl, SqT.of hu, rfl, rfl, false, bln_t rfl, ?_⟩
        refine ⟨_, rfl, _, _, _, _, rfl, rfl, SqT.of hu, rfl, _, rfl, _, _, rfl, true, bl_t rfl, ?_⟩
        have P6 := (P4.same s5).same s6
        have s36 : ∀ b o, b ≠ p → b ≠ D → H b = some o → H6 b = some o := fun b o nb nd h => s6 _ _ (s5 _ _ (s4 _ _ nb (s3 b o nb nd h)))
        refine fun d hd => ⟨by show 7 ≤ sizeLine; decide, fun L hL => ?_⟩
        have P7 : Purse p c (upd (upd H6 d (.dK [])) L (.lst [.non, .int 5, .bl true, .str "", .str "ab", .ref d, .int 65537])) := (P6.same (Same.new hd)).same (Same.new hL)
        have fd : (upd (upd H6 d (.dK [])) L (.lst [.non, .int 5, .bl true, .str "", .str "ab", .ref d, .int 65537])) d = some (.dK []) := Same.new hL d _ upd_same
        refine ⟨_, rfl, p, 7, rfl, c, P7, by decide, by decide, fun g H8 g0 g1 P8 s8 => ?_⟩
        have npL : p ≠ L := by
          have Pd : Purse p c (upd H6 d (.dK [])) := P6.same (Same.new hd)
          obtain ⟨⟨_, z⟩, _⟩ := Pd.there
          exact ne_of_none z hL
        have hL8 := s8 _ _ npL.symm upd_same
        have npd : p ≠ d := by
          obtain ⟨⟨_, z⟩, _⟩ := P6.there
          exact ne_of_none z hd
        have hd8 := s8 _ _ npd.symm fd
        have hat : ∃ v, atI ([.non, .int 5, .bl true, .str "", .str "ab", .ref d, .int 65537] : List V) g = some v ∧ SeqK K H8 v false := by
          rcases (show g = 0 ∨ g = 1 ∨ g = 2 ∨ g = 3 ∨ g = 4 ∨ g = 5 ∨ g = 6 by omega) with rfl | rfl | rfl | rfl | rfl | rfl | rfl
          · exact ⟨_, rfl, seqK_ty (a := false) (b := false) (.base .non) (by decide +kernel) (by decide +kernel)⟩
          · exact ⟨_, rfl, seqK_ty (a := false) (b := false) (.base (.int 5)) (by decide +kernel) (by decide +kernel)⟩
          · exact ⟨_, rfl, seqK_ty (a := false) (b := false) (.base (.bl true)) (by decide +kernel) (by decide +kernel)⟩
          · exact ⟨_, rfl, seqK_ty (a := false) (b := false) (.base (.str _)) (by decide +kernel) (by decide +kernel)⟩
          · exact ⟨_, rfl, seqK_ty (a := false) (b := false) (.base (.str _)) (by decide +kernel) (by decide +kernel)⟩
          · exact ⟨_, rfl, seqK_ty (a := false) (b := false) (.base (.dK hd8)) (by decide +kernel) (by decide +kernel)⟩
          · exact ⟨_, rfl, seqK_ty (a := false) (b := false) (.base (.int 65537)) (by decide +kernel) (by decide +kernel)⟩
        obtain ⟨v, hv, hsq⟩ := hat
        refine ⟨_, _, _, _, rfl, rfl, SqL.of hL8, hv, _, 0, rfl, .inl ⟨hsq, rfl⟩, fun u2 H9 s9 hu2 => ?_⟩
        refine ⟨_, rfl, _, _, _, _, rfl, rfl, SqT.of hu2, rfl, rfl, true, bl_t rfl, ?_⟩
        refine ⟨_, rfl, _, _, _, _, rfl, rfl, SqT.of hu2, rfl, _, _, rfl, ?_⟩
        rw [show decide (((0 : Nat) : Int) = 0) = true from rfl]
        refine k H9 (P8.same s9) fun b o nb h => s9 _ _ (s8 b o nb (Same.new hL b o (Same.new hd b o (s36 b o nb (ne_of_none h hD) h))))
/-! ### the arithmetic of the sum -/
theorem csum_set : ∀ (l : List Int) (k j : Nat) (x : Int) (h : j < l.length), csum k (l.set j x) = csum k l + (((k + j : Nat) : Int) + 1) * (x - l[j])
  | [], _, j, _, h => absurd h (Nat.not_lt_zero j)
  | n :: r, k, 0, x, _ => by
    show ((k : Int) + 1) * x + csum (k + 1) r = ((k : Int) + 1) * n + csum (k + 1) r + (((k + 0 : Nat) : Int) + 1) * (x - n)
    simp only [Nat.add_zero, Int.mul_sub]
    omega
  | n :: r, k, j + 1, x, h => by
    have h' : j < r.length := Nat.lt_of_succ_lt_succ h
    show ((k : Int) + 1) * n + csum (k + 1) (r.set j x) = ((k : Int) + 1) * n + csum (k + 1) r + (((k + (j + 1) : Nat) : Int) + 1) * (x - r[j])
    rw [csum_set r (k + 1) j x h', show k + (j + 1) = k + 1 + j by omega]
    omega
theorem small_div : ∀ d : Fin 257, 2 ≤ d.val → 65537 % d.val ≠ 0 := by decide +kernel
theorem gcd_p {a : Nat} (h0 : 0 < a) (h1 : a < 65537) : Nat.gcd 65537 a = 1 := by
  have hd : Nat.gcd 65537 a ∣ 65537 := Nat.gcd_dvd_left _ _
  have hle : Nat.gcd 65537 a ≤ a := Nat.le_of_dvd h0 (Nat.gcd_dvd_right _ _)
  generalize Nat.gcd 65537 a = g at hd hle
  obtain ⟨q, hq⟩ := hd
  have no : ∀ u v : Nat, 65537 = u * v → 2 ≤ u → u < 257 → False := fun u v e h2 h3 => small_div ⟨u, h3⟩ h2 (by
    show 65537 % u = 0
    rw [e, Nat.mul_mod_right])
  by_cases c : g < 257
  · rcases Nat.lt_or_ge g 2 with c2 | c2
    · have g0 : g ≠ 0 := fun z => by rw [z, Nat.zero_mul] at hq; cases hq
      omega
    · exact (no g q hq c2 c).elim
  · have q1 : q < 257 := by
      rcases Nat.lt_or_ge q 257 with z | z
      · exact z
      · have z2 : 257 * 257 ≤ g * q := Nat.mul_le_mul (by omega) z
        omega
    have q2 : 2 ≤ q := by
      rcases Nat.lt_or_ge q 2 with z | z
      · have q3 : q = 0 ∨ q = 1 := by omega
        rcases q3 with rfl | rfl <;> omega
      · exact z
    exact (no q g (by rw [hq, Nat.mul_comm]) q2 q1).elim
theorem prime_mul {a b : Int} (a0 : a ≠ 0) (a1 : a.natAbs < 65537) (b0 : b ≠ 0) (b1 : b.natAbs < 65537) : (a * b) % 65537 ≠ 0 := by
  intro h
  have h1 : (65537 : Int) ∣ a * b := Int.dvd_of_emod_eq_zero h
  have h2 : 65537 ∣ a.natAbs * b.natAbs := by
    rw [← Int.natAbs_mul]
    exact Int.natAbs_dvd_natAbs.mpr h1
  have h3 : 65537 ∣ b.natAbs := Nat.Coprime.dvd_of_dvd_mul_left (show Nat.Coprime 65537 a.natAbs from gcd_p (by omega) a1) h2
  have := Nat.le_of_dvd (by omega) h3
  omega
theorem mod_apart {x y d : Int} (e : x = y + d) (h : d % 65537 ≠ 0) : x % 65537 ≠ y % 65537 := by
  intro z
  apply h
  have := Int.emod_emod_of_dvd x (Int.dvd_refl 65537)
  omega
def sp__law_changes (K : PySem.W.Frag) : Sp := fun vs H Q _ => ∃ (p a : Addr) (ns : List Int), vs = [.ref p, .ref a, .int (csum 0 ns % 65537)] ∧ ∃ c, Purse p c H ∧ a ≠ p ∧ H a = some (.lst (ns.map V.int)) ∧ WordsL ns ∧ ∀ H', Purse p c H' → SameX p H H' → Q (.bl true) H'
theorem words_set {ns : List Int} {j : Nat} {x : Int} (h : WordsL ns) (x0 : 0 ≤ x) (x1 : x ≤ 65535) : WordsL (ns.set j x) :=
  ⟨fun n hn => (List.mem_or_eq_of_mem_set hn).elim (h.1 n) fun e => by rw [e]; exact ⟨x0, x1⟩, by rw [List.length_set]; exact h.2⟩
theorem ok__law_changes (T : Txt K mg) : FnOk P w K mg base CX0 5 T.a__law_changes T.fd__law_changes ["purse", "words", "amount"] (sp__law_changes K) := by
  have S := sc__law_changes
  refine T.F__law_changes.ok S (fun vs H Q E h => ?_) (fun cdv A outer s H vs Q E hr h => ?_)
  · obtain ⟨p, a, ns, rfl, _⟩ := h
    rfl
  · obtain ⟨p, a, ns, rfl, c, P0, nap, hA, W, k⟩ := h
    obtain ⟨hw, hl⟩ := id W
    refine ⟨_, (pss_cons (ps_if (pt_cmpR op_eq (pe_callB (id := "len") call_len_seq (by rfl) T.b_len (by decide +kernel) (pa_cons (pv 1) pa_nil)) pe_int (nomark _)) (pss_one (ps_ret pe_bl)) pss_nil)
      (pss_cons (ps_set (i := 3) S.nd rfl (Or.inl rfl) (pe_call (ok__law_draw T) (hr.mono (by decide)) rfl T.g__law_draw T.F__law_draw.kp T.B__law_draw .nil pass0 (pa_cons (pv 0) (pa_cons (pe_callB (id := "len") call_len_seq (by rfl) T.b_len (by decide +kernel) (pa_cons (pv 1) pa_nil)) pa_nil))))
      (pss_cons (ps_set (i := 4) S.nd rfl (Or.inl rfl) (pe_callTy (T := "list") call_list_of (by rfl) T.b_list (by decide +kernel) (pa_cons (pv 1) pa_nil)))
      (pss_cons (ps_asg (pe_op op_mod (pe_callTy (T := "int") call_int1 (by rfl) T.b_int (by decide +kernel) (pa_cons (pe_op op_add (pe_op op_add (pe_ix ix_list (pv 1) (pv 3) (fun _ _ => rfl)) pe_int) (pe_call (ok__law_draw T) (hr.mono (by decide)) rfl T.g__law_draw T.F__law_draw.kp T.B__law_draw .nil pass0 (pa_cons (pv 0) (pa_cons pe_int pa_nil)))) pa_nil)) pe_int) (pg_sub (pv 4) (pv 3) set_list))
      (pss_cons (ps_set (i := 5) S.nd rfl (Or.inl rfl) (pe_call (ok_check_sum T) (hr.mono (by decide)) rfl T.g_check_sum T.F_check_sum.kp T.B_check_sum .nil passL (pa_cons (pe_call (ok__law_form T) (hr.mono (by decide)) rfl T.g__law_form T.F__law_form.kp T.B__law_form .nil pass0 (pa_cons (pe_call (ok__law_draw T) (hr.mono (by decide)) rfl T.g__law_draw T.F__law_draw.kp T.B__law_draw .nil pass0 (pa_cons (pv 0) (pa_cons pe_int pa_nil))) (pa_cons (pv 4) pa_nil))) pa_nil)))
      (pss_cons (ps_if (PW.pt (pw_or (pt_not (pt_val (pe_call (ok__law_is T) (hr.mono (by decide)) rfl T.g__law_is T.F__law_is.kp T.B__law_is .nil pass0 (pa_cons (pv 5) (pa_cons (pe_call (ok__law_sum T) (hr.mono (by decide)) rfl T.g__law_sum T.F__law_sum.kp T.B__law_sum .nil pass0 (pa_cons (pv 4) pa_nil)) pa_nil))))) (pw_or1 (pt_cmpR op_eq (pv 5) (pv 2) (nomark _))))) (pss_one (ps_ret pe_bl)) pss_nil)
      (pss_cons (ps_set (i := 6) S.nd rfl (Or.inl rfl) (pe_call (ok__law_draw T) (hr.mono (by decide)) rfl T.g__law_draw T.F__law_draw.kp T.B__law_draw .nil pass0 (pa_cons (pv 0) (pa_cons (pe_callB (id := "len") call_len_seq (by rfl) T.b_len (by decide +kernel) (pa_cons (pv 1) pa_nil)) pa_nil))))
      (pss_cons (ps_set (i := 7) S.nd rfl (Or.inl rfl) (pe_callTy (T := "list") call_list_of (by rfl) T.b_list (by decide +kernel) (pa_cons (pv 1) pa_nil)))
      (pss_cons (ps_asg (pe_ix ix_list (pv 1) (pv 6) (fun _ _ => rfl)) (pg_sub (pv 7) (pv 3) set_list))
      (pss_cons (ps_asg (pe_ix ix_list (pv 1) (pv 3) (fun _ _ => rfl)) (pg_sub (pv 7) (pv 6) set_list))
      (pss_cons (ps_set (i := 5) S.nd rfl (Or.inl rfl) (pe_call (ok_check_sum T) (hr.mono (by decide)) rfl T.g_check_sum T.F_check_sum.kp T.B_check_sum .nil passL (pa_cons (pe_callTy (T := "list") call_list_of (by rfl) T.b_list (by decide +kernel) (pa_cons (pv 7) pa_nil)) pa_nil)))
      (pss_cons (ps_if (pt_not (pt_val (pe_call (ok__law_is T) (hr.mono (by decide)) rfl T.g__law_is T.F__law_is.kp T.B__law_is .nil pass0 (pa_cons (pv 5) (pa_cons (pe_call (ok__law_sum T) (hr.mono (by decide)) rfl T.g__law_sum T.F__law_sum.kp T.B__law_sum .nil pass0 (pa_cons (pv 7) pa_nil)) pa_nil))))) (pss_one (ps_ret pe_bl)) pss_nil)
      (pss_one (ps_ret (pe_or (pe_cmpR op_eq (pe_ix ix_list (pv 1) (pv 3) (fun _ _ => rfl)) (pe_ix ix_list (pv 1) (pv 6) (fun _ _ => rfl)) (nomark _)) (pe_one (pe_cmpR op_ne (pv 5) (pv 2) (nomark _)))))))))))))))))), ?_⟩
    by_cases q : ns.length = 0
    · refine ⟨_, rfl, a, _, rfl, .inl (SqL.of hA), rfl, true, bl_t (int_eq (by rw [List.length_map, q]; rfl)), ?_⟩
      exact k _ P0 .refl
    refine ⟨_, rfl, a, _, rfl, .inl (SqL.of hA), rfl, false, bl_f (int_ne (by rw [List.length_map]; omega)), ?_⟩
    refine ⟨_, rfl, _, rfl, a, _, rfl, .inl (SqL.of hA), p, _, rfl, c, P0, (by rw [List.length_map]; omega), (by rw [List.length_map]; omega), fun o H1 o0 o1 P1 s1 => ?_⟩
    rw [List.length_map] at o1
    obtain ⟨j, rfl⟩ : ∃ j : Nat, o = (j : Int) := ⟨o.toNat, by omega⟩
    have hj : j < ns.length := by omega
    have hA1 := s1 _ _ nap hA
    refine ⟨_, rfl, a, _, rfl, .inl (SqL.of hA1), fun D hD => ?_⟩
    obtain ⟨⟨_, hp⟩, _, hc⟩ := P1.there
    have npD : p ≠ D := ne_of_none hp hD
    have ncD : c ≠ D := ne_of_none hc hD
    have naD : a ≠ D := ne_of_none hA1 hD
    have sD : Same H1 (upd H1 D (.lst (ns.map V.int))) := Same.new hD
    have hA2 := sD _ _ hA1
    have hx : (ns.map V.int)[j]? = some (V.int ns[j]) := by simp [hj]
    have wj := hw _ (List.getElem_mem hj)
    refine ⟨_, rfl, _, rfl, _, _, _, _, rfl, rfl, SqL.of hA2, atI_nat hx, _, _, rfl, rfl, _, rfl, p, 65535, rfl, c, P1.same sD, by decide, by decide, fun d H3 d0 d1 P3 s3 => ⟨_, _, rfl, rfl, .inl ⟨_, rfl, _, _, rfl, rfl, (by show (0 : Int) < 65536; decide), ?_⟩⟩⟩
    dsimp only
    generalize hnew : (ns[j] + 1 + d) % 65536 = nw
    have nw0 : 0 ≤ nw := by rw [← hnew]; exact Int.emod_nonneg _ (by decide)
    have nw1 : nw ≤ 65535 := by have := Int.emod_lt_of_pos (ns[j] + 1 + d) (show (0 : Int) < 65536 by decide); omega
    have nwn : nw ≠ ns[j] := by omega
    have hD3 := s3 _ _ npD.symm (show (upd H1 D (.lst (ns.map V.int))) D = _ from upd_same)
    refine ⟨_, rfl, _, rfl, D, _, _, j, rfl, rfl, hD3, ixN_nat rfl (by rw [List.length_map]; exact hj), ?_⟩
    have eset : (ns.map V.int).set j (V.int nw) = (ns.set j nw).map V.int := List.map_set.symm
    rw [eset]
    have W1 : WordsL (ns.set j nw) := words_set W nw0 nw1
    have hD4 : (upd H3 D (.lst ((ns.set j nw).map V.int))) D = some (.lst ((ns.set j nw).map V.int)) := upd_same
    have P4 : Purse p c (upd H3 D (.lst ((ns.set j nw).map V.int))) := P3.keep (upd_ne npD) (upd_ne ncD)
    have s04 : SameX p H (upd H3 D (.lst ((ns.set j nw).map V.int))) := fun b u nb hb => by
      have h1 := s1 b u nb hb
      rw [upd_ne (ne_of_none h1 hD)]
      exact s3 b u nb (sD _ _ h1)
    generalize upd H3 D (.lst ((ns.set j nw).map V.int)) = H4 at hD4 P4 s04
    refine ⟨_, rfl, p, 2, rfl, c, P4, by decide, by decide, fun f H5 f0 f1 P5 s5 => ?_⟩
    have hD5 := s5 _ _ npD.symm hD4
    refine ⟨_, rfl, f, D, _, rfl, hD5, fun l H6 s6 hs6 => ?_⟩
    refine ⟨_, rfl, .inl ⟨ns.set j nw, ⟨l, rfl, hs6, W1.1, by have := W1.2; omega⟩, fun H7 s7 => ?_⟩⟩
    have hD7 := s7 _ _ (s6 _ _ hD5)
    have P7 := (P5.same s6).same s7
    have s07 : SameX p H H7 := (s04.trans s5).trans (.of (s6.trans s7))
    refine ⟨_, rfl, _, rfl, D, _, rfl, hD7, (by have := W1.2; omega), _, _, rfl, true, bl_t rfl, ?_⟩
    have ne1 : ¬ csum 0 (ns.set j nw) % 65537 = csum 0 ns % 65537 := mod_apart (csum_set ns 0 j nw hj) (by
      rw [Nat.zero_add]
      exact prime_mul (by omega) (by omega) (by omega) (by omega))
    refine ⟨_, rfl, _, rfl, rfl, false, bl_f (int_ne ne1), ?_⟩
    have hA7 := s07 _ _ nap hA
    refine ⟨_, rfl, _, rfl, a, _, rfl, .inl (SqL.of hA7), p, _, rfl, c, P7, (by rw [List.length_map]; omega), (by rw [List.length_map]; omega), fun o H8 o0 o1 P8 s8 => ?_⟩
    rw [List.length_map] at o1
    obtain ⟨i, rfl⟩ : ∃ i : Nat, o = (i : Int) := ⟨o.toNat, by omega⟩
    have hi : i < ns.length := by omega
    have hxi : (ns.map V.int)[i]? = some (V.int ns[i]) := by simp [hi]
    have wi := hw _ (List.getElem_mem hi)
    have hA8 := s8 _ _ nap hA7
    have s08 := s07.trans s8
    refine ⟨_, rfl, a, _, rfl, .inl (SqL.of hA8), fun B hB => ?_⟩
    obtain ⟨⟨_, hp8⟩, _, hc8⟩ := P8.there
    have npB : p ≠ B := ne_of_none hp8 hB
    have ncB : c ≠ B := ne_of_none hc8 hB
    have naB : a ≠ B := ne_of_none hA8 hB
    have sB : Same H8 (upd H8 B (.lst (ns.map V.int))) := Same.new hB
    have hA9 := sB _ _ hA8
    have hB9 : (upd H8 B (.lst (ns.map V.int))) B = some (.lst (ns.map V.int)) := upd_same
    refine ⟨_, rfl, _, rfl, _, _, _, _, rfl, rfl, SqL.of hA9, atI_nat hxi, _, rfl, _, rfl, B, _, _, j, rfl, rfl, hB9, ixN_nat rfl (by rw [List.length_map]; exact hj), ?_⟩
    rw [show (ns.map V.int).set j (V.int ns[i]) = (ns.set j ns[i]).map V.int from List.map_set.symm, upd_upd]
    have hAa : (upd H8 B (.lst ((ns.set j ns[i]).map V.int))) a = some (.lst (ns.map V.int)) := by rw [upd_ne naB]; exact hA8
    have hBa : (upd H8 B (.lst ((ns.set j ns[i]).map V.int))) B = some (.lst ((ns.set j ns[i]).map V.int)) := upd_same
    refine ⟨_, rfl, _, rfl, _, _, _, _, rfl, rfl, SqL.of hAa, atI_nat hx, _, rfl, _, rfl, B, _, _, i, rfl, rfl, hBa, ixN_nat rfl (by rw [List.length_map, List.length_set]; exact hi), ?_⟩
    rw [show ((ns.set j ns[i]).map V.int).set i (V.int ns[j]) = ((ns.set j ns[i]).set i ns[j]).map V.int from List.map_set.symm, upd_upd]
    have W2 : WordsL ((ns.set j ns[i]).set i ns[j]) := words_set (words_set W wi.1 wi.2) wj.1 wj.2
    have hBb : (upd H8 B (.lst (((ns.set j ns[i]).set i ns[j]).map V.int))) B = some (.lst (((ns.set j ns[i]).set i ns[j]).map V.int)) := upd_same
    have Pb : Purse p c (upd H8 B (.lst (((ns.set j ns[i]).set i ns[j]).map V.int))) := P8.keep (upd_ne npB) (upd_ne ncB)
    have s0b : SameX p H (upd H8 B (.lst (((ns.set j ns[i]).set i ns[j]).map V.int))) := fun b u nb hb => by
      have h1 := s08 b u nb hb
      rw [upd_ne (ne_of_none h1 hB)]
      exact h1
    generalize upd H8 B (.lst (((ns.set j ns[i]).set i ns[j]).map V.int)) = Hb at hBb Pb s0b
    refine ⟨_, rfl, B, _, rfl, .inl (SqL.of hBb), fun l2 hl2 => ?_⟩
    have sl : Same Hb (upd Hb l2 (.lst (((ns.set j ns[i]).set i ns[j]).map V.int))) := Same.new hl2
    refine ⟨_, rfl, .inl ⟨_, ⟨l2, rfl, SeqA.lst upd_same, W2.1, by have := W2.2; omega⟩, fun Hc sc => ?_⟩⟩
    have hBc := sc _ _ (sl _ _ hBb)
    have Pc := (Pb.same sl).same sc
    have s0c : SameX p H Hc := s0b.trans (.of (sl.trans sc))
    have hAc := s0c _ _ nap hA
    refine ⟨_, rfl, _, rfl, B, _, rfl, hBc, (by have := W2.2; omega), _, _, rfl, true, bl_t rfl, ?_⟩
    refine ⟨_, rfl, _, rfl, _, _, _, _, rfl, rfl, SqL.of hAc, atI_nat hx, _, rfl, _, rfl, _, _, _, _, rfl, rfl, SqL.of hAc, atI_nat hxi, rfl, ?_⟩
    by_cases qe : ns[j] = ns[i]
    · exact ⟨true, bl_t (int_eq qe), k _ Pc s0c⟩
    · have qij : i ≠ j := fun z => by subst z; exact qe rfl
      have hset : csum 0 ((ns.set j ns[i]).set i ns[j]) = csum 0 ns + ((j : Int) - (i : Int)) * (ns[i] - ns[j]) := by
        have hi' : i < (ns.set j ns[i]).length := by rw [List.length_set]; exact hi
        rw [csum_set _ 0 i _ hi', csum_set ns 0 j _ hj, List.getElem_set_ne qij.symm]
        rw [Nat.zero_add, Nat.zero_add, show ns[j] - ns[i] = -(ns[i] - ns[j]) by omega]
        generalize ns[i] - ns[j] = dd
        rw [Int.mul_neg, Int.add_mul, Int.add_mul, Int.sub_mul]
        omega
      have ne2 : ¬ csum 0 ((ns.set j ns[i]).set i ns[j]) % 65537 = csum 0 ns % 65537 := mod_apart hset (prime_mul (by omega) (by omega) (by omega) (by omega))
      refine ⟨false, bl_f (int_ne qe), ?_⟩
      refine ⟨_, rfl, _, rfl, rfl, ?_⟩
      rw [bln_f (int_ne ne2)]
      exact k _ Pc s0c
def sp_law (K : PySem.W.Frag) : Sp := fun vs H Q _ => ∃ (a : Addr) (ns : List Int), vs = [.ref a] ∧ SqL K H a (ns.map V.int) ∧ ns.length ≤ 63 ∧ ∀ H', Q (.bl true) H'
theorem dp_ints {K : PySem.W.Frag} {H : Hp} : ∀ ns : List Int, DpAll K H (ns.map V.int) (ns.map PyData.int)
  | [] => .nil
  | n :: r => .cons (.int n) (dp_ints r)
theorem lay_all : ∀ ns : List Int, PyData.canLayAll0 (ns.map PyData.int) = true ∧ PyData.depthAll (ns.map PyData.int) = 0
  | [] => ⟨by simp only [List.map_nil, PyData.canLayAll0], by simp only [List.map_nil, PyData.depthAll]⟩
  | n :: r => by
    obtain ⟨h1, h2⟩ := lay_all r
    exact ⟨by simp only [List.map_cons, PyData.canLayAll0, PyData.canLay0, h1, Bool.and_self], by simp only [List.map_cons, PyData.depthAll, PyData.depth, h2, Nat.max_self]⟩
theorem lay_ints (ns : List Int) : PySem.SeqAt.shaped (.list (ns.map PyData.int)) = true := by
  obtain ⟨h1, h2⟩ := lay_all ns
  unfold PySem.SeqAt.shaped
  simp only [PyData.canLay0, PyData.depth, h1, h2]
  decide
theorem ok_law (T : Txt K mg) : FnOk P w K mg base CX0 7 T.a_law T.fd_law ["script"] (sp_law K) := by
  have S := sc_law
  refine T.F_law.ok S (fun vs H Q E h => ?_) (fun cdv A outer s H vs Q E hr h => ?_)
  · obtain ⟨a, ns, rfl, _⟩ := h
    rfl
  · obtain ⟨a, ns, rfl, hS, hl, k⟩ := h
    refine ⟨_, (pss_cons (ps_set (i := 1) S.nd rfl (Or.inl rfl) (pe_call (ok__law_purse T) (hr.mono (by decide)) rfl T.g__law_purse T.F__law_purse.kp T.B__law_purse .nil pass0 (pa_cons (pv 0) pa_nil)))
      (pss_cons (ps_set (i := 2) S.nd rfl (Or.inl rfl) (pe_call (ok__law_sequence T) (hr.mono (by decide)) rfl T.g__law_sequence T.F__law_sequence.kp T.B__law_sequence .nil pass0 (pa_cons (pv 1) pa_nil)))
      (pss_cons (ps_set (i := 3) S.nd rfl (Or.inl rfl) (pe_call (ok__law_sum T) (hr.mono (by decide)) rfl T.g__law_sum T.F__law_sum.kp T.B__law_sum .nil pass0 (pa_cons (pv 2) pa_nil)))
      (pss_cons (ps_set (i := 4) S.nd rfl (Or.inl rfl) (pe_callTy (T := "list") call_list_of (by rfl) T.b_list (by decide +kernel) (pa_cons (pv 2) pa_nil)))
      (pss_cons (ps_if (PW.pt (pw_or (pt_not (pt_val (pe_call (ok__law_is T) (hr.mono (by decide)) rfl T.g__law_is T.F__law_is.kp T.B__law_is .nil pass0 (pa_cons (pe_glob rfl T.g_PRIME T.r_PRIME) (pa_cons pe_int pa_nil))))) (pw_or (pt_not (pt_val (pe_call (ok__law_is T) (hr.mono (by decide)) rfl T.g__law_is T.F__law_is.kp T.B__law_is .nil pass0 (pa_cons (pe_call (ok_check_sum T) (hr.mono (by decide)) rfl T.g_check_sum T.F_check_sum.kp T.B_check_sum .nil passL (pa_cons (pv 4) pa_nil)) (pa_cons (pv 3) pa_nil))))) (pw_or1 (pt_cmpR (op_neD hr.units) (pv 4) (pv 2) (nomark _)))))) (pss_one (ps_ret pe_bl)) pss_nil)
      (pss_cons (ps_if (PW.pt (pw_or (pt_not (pt_val (pe_call (ok__law_changes T) (hr.mono (by decide)) rfl T.g__law_changes T.F__law_changes.kp T.B__law_changes .nil pass0 (pa_cons (pv 1) (pa_cons (pv 2) (pa_cons (pv 3) pa_nil)))))) (pw_or1 (pt_not (pt_val (pe_call (ok__law_refuses T) (hr.mono (by decide)) rfl T.g__law_refuses T.F__law_refuses.kp T.B__law_refuses .nil pass0 (pa_cons (pv 1) (pa_cons (pv 2) pa_nil)))))))) (pss_one (ps_ret pe_bl)) pss_nil)
      (pss_one (ps_ret (pe_and (pe_call (ok__law_is T) (hr.mono (by decide)) rfl T.g__law_is T.F__law_is.kp T.B__law_is .nil pass0 (pa_cons (pe_call (ok_check_sum T) (hr.mono (by decide)) rfl T.g_check_sum T.F_check_sum.kp T.B_check_sum .nil passL (pa_cons (pe_callTy (T := "tuple") call_tuple_of (by rfl) T.b_tuple (by decide +kernel) (pa_cons (pv 2) pa_nil)) pa_nil)) (pa_cons (pv 3) pa_nil))) (pe_and (pe_call (ok__law_is T) (hr.mono (by decide)) rfl T.g__law_is T.F__law_is.kp T.B__law_is .nil pass0 (pa_cons (pe_call (ok_check_sum T) (hr.mono (by decide)) rfl T.g_check_sum T.F_check_sum.kp T.B_check_sum .nil passL (pa_cons (pv 4) pa_nil)) (pa_cons (pv 3) pa_nil))) (pe_one (pe_cmpR (op_eqD hr.units) (pv 4) (pv 2) (nomark _))))))))))))), ?_⟩
    refine ⟨_, rfl, a, ns, rfl, hS, fun p c H1 _ _ npc P1 _ => ?_⟩
    refine ⟨_, rfl, p, rfl, c, P1, fun l ws H2 hl1 hL W P2 s2 => ?_⟩
    have nlp : l ≠ p := by
      obtain ⟨⟨_, hp⟩, _⟩ := P1.there
      exact (ne_of_none hp hl1).symm
    have wl : ws.length ≤ 100000 := by have := W.2; omega
    refine ⟨_, rfl, l, ws, rfl, hL, wl, ?_⟩
    refine ⟨_, rfl, l, _, rfl, .inl (SqL.of hL), fun D hD => ?_⟩
    have sD : Same H2 (upd H2 D (.lst (ws.map V.int))) := Same.new hD
    have hD3 : (upd H2 D (.lst (ws.map V.int))) D = some (.lst (ws.map V.int)) := upd_same
    have npD : D ≠ p := by
      obtain ⟨⟨_, hp⟩, _⟩ := P2.there
      exact (ne_of_none hp hD).symm
    have P3 := P2.same sD
    have hL3 := sD _ _ hL
    generalize upd H2 D (.lst (ws.map V.int)) = H3 at sD hD3 P3 hL3
    have eqq : PyData.eqv (.list (ws.map PyData.int)) (.list (ws.map PyData.int)) = true := PySem.SeqAt.eqv_refl _ (PySem.SeqAt.canLay_of_shaped (lay_ints ws))
    refine ⟨_, _, rfl, true, bl_t rfl, ?_⟩
    refine ⟨_, rfl, _, rfl, .inl ⟨ws, ⟨D, rfl, SeqA.lst hD3, W.1, wl⟩, fun H4 s4 => ?_⟩⟩
    refine ⟨_, rfl, _, _, rfl, true, bl_t rfl, ?_⟩
    refine ⟨_, rfl, _, rfl, _, _, .lst (SqL.of (s4 _ _ hD3)) (dp_ints ws), .lst (SqL.of (s4 _ _ hL3)) (dp_ints ws), lay_ints ws, lay_ints ws, false, by rw [eqq]; rfl, ?_⟩
    refine ⟨_, rfl, _, rfl, _, rfl, p, l, ws, rfl, c, P3.same s4, nlp, s4 _ _ hL3, W, fun H5 P5 s5 => ⟨_, rfl, ?_⟩⟩
    have hL5 := s5 _ _ nlp (s4 _ _ hL3)
    have hD5 := s5 _ _ npD (s4 _ _ hD3)
    refine ⟨_, rfl, _, rfl, p, l, ws, rfl, c, P5, hL5, W, fun H6 P6 s6 => ⟨_, rfl, ?_⟩⟩
    have hL6 := s6 _ _ nlp hL5
    have hD6 := s6 _ _ npD hD5
    refine ⟨_, rfl, l, _, rfl, .inl ⟨SqL.of hL6, fun t ht => ?_⟩⟩
    have st : Same H6 (upd H6 t (.tup (ws.map V.int))) := Same.new ht
    refine ⟨_, rfl, .inl ⟨ws, ⟨t, rfl, SeqA.tup upd_same, W.1, wl⟩, fun H7 s7 => ?_⟩⟩
    refine ⟨_, rfl, _, _, rfl, true, bl_t rfl, ?_⟩
    have hD7 := s7 _ _ (st _ _ hD6)
    have hL7 := s7 _ _ (st _ _ hL6)
    refine ⟨_, rfl, _, rfl, .inl ⟨ws, ⟨D, rfl, SeqA.lst hD7, W.1, wl⟩, fun H8 s8 => ?_⟩⟩
    refine ⟨_, rfl, _, _, rfl, true, bl_t rfl, ?_⟩
    refine ⟨_, rfl, _, rfl, _, _, .lst (SqL.of (s8 _ _ hD7)) (dp_ints ws), .lst (SqL.of (s8 _ _ hL7)) (dp_ints ws), lay_ints ws, lay_ints ws, ?_⟩
    rw [eqq]
    exact k _
end
set_option maxHeartbeats 0 in
theorem all_mk {l : PySem.W.OpenLaw} {w : World} {K : PySem.W.Frag} {h : Heap} {mg : Str → Option Value} {fa : Addr} (X : K.In h) (G : h.Ns mainGlobals mg) (hfa : mg "law" = some (.ref fa))
    {c_LossError c_InvalidWords c_WrongSum a_InvalidWords_init_ a_is_integer a_is_between a_is_word a_is_sequence a_check_sum a__law_purse a__law_draw a__law_number a__law_is a__law_word a__law_is_word a__law_sum a__law_form a__law_sequence a__law_odd a__law_refusal a__law_refuses a__law_changes a_law : Addr}
    {od_InvalidWords_init_ an_InvalidWords_init_ od_is_integer an_is_integer od_is_between an_is_between od_is_word an_is_word od_is_sequence an_is_sequence od_check_sum an_check_sum od__law_purse an__law_purse od__law_draw an__law_draw od__law_number an__law_number od__law_is an__law_is od__law_word an__law_word od__law_is_word an__law_is_word od__law_sum an__law_sum od__law_form an__law_form od__law_sequence an__law_sequence od__law_odd an__law_odd od__law_refusal an__law_refusal od__law_refuses an__law_refuses od__law_changes an__law_changes od_law an_law : Option Addr} {sl_InvalidWords_init_ sl_is_integer sl_is_between sl_is_word sl_is_sequence sl_check_sum sl__law_purse sl__law_draw sl__law_number sl__law_is sl__law_word sl__law_is_word sl__law_sum sl__law_form sl__law_sequence sl__law_odd sl__law_refusal sl__law_refuses sl__law_changes sl_law : Array (Option Value)}
    {oc_InvalidWords_init_ kV_InvalidWords_init_ dc_InvalidWords_init_ pm_InvalidWords_init_ cd_InvalidWords_init_ ct_InvalidWords_init_ oc_is_integer kV_is_integer dc_is_integer pm_is_integer cd_is_integer ct_is_integer oc_is_between kV_is_between dc_is_between pm_is_between cd_is_between ct_is_between oc_is_word kV_is_word dc_is_word pm_is_word cd_is_word ct_is_word oc_is_sequence kV_is_sequence dc_is_sequence pm_is_sequence cd_is_sequence ct_is_sequence oc_check_sum kV_check_sum dc_check_sum pm_check_sum cd_check_sum ct_check_sum oc__law_purse kV__law_purse dc__law_purse pm__law_purse cd__law_purse ct__law_purse oc__law_draw kV__law_draw dc__law_draw pm__law_draw cd__law_draw ct__law_draw oc__law_number kV__law_number dc__law_number pm__law_number cd__law_number ct__law_number oc__law_is kV__law_is dc__law_is pm__law_is cd__law_is ct__law_is oc__law_word kV__law_word dc__law_word pm__law_word cd__law_word ct__law_word oc__law_is_word kV__law_is_word dc__law_is_word pm__law_is_word cd__law_is_word ct__law_is_word oc__law_sum kV__law_sum dc__law_sum pm__law_sum cd__law_sum ct__law_sum oc__law_form kV__law_form dc__law_form pm__law_form cd__law_form ct__law_form oc__law_sequence kV__law_sequence dc__law_sequence pm__law_sequence cd__law_sequence ct__law_sequence oc__law_odd kV__law_odd dc__law_odd pm__law_odd cd__law_odd ct__law_odd oc__law_refusal kV__law_refusal dc__law_refusal pm__law_refusal cd__law_refusal ct__law_refusal oc__law_refuses kV__law_refuses dc__law_refuses pm__law_refuses cd__law_refuses ct__law_refuses oc__law_changes kV__law_changes dc__law_changes pm__law_changes cd__law_changes ct__law_changes oc_law kV_law dc_law pm_law cd_law ct_law : Value}
    {u_PRIME : Value}
    {xn_InvalidWords xq_InvalidWords : Str} {xN_InvalidWords : Addr} {xb_InvalidWords xm_InvalidWords : List Value} {xs_InvalidWords : List Str} {xu_InvalidWords : List Value} {xa_InvalidWords : Bool} {xo_InvalidWords : _} {xd_InvalidWords : Option Addr} {x0_InvalidWords x1_InvalidWords x2_InvalidWords x3_InvalidWords x5_InvalidWords : Option Value}
    (aC_LossError : PySem.W.nsIn K mainGlobals "LossError" = some (some (.ref c_LossError)))
    (aC_InvalidWords : PySem.W.nsIn K mainGlobals "InvalidWords" = some (some (.ref c_InvalidWords)))
    (xl_InvalidWords : K.lookup c_InvalidWords = some (excClassObj xn_InvalidWords xq_InvalidWords c_InvalidWords xN_InvalidWords xb_InvalidWords xm_InvalidWords true xs_InvalidWords xu_InvalidWords xa_InvalidWords xo_InvalidWords xd_InvalidWords x0_InvalidWords x1_InvalidWords x2_InvalidWords x3_InvalidWords x5_InvalidWords "ValueError.__new__"))
    (sa_InvalidWords : PySem.W.findIn K (.ref c_InvalidWords) "__setattr__" = some (some (.builtin "object.__setattr__")))
    (xx_InvalidWords : PySem.W.subIn K (.ref c_InvalidWords) (.type "BaseException") = some true)
    (xt_InvalidWords : PySem.W.typeIn K (.ref c_InvalidWords) = some (.type "type"))
    (xk_InvalidWords : PySem.W.keepIn K (.ref c_InvalidWords) = true)
    (xi_InvalidWords : PySem.W.findIn K (.ref c_InvalidWords) "__init__" = some (some (.ref a_InvalidWords_init_)))
    (xg_InvalidWords : PySem.W.findIn K (.ref c_InvalidWords) "__getattribute__" = some (some (.builtin "BaseException.__getattribute__")))
    (xh_InvalidWords : PySem.W.findIn K (.ref c_InvalidWords) "__getattr__" = some none)
    (xy_InvalidWords : PySem.W.hasDictIn K c_InvalidWords = true)
    (xc_InvalidWords : PySem.W.findIn K (.ref c_InvalidWords) "__class__" = some (some (.builtin "object.__class__")))
    (xr_InvalidWords : PySem.W.mroIn K c_InvalidWords (.type "object") = some true)
    (nX_InvalidWords : PySem.W.findIn K (.ref c_InvalidWords) "place" = some none)
    (aC_WrongSum : PySem.W.nsIn K mainGlobals "WrongSum" = some (some (.ref c_WrongSum)))
    (x_get : PySem.W.specialIn K (.builtin "object.__class__") "__get__" = some (some (.builtin "getset_descriptor.__get__")))
    (x_tk : PySem.W.takesIn K (.builtin "object.__class__") = some true)
    (Me_InvalidWords_InvalidWords : PySem.W.exmOne K (.ref c_InvalidWords) (.ref c_InvalidWords) = some true)
    (Kt_InvalidWords_WrongSum : PySem.W.kitOne K (.ref c_InvalidWords) (.ref c_WrongSum) = some false)
    (xf_InvalidWords_init_ : PySem.W.typeIn K (.ref a_InvalidWords_init_) = some (.type "function"))
    (l_InvalidWords_init_ : K.lookup a_InvalidWords_init_ = some ⟨oc_InvalidWords_init_, od_InvalidWords_init_, .func (PySem.W.fnOf "__init__" "InvalidWords.__init__" (defArgs s_InvalidWords_init_) (defBody s_InvalidWords_init_) (defScope s_InvalidWords_init_) .none kV_InvalidWords_init_ dc_InvalidWords_init_ pm_InvalidWords_init_ an_InvalidWords_init_ cd_InvalidWords_init_ ct_InvalidWords_init_), sl_InvalidWords_init_⟩)
    (e_InvalidWords_init_ : PySem.W.codeIn K cd_InvalidWords_init_ "InvalidWords.__init__" = true)
    (k_InvalidWords_init_ : PySem.W.keepIn K (.ref a_InvalidWords_init_) = true)
    (a_is_integer' : PySem.W.nsIn K mainGlobals "is_integer" = some (some (.ref a_is_integer)))
    (l_is_integer : K.lookup a_is_integer = some ⟨oc_is_integer, od_is_integer, .func (PySem.W.fnOf "is_integer" "is_integer" (defArgs s_is_integer) (defBody s_is_integer) (defScope s_is_integer) .none kV_is_integer dc_is_integer pm_is_integer an_is_integer cd_is_integer ct_is_integer), sl_is_integer⟩)
    (e_is_integer : PySem.W.codeIn K cd_is_integer "is_integer" = true)
    (k_is_integer : PySem.W.keepIn K (.ref a_is_integer) = true)
    (a_is_between' : PySem.W.nsIn K mainGlobals "is_between" = some (some (.ref a_is_between)))
    (l_is_between : K.lookup a_is_between = some ⟨oc_is_between, od_is_between, .func (PySem.W.fnOf "is_between" "is_between" (defArgs s_is_between) (defBody s_is_between) (defScope s_is_between) .none kV_is_between dc_is_between pm_is_between an_is_between cd_is_between ct_is_between), sl_is_between⟩)
    (e_is_between : PySem.W.codeIn K cd_is_between "is_between" = true)
    (k_is_between : PySem.W.keepIn K (.ref a_is_between) = true)
    (a_is_word' : PySem.W.nsIn K mainGlobals "is_word" = some (some (.ref a_is_word)))
    (l_is_word : K.lookup a_is_word = some ⟨oc_is_word, od_is_word, .func (PySem.W.fnOf "is_word" "is_word" (defArgs s_is_word) (defBody s_is_word) (defScope s_is_word) .none kV_is_word dc_is_word pm_is_word an_is_word cd_is_word ct_is_word), sl_is_word⟩)
    (e_is_word : PySem.W.codeIn K cd_is_word "is_word" = true)
    (k_is_word : PySem.W.keepIn K (.ref a_is_word) = true)
    (a_is_sequence' : PySem.W.nsIn K mainGlobals "is_sequence" = some (some (.ref a_is_sequence)))
    (l_is_sequence : K.lookup a_is_sequence = some ⟨oc_is_sequence, od_is_sequence, .func (PySem.W.fnOf "is_sequence" "is_sequence" (defArgs s_is_sequence) (defBody s_is_sequence) (defScope s_is_sequence) .none kV_is_sequence dc_is_sequence pm_is_sequence an_is_sequence cd_is_sequence ct_is_sequence), sl_is_sequence⟩)
    (e_is_sequence : PySem.W.codeIn K cd_is_sequence "is_sequence" = true)
    (k_is_sequence : PySem.W.keepIn K (.ref a_is_sequence) = true)
    (a_check_sum' : PySem.W.nsIn K mainGlobals "check_sum" = some (some (.ref a_check_sum)))
    (l_check_sum : K.lookup a_check_sum = some ⟨oc_check_sum, od_check_sum, .func (PySem.W.fnOf "check_sum" "check_sum" (defArgs s_check_sum) (defBody s_check_sum) (defScope s_check_sum) .none kV_check_sum dc_check_sum pm_check_sum an_check_sum cd_check_sum ct_check_sum), sl_check_sum⟩)
    (e_check_sum : PySem.W.codeIn K cd_check_sum "check_sum" = true)
    (k_check_sum : PySem.W.keepIn K (.ref a_check_sum) = true)
    (a__law_purse' : PySem.W.nsIn K mainGlobals "_law_purse" = some (some (.ref a__law_purse)))
    (l__law_purse : K.lookup a__law_purse = some ⟨oc__law_purse, od__law_purse, .func (PySem.W.fnOf "_law_purse" "_law_purse" (defArgs s__law_purse) (defBody s__law_purse) (defScope s__law_purse) .none kV__law_purse dc__law_purse pm__law_purse an__law_purse cd__law_purse ct__law_purse), sl__law_purse⟩)
    (e__law_purse : PySem.W.codeIn K cd__law_purse "_law_purse" = true)
    (k__law_purse : PySem.W.keepIn K (.ref a__law_purse) = true)
    (a__law_draw' : PySem.W.nsIn K mainGlobals "_law_draw" = some (some (.ref a__law_draw)))
    (l__law_draw : K.lookup a__law_draw = some ⟨oc__law_draw, od__law_draw, .func (PySem.W.fnOf "_law_draw" "_law_draw" (defArgs s__law_draw) (defBody s__law_draw) (defScope s__law_draw) .none kV__law_draw dc__law_draw pm__law_draw an__law_draw cd__law_draw ct__law_draw), sl__law_draw⟩)
    (e__law_draw : PySem.W.codeIn K cd__law_draw "_law_draw" = true)
    (k__law_draw : PySem.W.keepIn K (.ref a__law_draw) = true)
    (a__law_number' : PySem.W.nsIn K mainGlobals "_law_number" = some (some (.ref a__law_number)))
    (l__law_number : K.lookup a__law_number = some ⟨oc__law_number, od__law_number, .func (PySem.W.fnOf "_law_number" "_law_number" (defArgs s__law_number) (defBody s__law_number) (defScope s__law_number) .none kV__law_number dc__law_number pm__law_number an__law_number cd__law_number ct__law_number), sl__law_number⟩)
    (e__law_number : PySem.W.codeIn K cd__law_number "_law_number" = true)
    (k__law_number : PySem.W.keepIn K (.ref a__law_number) = true)
    (a__law_is' : PySem.W.nsIn K mainGlobals "_law_is" = some (some (.ref a__law_is)))
    (l__law_is : K.lookup a__law_is = some ⟨oc__law_is, od__law_is, .func (PySem.W.fnOf "_law_is" "_law_is" (defArgs s__law_is) (defBody s__law_is) (defScope s__law_is) .none kV__law_is dc__law_is pm__law_is an__law_is cd__law_is ct__law_is), sl__law_is⟩)
    (e__law_is : PySem.W.codeIn K cd__law_is "_law_is" = true)
    (k__law_is : PySem.W.keepIn K (.ref a__law_is) = true)
    (a__law_word' : PySem.W.nsIn K mainGlobals "_law_word" = some (some (.ref a__law_word)))
    (l__law_word : K.lookup a__law_word = some ⟨oc__law_word, od__law_word, .func (PySem.W.fnOf "_law_word" "_law_word" (defArgs s__law_word) (defBody s__law_word) (defScope s__law_word) .none kV__law_word dc__law_word pm__law_word an__law_word cd__law_word ct__law_word), sl__law_word⟩)
    (e__law_word : PySem.W.codeIn K cd__law_word "_law_word" = true)
    (k__law_word : PySem.W.keepIn K (.ref a__law_word) = true)
    (a__law_is_word' : PySem.W.nsIn K mainGlobals "_law_is_word" = some (some (.ref a__law_is_word)))
    (l__law_is_word : K.lookup a__law_is_word = some ⟨oc__law_is_word, od__law_is_word, .func (PySem.W.fnOf "_law_is_word" "_law_is_word" (defArgs s__law_is_word) (defBody s__law_is_word) (defScope s__law_is_word) .none kV__law_is_word dc__law_is_word pm__law_is_word an__law_is_word cd__law_is_word ct__law_is_word), sl__law_is_word⟩)
    (e__law_is_word : PySem.W.codeIn K cd__law_is_word "_law_is_word" = true)
    (k__law_is_word : PySem.W.keepIn K (.ref a__law_is_word) = true)
    (a__law_sum' : PySem.W.nsIn K mainGlobals "_law_sum" = some (some (.ref a__law_sum)))
    (l__law_sum : K.lookup a__law_sum = some ⟨oc__law_sum, od__law_sum, .func (PySem.W.fnOf "_law_sum" "_law_sum" (defArgs s__law_sum) (defBody s__law_sum) (defScope s__law_sum) .none kV__law_sum dc__law_sum pm__law_sum an__law_sum cd__law_sum ct__law_sum), sl__law_sum⟩)
    (e__law_sum : PySem.W.codeIn K cd__law_sum "_law_sum" = true)
    (k__law_sum : PySem.W.keepIn K (.ref a__law_sum) = true)
    (a__law_form' : PySem.W.nsIn K mainGlobals "_law_form" = some (some (.ref a__law_form)))
    (l__law_form : K.lookup a__law_form = some ⟨oc__law_form, od__law_form, .func (PySem.W.fnOf "_law_form" "_law_form" (defArgs s__law_form) (defBody s__law_form) (defScope s__law_form) .none kV__law_form dc__law_form pm__law_form an__law_form cd__law_form ct__law_form), sl__law_form⟩)
    (e__law_form : PySem.W.codeIn K cd__law_form "_law_form" = true)
    (k__law_form : PySem.W.keepIn K (.ref a__law_form) = true)
    (a__law_sequence' : PySem.W.nsIn K mainGlobals "_law_sequence" = some (some (.ref a__law_sequence)))
    (l__law_sequence : K.lookup a__law_sequence = some ⟨oc__law_sequence, od__law_sequence, .func (PySem.W.fnOf "_law_sequence" "_law_sequence" (defArgs s__law_sequence) (defBody s__law_sequence) (defScope s__law_sequence) .none kV__law_sequence dc__law_sequence pm__law_sequence an__law_sequence cd__law_sequence ct__law_sequence), sl__law_sequence⟩)
    (e__law_sequence : PySem.W.codeIn K cd__law_sequence "_law_sequence" = true)
    (k__law_sequence : PySem.W.keepIn K (.ref a__law_sequence) = true)
    (a__law_odd' : PySem.W.nsIn K mainGlobals "_law_odd" = some (some (.ref a__law_odd)))
    (l__law_odd : K.lookup a__law_odd = some ⟨oc__law_odd, od__law_odd, .func (PySem.W.fnOf "_law_odd" "_law_odd" (defArgs s__law_odd) (defBody s__law_odd) (defScope s__law_odd) .none kV__law_odd dc__law_odd pm__law_odd an__law_odd cd__law_odd ct__law_odd), sl__law_odd⟩)
    (e__law_odd : PySem.W.codeIn K cd__law_odd "_law_odd" = true)
    (k__law_odd : PySem.W.keepIn K (.ref a__law_odd) = true)
    (a__law_refusal' : PySem.W.nsIn K mainGlobals "_law_refusal" = some (some (.ref a__law_refusal)))
    (l__law_refusal : K.lookup a__law_refusal = some ⟨oc__law_refusal, od__law_refusal, .func (PySem.W.fnOf "_law_refusal" "_law_refusal" (defArgs s__law_refusal) (defBody s__law_refusal) (defScope s__law_refusal) .none kV__law_refusal dc__law_refusal pm__law_refusal an__law_refusal cd__law_refusal ct__law_refusal), sl__law_refusal⟩)
    (e__law_refusal : PySem.W.codeIn K cd__law_refusal "_law_refusal" = true)
    (k__law_refusal : PySem.W.keepIn K (.ref a__law_refusal) = true)
    (a__law_refuses' : PySem.W.nsIn K mainGlobals "_law_refuses" = some (some (.ref a__law_refuses)))
    (l__law_refuses : K.lookup a__law_refuses = some ⟨oc__law_refuses, od__law_refuses, .func (PySem.W.fnOf "_law_refuses" "_law_refuses" (defArgs s__law_refuses) (defBody s__law_refuses) (defScope s__law_refuses) .none kV__law_refuses dc__law_refuses pm__law_refuses an__law_refuses cd__law_refuses ct__law_refuses), sl__law_refuses⟩)
    (e__law_refuses : PySem.W.codeIn K cd__law_refuses "_law_refuses" = true)
    (k__law_refuses : PySem.W.keepIn K (.ref a__law_refuses) = true)
    (a__law_changes' : PySem.W.nsIn K mainGlobals "_law_changes" = some (some (.ref a__law_changes)))
    (l__law_changes : K.lookup a__law_changes = some ⟨oc__law_changes, od__law_changes, .func (PySem.W.fnOf "_law_changes" "_law_changes" (defArgs s__law_changes) (defBody s__law_changes) (defScope s__law_changes) .none kV__law_changes dc__law_changes pm__law_changes an__law_changes cd__law_changes ct__law_changes), sl__law_changes⟩)
    (e__law_changes : PySem.W.codeIn K cd__law_changes "_law_changes" = true)
    (k__law_changes : PySem.W.keepIn K (.ref a__law_changes) = true)
    (a_law' : PySem.W.nsIn K mainGlobals "law" = some (some (.ref a_law)))
    (l_law : K.lookup a_law = some ⟨oc_law, od_law, .func (PySem.W.fnOf "law" "law" (defArgs s_law) (defBody s_law) (defScope s_law) .none kV_law dc_law pm_law an_law cd_law ct_law), sl_law⟩)
    (e_law : PySem.W.codeIn K cd_law "law" = true)
    (k_law : PySem.W.keepIn K (.ref a_law) = true)
    (z_bool : PySem.W.nsIn K mainGlobals "bool" = some none)
    (z_enumerate : PySem.W.nsIn K mainGlobals "enumerate" = some none)
    (z_int : PySem.W.nsIn K mainGlobals "int" = some none)
    (z_isinstance : PySem.W.nsIn K mainGlobals "isinstance" = some none)
    (z_len : PySem.W.nsIn K mainGlobals "len" = some none)
    (z_list : PySem.W.nsIn K mainGlobals "list" = some none)
    (z_max : PySem.W.nsIn K mainGlobals "max" = some none)
    (z_min : PySem.W.nsIn K mainGlobals "min" = some none)
    (z_range : PySem.W.nsIn K mainGlobals "range" = some none)
    (z_tuple : PySem.W.nsIn K mainGlobals "tuple" = some none)
    (q_PRIME : PySem.W.nsIn K mainGlobals "PRIME" = some (some u_PRIME))
    (xm'_InvalidWords : PySem.HandSPX.refsVE xm_InvalidWords = true)
    (w_PRIME : RelV (.int 65537) u_PRIME)
    : ∃ fd : FuncData, (∀ (s : Shared) (v : Value), BindsTo s fd ⟨[v], []⟩ [("script", v)]) ∧ ∀ base : Heap, K.In base → base.Ns mainGlobals mg → FnOk l.prog w K mg base CX0 7 fa fd ["script"] (sp_law K) := by
  have e : fa = a_law := by
    have e0 := hfa.symm.trans (PySem.W.mg_of X G a_law')
    cases e0
    rfl
  rw [e]
  have F_InvalidWords_init_ := fun_mk (st := s_InvalidWords_init_) l_InvalidWords_init_ e_InvalidWords_init_ k_InvalidWords_init_
  have F_is_integer := fun_mk (st := s_is_integer) l_is_integer e_is_integer k_is_integer
  have F_is_between := fun_mk (st := s_is_between) l_is_between e_is_between k_is_between
  have F_is_word := fun_mk (st := s_is_word) l_is_word e_is_word k_is_word
  have F_is_sequence := fun_mk (st := s_is_sequence) l_is_sequence e_is_sequence k_is_sequence
  have F_check_sum := fun_mk (st := s_check_sum) l_check_sum e_check_sum k_check_sum
  have F__law_purse := fun_mk (st := s__law_purse) l__law_purse e__law_purse k__law_purse
  have F__law_draw := fun_mk (st := s__law_draw) l__law_draw e__law_draw k__law_draw
  have F__law_number := fun_mk (st := s__law_number) l__law_number e__law_number k__law_number
  have F__law_is := fun_mk (st := s__law_is) l__law_is e__law_is k__law_is
  have F__law_word := fun_mk (st := s__law_word) l__law_word e__law_word k__law_word
  have F__law_is_word := fun_mk (st := s__law_is_word) l__law_is_word e__law_is_word k__law_is_word
  have F__law_sum := fun_mk (st := s__law_sum) l__law_sum e__law_sum k__law_sum
  have F__law_form := fun_mk (st := s__law_form) l__law_form e__law_form k__law_form
  have F__law_sequence := fun_mk (st := s__law_sequence) l__law_sequence e__law_sequence k__law_sequence
  have F__law_odd := fun_mk (st := s__law_odd) l__law_odd e__law_odd k__law_odd
  have F__law_refusal := fun_mk (st := s__law_refusal) l__law_refusal e__law_refusal k__law_refusal
  have F__law_refuses := fun_mk (st := s__law_refuses) l__law_refuses e__law_refuses k__law_refuses
  have F__law_changes := fun_mk (st := s__law_changes) l__law_changes e__law_changes k__law_changes
  have F_law := fun_mk (st := s_law) l_law e_law k_law
  let T : Txt K mg := {
    c_LossError := c_LossError,
    X_LossError := ⟨PySem.W.mg_of X G aC_LossError⟩,
    c_InvalidWords := c_InvalidWords,
    X_InvalidWords := xcls_mk (PySem.W.mg_of X G aC_InvalidWords) xl_InvalidWords xm'_InvalidWords sa_InvalidWords xx_InvalidWords xt_InvalidWords xk_InvalidWords xi_InvalidWords xf_InvalidWords_init_ xg_InvalidWords xh_InvalidWords xy_InvalidWords xc_InvalidWords x_get x_tk xr_InvalidWords,
    nX_InvalidWords := nX_InvalidWords,
    c_WrongSum := c_WrongSum,
    X_WrongSum := ⟨PySem.W.mg_of X G aC_WrongSum⟩,
    Me_InvalidWords_InvalidWords := Me_InvalidWords_InvalidWords,
    Kt_InvalidWords_WrongSum := Kt_InvalidWords_WrongSum,
    a_InvalidWords_init_ := a_InvalidWords_init_,
    fd_InvalidWords_init_ := PySem.W.fnOf "__init__" "InvalidWords.__init__" (defArgs s_InvalidWords_init_) (defBody s_InvalidWords_init_) (defScope s_InvalidWords_init_) .none kV_InvalidWords_init_ dc_InvalidWords_init_ pm_InvalidWords_init_ an_InvalidWords_init_ cd_InvalidWords_init_ ct_InvalidWords_init_,
    F_InvalidWords_init_ := F_InvalidWords_init_,
    B_InvalidWords_init_ := F_InvalidWords_init_.binds (ps := ["self", "place"]) fun _ _ _ _ _ _ us hl => match us, hl with | [_, _], _ => rfl,
    a_is_integer := a_is_integer,
    fd_is_integer := PySem.W.fnOf "is_integer" "is_integer" (defArgs s_is_integer) (defBody s_is_integer) (defScope s_is_integer) .none kV_is_integer dc_is_integer pm_is_integer an_is_integer cd_is_integer ct_is_integer,
    F_is_integer := F_is_integer,
    B_is_integer := F_is_integer.binds (ps := ["value"]) fun _ _ _ _ _ _ us hl => match us, hl with | [_], _ => rfl,
    g_is_integer := PySem.W.mg_of X G a_is_integer',
    a_is_between := a_is_between,
    fd_is_between := PySem.W.fnOf "is_between" "is_between" (defArgs s_is_between) (defBody s_is_between) (defScope s_is_between) .none kV_is_between dc_is_between pm_is_between an_is_between cd_is_between ct_is_between,
    F_is_between := F_is_between,
    B_is_between := F_is_between.binds (ps := ["value", "low", "high"]) fun _ _ _ _ _ _ us hl => match us, hl with | [_, _, _], _ => rfl,
    g_is_between := PySem.W.mg_of X G a_is_between',
    a_is_word := a_is_word,
    fd_is_word := PySem.W.fnOf "is_word" "is_word" (defArgs s_is_word) (defBody s_is_word) (defScope s_is_word) .none kV_is_word dc_is_word pm_is_word an_is_word cd_is_word ct_is_word,
    F_is_word := F_is_word,
    B_is_word := F_is_word.binds (ps := ["value"]) fun _ _ _ _ _ _ us hl => match us, hl with | [_], _ => rfl,
    g_is_word := PySem.W.mg_of X G a_is_word',
    a_is_sequence := a_is_sequence,
    fd_is_sequence := PySem.W.fnOf "is_sequence" "is_sequence" (defArgs s_is_sequence) (defBody s_is_sequence) (defScope s_is_sequence) .none kV_is_sequence dc_is_sequence pm_is_sequence an_is_sequence cd_is_sequence ct_is_sequence,
    F_is_sequence := F_is_sequence,
    B_is_sequence := F_is_sequence.binds (ps := ["value"]) fun _ _ _ _ _ _ us hl => match us, hl with | [_], _ => rfl,
    g_is_sequence := PySem.W.mg_of X G a_is_sequence',
    a_check_sum := a_check_sum,
    fd_check_sum := PySem.W.fnOf "check_sum" "check_sum" (defArgs s_check_sum) (defBody s_check_sum) (defScope s_check_sum) .none kV_check_sum dc_check_sum pm_check_sum an_check_sum cd_check_sum ct_check_sum,
    F_check_sum := F_check_sum,
    B_check_sum := F_check_sum.binds (ps := ["words"]) fun _ _ _ _ _ _ us hl => match us, hl with | [_], _ => rfl,
    g_check_sum := PySem.W.mg_of X G a_check_sum',
    a__law_purse := a__law_purse,
    fd__law_purse := PySem.W.fnOf "_law_purse" "_law_purse" (defArgs s__law_purse) (defBody s__law_purse) (defScope s__law_purse) .none kV__law_purse dc__law_purse pm__law_purse an__law_purse cd__law_purse ct__law_purse,
    F__law_purse := F__law_purse,
    B__law_purse := F__law_purse.binds (ps := ["script"]) fun _ _ _ _ _ _ us hl => match us, hl with | [_], _ => rfl,
    g__law_purse := PySem.W.mg_of X G a__law_purse',
    a__law_draw := a__law_draw,
    fd__law_draw := PySem.W.fnOf "_law_draw" "_law_draw" (defArgs s__law_draw) (defBody s__law_draw) (defScope s__law_draw) .none kV__law_draw dc__law_draw pm__law_draw an__law_draw cd__law_draw ct__law_draw,
    F__law_draw := F__law_draw,
    B__law_draw := F__law_draw.binds (ps := ["purse", "many"]) fun _ _ _ _ _ _ us hl => match us, hl with | [_, _], _ => rfl,
    g__law_draw := PySem.W.mg_of X G a__law_draw',
    a__law_number := a__law_number,
    fd__law_number := PySem.W.fnOf "_law_number" "_law_number" (defArgs s__law_number) (defBody s__law_number) (defScope s__law_number) .none kV__law_number dc__law_number pm__law_number an__law_number cd__law_number ct__law_number,
    F__law_number := F__law_number,
    B__law_number := F__law_number.binds (ps := ["purse", "most"]) fun _ _ _ _ _ _ us hl => match us, hl with | [_, _], _ => rfl,
    g__law_number := PySem.W.mg_of X G a__law_number',
    a__law_is := a__law_is,
    fd__law_is := PySem.W.fnOf "_law_is" "_law_is" (defArgs s__law_is) (defBody s__law_is) (defScope s__law_is) .none kV__law_is dc__law_is pm__law_is an__law_is cd__law_is ct__law_is,
    F__law_is := F__law_is,
    B__law_is := F__law_is.binds (ps := ["actual", "wanted"]) fun _ _ _ _ _ _ us hl => match us, hl with | [_, _], _ => rfl,
    g__law_is := PySem.W.mg_of X G a__law_is',
    a__law_word := a__law_word,
    fd__law_word := PySem.W.fnOf "_law_word" "_law_word" (defArgs s__law_word) (defBody s__law_word) (defScope s__law_word) .none kV__law_word dc__law_word pm__law_word an__law_word cd__law_word ct__law_word,
    F__law_word := F__law_word,
    B__law_word := F__law_word.binds (ps := ["purse"]) fun _ _ _ _ _ _ us hl => match us, hl with | [_], _ => rfl,
    g__law_word := PySem.W.mg_of X G a__law_word',
    a__law_is_word := a__law_is_word,
    fd__law_is_word := PySem.W.fnOf "_law_is_word" "_law_is_word" (defArgs s__law_is_word) (defBody s__law_is_word) (defScope s__law_is_word) .none kV__law_is_word dc__law_is_word pm__law_is_word an__law_is_word cd__law_is_word ct__law_is_word,
    F__law_is_word := F__law_is_word,
    B__law_is_word := F__law_is_word.binds (ps := ["value"]) fun _ _ _ _ _ _ us hl => match us, hl with | [_], _ => rfl,
    g__law_is_word := PySem.W.mg_of X G a__law_is_word',
    a__law_sum := a__law_sum,
    fd__law_sum := PySem.W.fnOf "_law_sum" "_law_sum" (defArgs s__law_sum) (defBody s__law_sum) (defScope s__law_sum) .none kV__law_sum dc__law_sum pm__law_sum an__law_sum cd__law_sum ct__law_sum,
    F__law_sum := F__law_sum,
    B__law_sum := F__law_sum.binds (ps := ["words"]) fun _ _ _ _ _ _ us hl => match us, hl with | [_], _ => rfl,
    g__law_sum := PySem.W.mg_of X G a__law_sum',
    a__law_form := a__law_form,
    fd__law_form := PySem.W.fnOf "_law_form" "_law_form" (defArgs s__law_form) (defBody s__law_form) (defScope s__law_form) .none kV__law_form dc__law_form pm__law_form an__law_form cd__law_form ct__law_form,
    F__law_form := F__law_form,
    B__law_form := F__law_form.binds (ps := ["way", "values"]) fun _ _ _ _ _ _ us hl => match us, hl with | [_, _], _ => rfl,
    g__law_form := PySem.W.mg_of X G a__law_form',
    a__law_sequence := a__law_sequence,
    fd__law_sequence := PySem.W.fnOf "_law_sequence" "_law_sequence" (defArgs s__law_sequence) (defBody s__law_sequence) (defScope s__law_sequence) .none kV__law_sequence dc__law_sequence pm__law_sequence an__law_sequence cd__law_sequence ct__law_sequence,
    F__law_sequence := F__law_sequence,
    B__law_sequence := F__law_sequence.binds (ps := ["purse"]) fun _ _ _ _ _ _ us hl => match us, hl with | [_], _ => rfl,
    g__law_sequence := PySem.W.mg_of X G a__law_sequence',
    a__law_odd := a__law_odd,
    fd__law_odd := PySem.W.fnOf "_law_odd" "_law_odd" (defArgs s__law_odd) (defBody s__law_odd) (defScope s__law_odd) .none kV__law_odd dc__law_odd pm__law_odd an__law_odd cd__law_odd ct__law_odd,
    F__law_odd := F__law_odd,
    B__law_odd := F__law_odd.binds (ps := ["purse"]) fun _ _ _ _ _ _ us hl => match us, hl with | [_], _ => rfl,
    g__law_odd := PySem.W.mg_of X G a__law_odd',
    a__law_refusal := a__law_refusal,
    fd__law_refusal := PySem.W.fnOf "_law_refusal" "_law_refusal" (defArgs s__law_refusal) (defBody s__law_refusal) (defScope s__law_refusal) .none kV__law_refusal dc__law_refusal pm__law_refusal an__law_refusal cd__law_refusal ct__law_refusal,
    F__law_refusal := F__law_refusal,
    B__law_refusal := F__law_refusal.binds (ps := ["words"]) fun _ _ _ _ _ _ us hl => match us, hl with | [_], _ => rfl,
    g__law_refusal := PySem.W.mg_of X G a__law_refusal',
    a__law_refuses := a__law_refuses,
    fd__law_refuses := PySem.W.fnOf "_law_refuses" "_law_refuses" (defArgs s__law_refuses) (defBody s__law_refuses) (defScope s__law_refuses) .none kV__law_refuses dc__law_refuses pm__law_refuses an__law_refuses cd__law_refuses ct__law_refuses,
    F__law_refuses := F__law_refuses,
    B__law_refuses := F__law_refuses.binds (ps := ["purse", "words"]) fun _ _ _ _ _ _ us hl => match us, hl with | [_, _], _ => rfl,
    g__law_refuses := PySem.W.mg_of X G a__law_refuses',
    a__law_changes := a__law_changes,
    fd__law_changes := PySem.W.fnOf "_law_changes" "_law_changes" (defArgs s__law_changes) (defBody s__law_changes) (defScope s__law_changes) .none kV__law_changes dc__law_changes pm__law_changes an__law_changes cd__law_changes ct__law_changes,
    F__law_changes := F__law_changes,
    B__law_changes := F__law_changes.binds (ps := ["purse", "words", "amount"]) fun _ _ _ _ _ _ us hl => match us, hl with | [_, _, _], _ => rfl,
    g__law_changes := PySem.W.mg_of X G a__law_changes',
    a_law := a_law,
    fd_law := PySem.W.fnOf "law" "law" (defArgs s_law) (defBody s_law) (defScope s_law) .none kV_law dc_law pm_law an_law cd_law ct_law,
    F_law := F_law,
    B_law := F_law.binds (ps := ["script"]) fun _ _ _ _ _ _ us hl => match us, hl with | [_], _ => rfl,
    g_law := PySem.W.mg_of X G a_law',
    b_bool := PySem.W.mg_none_of X G z_bool,
    b_enumerate := PySem.W.mg_none_of X G z_enumerate,
    b_int := PySem.W.mg_none_of X G z_int,
    b_isinstance := PySem.W.mg_none_of X G z_isinstance,
    b_len := PySem.W.mg_none_of X G z_len,
    b_list := PySem.W.mg_none_of X G z_list,
    b_max := PySem.W.mg_none_of X G z_max,
    b_min := PySem.W.mg_none_of X G z_min,
    b_range := PySem.W.mg_none_of X G z_range,
    b_tuple := PySem.W.mg_none_of X G z_tuple,
    u_PRIME := u_PRIME,
    g_PRIME := PySem.W.mg_of X G q_PRIME,
    r_PRIME := w_PRIME }
  exact ⟨T.fd_law, fun s v => .of_eq rfl, fun base _ _ => ok_law (P := l.prog) (w := w) (base := base) T⟩
theorem walk {l : PySem.W.OpenLaw} {q : Program} {loose : List Str} {XP : (Str → Option Value) → Heap → Prop} {YP : World → Heap → Prop} {d : DefRec} {K : Params → PySem.W.Frag} (hn : l.most = some 63) (hdf : d.params.defaults = [])
    (hY : ∀ (w : World) (h : Heap), YP w h → (K w.params).In h)
    (F : ∀ (w : World) (mg : Str → Option Value) (fa : Addr) (h : Heap), (K w.params).In h → h.Ns mainGlobals mg → mg d.name = some (.ref fa) →
      ∃ fd : FuncData, (∀ (s : Shared) (u : Value), BindsTo s fd ⟨[u], []⟩ [("script", u)]) ∧ ∀ base : Heap, (K w.params).In base → base.Ns mainGlobals mg → FnOk l.prog w (K w.params) mg base CX0 7 fa fd ["script"] (sp_law (K w.params))) :
    PySem.W.WalkO q loose XP YP l.row.toRowW d [] (fun f vs => PySem.call f vs) :=
  L2.walk_of (CX := fun _ => CX0) (n := 63) (k := 7) (x := "script") (sp := fun w => sp_law (K w.params)) hn (by decide) hdf ⟨rfl, by decide, by decide⟩ hY F (fun _ _ a ns hl _ hS => ⟨a, ns, rfl, hS, hl, fun _ => rfl⟩) fun _ _ _ _ _ z => z
end My

open PySem PySem.W PyProof.Rows in
set_option maxRecDepth 100000 in
set_option maxHeartbeats 0 in
theorem PySem.Challenge.cw_lossway_k03_sum_tells_changes_holds : PySem.Challenge.rw_lossway_k03_sum_tells_changes.Holds := by
  w_on; o_law; k_head; (case hw => w_witness2)
  k_fill
  refine My.walk (l := PySem.Challenge.rw_lossway_k03_sum_tells_changes) rfl rfl (fun w h Y => PySem.W.kIn_of Y) ?F
  case F =>
    intro w mg fa h KX G hmg
    refine' My.all_mk KX G hmg ?aC_LossError ?aC_InvalidWords ?xl_InvalidWords ?sa_InvalidWords ?xx_InvalidWords ?xt_InvalidWords ?xk_InvalidWords ?xi_InvalidWords ?xg_InvalidWords ?xh_InvalidWords ?xy_InvalidWords ?xc_InvalidWords ?xr_InvalidWords ?nX_InvalidWords ?aC_WrongSum ?x_get ?x_tk ?Me_InvalidWords_InvalidWords ?Kt_InvalidWords_WrongSum ?xf_InvalidWords_init_ ?l_InvalidWords_init_ ?e_InvalidWords_init_ ?k_InvalidWords_init_ ?a_is_integer_ ?l_is_integer ?e_is_integer ?k_is_integer ?a_is_between_ ?l_is_between ?e_is_between ?k_is_between ?a_is_word_ ?l_is_word ?e_is_word ?k_is_word ?a_is_sequence_ ?l_is_sequence ?e_is_sequence ?k_is_sequence ?a_check_sum_ ?l_check_sum ?e_check_sum ?k_check_sum ?a__law_purse_ ?l__law_purse ?e__law_purse ?k__law_purse ?a__law_draw_ ?l__law_draw ?e__law_draw ?k__law_draw ?a__law_number_ ?l__law_number ?e__law_number ?k__law_number ?a__law_is_ ?l__law_is ?e__law_is ?k__law_is ?a__law_word_ ?l__law_word ?e__law_word ?k__law_word ?a__law_is_word_ ?l__law_is_word ?e__law_is_word ?k__law_is_word ?a__law_sum_ ?l__law_sum ?e__law_sum ?k__law_sum ?a__law_form_ ?l__law_form ?e__law_form ?k__law_form ?a__law_sequence_ ?l__law_sequence ?e__law_sequence ?k__law_sequence ?a__law_odd_ ?l__law_odd ?e__law_odd ?k__law_odd ?a__law_refusal_ ?l__law_refusal ?e__law_refusal ?k__law_refusal ?a__law_refuses_ ?l__law_refuses ?e__law_refuses ?k__law_refuses ?a__law_changes_ ?l__law_changes ?e__law_changes ?k__law_changes ?a_law_ ?l_law ?e_law ?k_law ?z_bool ?z_enumerate ?z_int ?z_isinstance ?z_len ?z_list ?z_max ?z_min ?z_range ?z_tuple ?q_PRIME ?xm__InvalidWords ?w_PRIME
    (case aC_LossError => k_is)
    (case aC_InvalidWords => k_is)
    (case xl_InvalidWords => k_is)
    (case sa_InvalidWords => k_is)
    (case xx_InvalidWords => k_is)
    (case xt_InvalidWords => k_is)
    (case xk_InvalidWords => k_is)
    (case xi_InvalidWords => k_is)
    (case xg_InvalidWords => k_is)
    (case xh_InvalidWords => k_is)
    (case xy_InvalidWords => k_is)
    (case xc_InvalidWords => k_is)
    (case xr_InvalidWords => k_is)
    (case nX_InvalidWords => k_is)
    (case aC_WrongSum => k_is)
    (case x_get => k_is)
    (case x_tk => k_is)
    (case Me_InvalidWords_InvalidWords => kts_exm)
    (case Kt_InvalidWords_WrongSum => kit_is)
    (case xf_InvalidWords_init_ => k_is)
    (case l_InvalidWords_init_ => k_is)
    (case e_InvalidWords_init_ => k_is)
    (case k_InvalidWords_init_ => k_is)
    (case a_is_integer_ => k_is)
    (case l_is_integer => k_is)
    (case e_is_integer => k_is)
    (case k_is_integer => k_is)
    (case a_is_between_ => k_is)
    (case l_is_between => k_is)
    (case e_is_between => k_is)
    (case k_is_between => k_is)
    (case a_is_word_ => k_is)
    (case l_is_word => k_is)
    (case e_is_word => k_is)
    (case k_is_word => k_is)
    (case a_is_sequence_ => k_is)
    (case l_is_sequence => k_is)
    (case e_is_sequence => k_is)
    (case k_is_sequence => k_is)
    (case a_check_sum_ => k_is)
    (case l_check_sum => k_is)
    (case e_check_sum => k_is)
    (case k_check_sum => k_is)
    (case a__law_purse_ => k_is)
    (case l__law_purse => k_is)
    (case e__law_purse => k_is)
    (case k__law_purse => k_is)
    (case a__law_draw_ => k_is)
    (case l__law_draw => k_is)
    (case e__law_draw => k_is)
    (case k__law_draw => k_is)
    (case a__law_number_ => k_is)
    (case l__law_number => k_is)
    (case e__law_number => k_is)
    (case k__law_number => k_is)
    (case a__law_is_ => k_is)
    (case l__law_is => k_is)
    (case e__law_is => k_is)
    (case k__law_is => k_is)
    (case a__law_word_ => k_is)
    (case l__law_word => k_is)
    (case e__law_word => k_is)
    (case k__law_word => k_is)
    (case a__law_is_word_ => k_is)
    (case l__law_is_word => k_is)
    (case e__law_is_word => k_is)
    (case k__law_is_word => k_is)
    (case a__law_sum_ => k_is)
    (case l__law_sum => k_is)
    (case e__law_sum => k_is)
    (case k__law_sum => k_is)
    (case a__law_form_ => k_is)
    (case l__law_form => k_is)
    (case e__law_form => k_is)
    (case k__law_form => k_is)
    (case a__law_sequence_ => k_is)
    (case l__law_sequence => k_is)
    (case e__law_sequence => k_is)
    (case k__law_sequence => k_is)
    (case a__law_odd_ => k_is)
    (case l__law_odd => k_is)
    (case e__law_odd => k_is)
    (case k__law_odd => k_is)
    (case a__law_refusal_ => k_is)
    (case l__law_refusal => k_is)
    (case e__law_refusal => k_is)
    (case k__law_refusal => k_is)
    (case a__law_refuses_ => k_is)
    (case l__law_refuses => k_is)
    (case e__law_refuses => k_is)
    (case k__law_refuses => k_is)
    (case a__law_changes_ => k_is)
    (case l__law_changes => k_is)
    (case e__law_changes => k_is)
    (case k__law_changes => k_is)
    (case a_law_ => k_is)
    (case l_law => k_is)
    (case e_law => k_is)
    (case k_law => k_is)
    (case z_bool => k_is)
    (case z_enumerate => k_is)
    (case z_int => k_is)
    (case z_isinstance => k_is)
    (case z_len => k_is)
    (case z_list => k_is)
    (case z_max => k_is)
    (case z_min => k_is)
    (case z_range => k_is)
    (case z_tuple => k_is)
    (case q_PRIME => k_is)
    (case xm__InvalidWords => decide +kernel)
    (case w_PRIME => exact ⟨_, rfl⟩)
