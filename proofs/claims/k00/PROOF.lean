import PyProof.Rows.All
import Wide.All
import OpenK.AllK
import Wide.FinOn
import HandS.ForMost
import HandS.IsInst
import HandS.ClsMeth
import HandS.Codes
import PySem.Challenge.RW_lossway_k00_ring_wraps
set_option Elab.async false
set_option maxRecDepth 100000
namespace My
open PySem L2
set_option linter.all false

/-! ### an own `in` -/
section
variable {X : Cx} {CX : CXT} {k : Nat} {C g : Addr} {fd : FuncData} {ps : List Str} {sp : Sp} {E : XK}
def rOwnIn (C : Addr) (m : Bool → Bool) (sp : Sp) (E : XK) : R2 := fun x y H Q => ∃ a dx fs, y = .ref a ∧ H a = some (.ins C dx fs) ∧ sp [.ref a, x] H (fun v H' => ∃ b, v = .bl b ∧ Q (.bl (m b)) H') E
theorem op_notInOwn (mm : Meth X.K C "__contains__" g) (F : FnOk X.prog X.w X.K X.mg X.base CX k g fd ps sp) (hr : Room k X.A) (hb : Binds X.K fd ps []) (hx : Passes CX X E) : OpR X (compareOp .NotIn) (rOwnIn C not sp E) := by
  intro pins s σ H x y v u Q I rx ry h
  obtain ⟨a, dx, fs, rfl, ha, q⟩ := h
  cases (show u = Value.ref a from ry)
  obtain ⟨mA, O, _⟩ := ins_get I.hok ha
  obtain ⟨od, J, _⟩ := O.look
  obtain ⟨m, hF⟩ := I.fr
  refine PySem.W.notIn_K hF I.ok.mod.kin J mm.at_ mm.fn ?_
  refine wpAny_mono (run_fn (us := [.ref a, v]) (vs := [.ref a, x]) (ds := []) (dvs := []) F hr hb .nil hx I (.cons rfl (.cons rx .nil)) q) (fun w s' z => ?_) fun _ _ x => x
  obtain ⟨z', H', I', rz, b, eb, qz⟩ := z
  subst eb
  cases (show w = Value.bool b from rz)
  exact wpAny_truthy_bool ⟨.bl (!b), H', I', rfl, qz⟩
theorem op_inOwn (mm : Meth X.K C "__contains__" g) (F : FnOk X.prog X.w X.K X.mg X.base CX k g fd ps sp) (hr : Room k X.A) (hb : Binds X.K fd ps []) (hx : Passes CX X E) : OpR X (compareOp .In) (rOwnIn C id sp E) := by
  intro pins s σ H x y v u Q I rx ry h
  obtain ⟨a, dx, fs, rfl, ha, q⟩ := h
  cases (show u = Value.ref a from ry)
  obtain ⟨mA, O, _⟩ := ins_get I.hok ha
  obtain ⟨od, J, _⟩ := O.look
  obtain ⟨m, hF⟩ := I.fr
  refine PySem.W.in_K hF I.ok.mod.kin J mm.at_ mm.fn ?_
  refine wpAny_mono (run_fn (us := [.ref a, v]) (vs := [.ref a, x]) (ds := []) (dvs := []) F hr hb .nil hx I (.cons rfl (.cons rx .nil)) q) (fun w s' z => ?_) fun _ _ x => x
  obtain ⟨z', H', I', rz, b, eb, qz⟩ := z
  subst eb
  cases (show w = Value.bool b from rz)
  exact wpAny_truthy_bool ⟨.bl b, H', I', rfl, qz⟩
end

/-! ### heaps -/
/-- all that was tracked stands, but what is at a -/
def SameX (a : Addr) (H H' : Hp) : Prop := ∀ b o, b ≠ a → H b = some o → H' b = some o
theorem SameX.refl {a : Addr} {H : Hp} : SameX a H H := fun _ _ _ h => h
theorem SameX.trans {a : Addr} {H H1 H2 : Hp} (x : SameX a H H1) (y : SameX a H1 H2) : SameX a H H2 := fun b o n h => y b o n (x b o n h)
theorem SameX.upd {a : Addr} {H : Hp} {o : HO} : SameX a H (L2.upd H a o) := fun b _ n h => by
  rw [upd_ne n]
  exact h
theorem SameX.upd' {a : Addr} {H H1 : Hp} {o : HO} (x : SameX a H H1) : SameX a H (L2.upd H1 a o) := x.trans .upd
theorem SameX.of {a : Addr} {H H1 : Hp} (x : Same H H1) : SameX a H H1 := fun b o _ h => x b o h
theorem Same.new {H : Hp} {p : Addr} {o : HO} (h : H p = none) : Same H (upd H p o) := fun b u e => by
  rw [upd_ne (ne_of_none e h)]
  exact e
theorem SqL.now {K : PySem.W.Frag} {H : Hp} {a : Addr} {xs : List V} (h : H a = some (.lst xs)) : SqL K H a xs := SqL.of h

/-! ### the purse -/
/-- a purse's rows -/
def pur (c : Addr) (p r n s : Int) : List V := [.ref c, .int p, .int r, .int n, .int s]
structure Purse (a c : Addr) (H : Hp) : Prop where
  ex : ∃ (cs : List Int) (p : Nat) (r n s : Int), H a = some (.lst (pur c p r n s)) ∧ H c = some (.lst (cs.map V.int)) ∧ (∀ x ∈ cs, 0 ≤ x) ∧ p ≤ cs.length ∧ cs.length ≤ 63 ∧ 0 ≤ r ∧ 0 ≤ s ∧ s < 2147483647
theorem pur_ne {H : Hp} {a c c' : Addr} {p r n s : Int} {cs : List Int} (h : H a = some (.lst (pur c p r n s))) (h' : H c' = some (.lst (cs.map V.int))) : c' ≠ a := ne_of h' h (by
  intro e
  injection e with e
  cases cs with
  | nil => cases e
  | cons x r => injection e with e1 _; cases e1)
theorem lk1 {m f : Str} {v : V} (h : (m == f) = false) : List.lookup m [(f, v)] = none := by
  simp only [List.lookup, h]
theorem bl_t {p : Prop} [Decidable p] (h : p) : V.bl (decide p) = V.bl true := congrArg V.bl (decide_eq_true h)
theorem bl_f {p : Prop} [Decidable p] (h : ¬ p) : V.bl (decide p) = V.bl false := congrArg V.bl (decide_eq_false h)
theorem bln_t {p : Prop} [Decidable p] (h : p) : V.bl (!decide p) = V.bl false := by rw [decide_eq_true h]; rfl
theorem bln_f {p : Prop} [Decidable p] (h : ¬ p) : V.bl (!decide p) = V.bl true := by rw [decide_eq_false h]; rfl
theorem int_ne {a b : Int} (h : ¬ a = b) : ¬ V.int a = V.int b := fun e => h (V.int.inj e)
theorem int_eq {a b : Int} (h : a = b) : V.int a = V.int b := congrArg V.int h

theorem Purse.there {a c : Addr} {H : Hp} (P : Purse a c H) : (∃ xs, H a = some (.lst xs)) ∧ ∃ ys, H c = some (.lst ys) := by
  obtain ⟨cs, p, r, n, s, h1, h2, _⟩ := P.ex
  exact ⟨⟨_, h1⟩, _, h2⟩
/-- a purse stands where both of its lists stand -/
theorem Purse.keep {a c : Addr} {H H' : Hp} (P : Purse a c H) (h : H' a = H a) (h' : H' c = H c) : Purse a c H' := by
  obtain ⟨cs, p, r, n, s, h1, h2, q⟩ := P.ex
  exact ⟨cs, p, r, n, s, h.trans h1, h'.trans h2, q⟩
theorem Purse.same {a c : Addr} {H H' : Hp} (P : Purse a c H) (s : Same H H') : Purse a c H' := by
  obtain ⟨cs, p, r, n, z, h1, h2, q⟩ := P.ex
  exact ⟨cs, p, r, n, z, s _ _ h1, s _ _ h2, q⟩
theorem Purse.on {a c b : Addr} {H H' : Hp} (P : Purse a c H) (s : SameX b H H') (na : a ≠ b) (nc : c ≠ b) : Purse a c H' := by
  obtain ⟨cs, p, r, n, z, h1, h2, q⟩ := P.ex
  exact ⟨cs, p, r, n, z, s _ _ na h1, s _ _ nc h2, q⟩
theorem small1000' {n : Nat} (h : n < 100000) : n < sizeLine := Nat.lt_of_lt_of_le h (by decide)
theorem sqT_sm {K : PySem.W.Frag} {H H' : Hp} {a : Addr} {xs : List V} (h : SqT K H a xs) (s : Same H H') : SqT K H' a xs := by
  rcases h with (h | ⟨o, h⟩) | h
  · exact .inl (.inl (s _ _ h))
  · exact .inl (.inr ⟨o, s _ _ h⟩)
  · exact .inr h
/-! ### cls(..) where a name holds the class -/
section
variable {X : Cx} {CX : CXT} {k i : Nat} {f C : Addr} {fd : FuncData} {ps : List Str} {sp : Sp} {dvs : List V} {ds : List Value} {E : XK} {x : Str} {p pos : Pos} {e : Expr} {es : List Expr} {t : TA}
def tMakeL (i : Nat) (C : Addr) (sp : Sp) (dvs : List V) (E : XK) (t : TA) : TE := fun σ H Q => σ[i]? = some (some (.ref C)) ∧ tMake C sp dvs E t σ H Q
theorem pe_makeL (M : Mk X.K C f) (F : FnOk X.prog X.w X.K X.mg X.base CX k f fd ps sp) (hr : Room (k + 1) X.A) (hN : X.N[i]? = some x) (hv : Vis X.env.scope x) (hb : Binds X.K fd ps ds) (hd : Vals dvs ds) (hx : Passes CX X E) (ha : PA X (e :: es) t)
    (hdb : (x == ("__debug__" : Str)) = false := by decide) (hcd : (x == ("__classdict__" : Str)) = false := by decide)
    (he : starEach (e :: es) X.env = (false, eval e X.env) :: starEach es X.env := by rfl) (hpl : (PySem.backTo pos (starEach es X.env)).any (·.1) = false := by rfl) : PE X (.Call (.Name x p) (e :: es) [] pos) (tMakeL i C sp dvs E t) := by
  refine ⟨fun pins s σ H Q I h => ?_⟩
  obtain ⟨hs, ht⟩ := h
  refine PySem.wpAny_Call_Name_kw (thn ((pe_var (pos := p) hN hv hdb hcd).run pins s σ H (fun v H1 => v = .ref C ∧ H1 = H) I ⟨.ref C, hs, rfl, rfl⟩) fun u s1 ⟨v, H1, I1, r1, q1⟩ => ?_)
  obtain ⟨rfl, rfl⟩ := q1
  cases r1
  refine PySem.W.callWith_K (h₀ := X.base) I.ok.mod.kin M.kp (thn (ha.run pos pins s1 σ _ _ I1 ht) fun us s2 ⟨vs, H2, I2, r, q⟩ => ⟨I2.kIn, ?_⟩) he hpl
  exact run_make M F hr hb hd hx I2 r q
end
def top (i : Nat) : Stmt := PySem.Challenge.pw_lossway_k00_ring_wraps.main.body.getD i (.Pass ⟨0, 0, 0, 0⟩)
abbrev s_is_integer : Stmt := top 6
theorem st_is_integer {t : TS} {D : Ends} {H : Hp} {v0 : V} (h : t D [some v0] H) : t D (L2.start ["value"] [v0]) H := h
theorem sc_is_integer : FnScope ["value"] ["value"] (defScope s_is_integer) := ⟨rfl, rfl, rfl, by decide +kernel, rfl, by decide +kernel, by decide +kernel⟩
abbrev s_is_between : Stmt := top 7
theorem st_is_between {t : TS} {D : Ends} {H : Hp} {v0 v1 v2 : V} (h : t D [some v0, some v1, some v2] H) : t D (L2.start ["value", "low", "high"] [v0, v1, v2]) H := h
theorem sc_is_between : FnScope ["value", "low", "high"] ["value", "low", "high"] (defScope s_is_between) := ⟨rfl, rfl, rfl, by decide +kernel, rfl, by decide +kernel, by decide +kernel⟩
abbrev s_Ring_init_ : Stmt := inClass (top 9) 2
theorem st_Ring_init_ {t : TS} {D : Ends} {H : Hp} {v0 v1 : V} (h : t D [some v0, some v1] H) : t D (L2.start ["self", "size"] [v0, v1]) H := h
theorem sc_Ring_init_ : FnScope ["self", "size"] ["self", "size"] (defScope s_Ring_init_) := ⟨rfl, rfl, rfl, by decide +kernel, rfl, by decide +kernel, by decide +kernel⟩
abbrev s_Ring_of_bits : Stmt := inClass (top 9) 3
theorem st_Ring_of_bits {t : TS} {D : Ends} {H : Hp} {v0 v1 : V} (h : t D [some v0, some v1] H) : t D (L2.start ["cls", "bits"] [v0, v1]) H := h
theorem sc_Ring_of_bits : FnScope ["cls", "bits"] ["cls", "bits"] (defScope s_Ring_of_bits) := ⟨rfl, rfl, rfl, by decide +kernel, rfl, by decide +kernel, by decide +kernel⟩
abbrev s_Ring_contains_ : Stmt := inClass (top 9) 4
theorem st_Ring_contains_ {t : TS} {D : Ends} {H : Hp} {v0 v1 : V} (h : t D [some v0, some v1] H) : t D (L2.start ["self", "number"] [v0, v1]) H := h
theorem sc_Ring_contains_ : FnScope ["self", "number"] ["self", "number"] (defScope s_Ring_contains_) := ⟨rfl, rfl, rfl, by decide +kernel, rfl, by decide +kernel, by decide +kernel⟩
abbrev s_Ring_wrap : Stmt := inClass (top 9) 6
theorem st_Ring_wrap {t : TS} {D : Ends} {H : Hp} {v0 v1 : V} (h : t D [some v0, some v1] H) : t D (L2.start ["self", "offset"] [v0, v1]) H := h
theorem sc_Ring_wrap : FnScope ["self", "offset"] ["self", "offset"] (defScope s_Ring_wrap) := ⟨rfl, rfl, rfl, by decide +kernel, rfl, by decide +kernel, by decide +kernel⟩
abbrev s_Ring_unwrap : Stmt := inClass (top 9) 7
theorem st_Ring_unwrap {t : TS} {D : Ends} {H : Hp} {v0 v1 v2 : V} (h : t D [some v0, some v1, some v2, none] H) : t D (L2.start ["self", "number", "near", "least"] [v0, v1, v2]) H := h
theorem sc_Ring_unwrap : FnScope ["self", "number", "near", "least"] ["self", "number", "near"] (defScope s_Ring_unwrap) := ⟨rfl, rfl, rfl, by decide +kernel, rfl, by decide +kernel, by decide +kernel⟩
abbrev s_Ring_require : Stmt := inClass (top 9) 11
theorem st_Ring_require {t : TS} {D : Ends} {H : Hp} {v0 v1 : V} (h : t D [some v0, some v1] H) : t D (L2.start ["self", "number"] [v0, v1]) H := h
theorem sc_Ring_require : FnScope ["self", "number"] ["self", "number"] (defScope s_Ring_require) := ⟨rfl, rfl, rfl, by decide +kernel, rfl, by decide +kernel, by decide +kernel⟩
abbrev s_is_size : Stmt := top 10
theorem st_is_size {t : TS} {D : Ends} {H : Hp} {v0 : V} (h : t D [some v0] H) : t D (L2.start ["value"] [v0]) H := h
theorem sc_is_size : FnScope ["value"] ["value"] (defScope s_is_size) := ⟨rfl, rfl, rfl, by decide +kernel, rfl, by decide +kernel, by decide +kernel⟩
abbrev s__law_purse : Stmt := top 12
theorem st__law_purse {t : TS} {D : Ends} {H : Hp} {v0 : V} (h : t D [some v0, none, none, none, none] H) : t D (L2.start ["script", "cells", "seed", "cell", "one"] [v0]) H := h
theorem sc__law_purse : FnScope ["script", "cells", "seed", "cell", "one"] ["script"] (defScope s__law_purse) := ⟨rfl, rfl, rfl, by decide +kernel, rfl, by decide +kernel, by decide +kernel⟩
abbrev s__law_draw : Stmt := top 13
theorem st__law_draw {t : TS} {D : Ends} {H : Hp} {v0 v1 : V} (h : t D [some v0, some v1, none, none, none] H) : t D (L2.start ["purse", "many", "digit", "amount", "blend"] [v0, v1]) H := h
theorem sc__law_draw : FnScope ["purse", "many", "digit", "amount", "blend"] ["purse", "many"] (defScope s__law_draw) := ⟨rfl, rfl, rfl, by decide +kernel, rfl, by decide +kernel, by decide +kernel⟩
abbrev s__law_is : Stmt := top 14
theorem st__law_is {t : TS} {D : Ends} {H : Hp} {v0 v1 : V} (h : t D [some v0, some v1] H) : t D (L2.start ["actual", "wanted"] [v0, v1]) H := h
theorem sc__law_is : FnScope ["actual", "wanted"] ["actual", "wanted"] (defScope s__law_is) := ⟨rfl, rfl, rfl, by decide +kernel, rfl, by decide +kernel, by decide +kernel⟩
abbrev s__law_width : Stmt := top 15
theorem st__law_width {t : TS} {D : Ends} {H : Hp} {v0 : V} (h : t D [some v0, none, none] H) : t D (L2.start ["bits", "width", "k"] [v0]) H := h
theorem sc__law_width : FnScope ["bits", "width", "k"] ["bits"] (defScope s__law_width) := ⟨rfl, rfl, rfl, by decide +kernel, rfl, by decide +kernel, by decide +kernel⟩
abbrev s__law_near : Stmt := top 16
theorem st__law_near {t : TS} {D : Ends} {H : Hp} {v0 v1 : V} (h : t D [some v0, some v1, none] H) : t D (L2.start ["purse", "width", "amount"] [v0, v1]) H := h
theorem sc__law_near : FnScope ["purse", "width", "amount"] ["purse", "width"] (defScope s__law_near) := ⟨rfl, rfl, rfl, by decide +kernel, rfl, by decide +kernel, by decide +kernel⟩
abbrev s__law_shift : Stmt := top 17
theorem st__law_shift {t : TS} {D : Ends} {H : Hp} {v0 v1 : V} (h : t D [some v0, some v1, none, none] H) : t D (L2.start ["purse", "width", "way", "amount"] [v0, v1]) H := h
theorem sc__law_shift : FnScope ["purse", "width", "way", "amount"] ["purse", "width"] (defScope s__law_shift) := ⟨rfl, rfl, rfl, by decide +kernel, rfl, by decide +kernel, by decide +kernel⟩
abbrev s__law_wraps : Stmt := top 18
theorem st__law_wraps {t : TS} {D : Ends} {H : Hp} {v0 v1 v2 : V} (h : t D [some v0, some v1, some v2, none] H) : t D (L2.start ["ring", "width", "offset", "code"] [v0, v1, v2]) H := h
theorem sc__law_wraps : FnScope ["ring", "width", "offset", "code"] ["ring", "width", "offset"] (defScope s__law_wraps) := ⟨rfl, rfl, rfl, by decide +kernel, rfl, by decide +kernel, by decide +kernel⟩
abbrev s__law_returns : Stmt := top 19
theorem st__law_returns {t : TS} {D : Ends} {H : Hp} {v0 v1 v2 v3 v4 : V} (h : t D [some v0, some v1, some v2, some v3, some v4, none, none] H) : t D (L2.start ["ring", "width", "near", "shift", "laps", "offset", "code"] [v0, v1, v2, v3, v4]) H := h
theorem sc__law_returns : FnScope ["ring", "width", "near", "shift", "laps", "offset", "code"] ["ring", "width", "near", "shift", "laps"] (defScope s__law_returns) := ⟨rfl, rfl, rfl, by decide +kernel, rfl, by decide +kernel, by decide +kernel⟩
abbrev s__law_lies_near : Stmt := top 20
theorem st__law_lies_near {t : TS} {D : Ends} {H : Hp} {v0 v1 v2 v3 : V} (h : t D [some v0, some v1, some v2, some v3, none] H) : t D (L2.start ["ring", "width", "near", "code", "offset"] [v0, v1, v2, v3]) H := h
theorem sc__law_lies_near : FnScope ["ring", "width", "near", "code", "offset"] ["ring", "width", "near", "code"] (defScope s__law_lies_near) := ⟨rfl, rfl, rfl, by decide +kernel, rfl, by decide +kernel, by decide +kernel⟩
abbrev s__law_turn : Stmt := top 21
theorem st__law_turn {t : TS} {D : Ends} {H : Hp} {v0 v1 v2 : V} (h : t D [some v0, some v1, some v2, none, none, none, none, none] H) : t D (L2.start ["purse", "ring", "width", "near", "shift", "laps", "code", "offset"] [v0, v1, v2]) H := h
theorem sc__law_turn : FnScope ["purse", "ring", "width", "near", "shift", "laps", "code", "offset"] ["purse", "ring", "width"] (defScope s__law_turn) := ⟨rfl, rfl, rfl, by decide +kernel, rfl, by decide +kernel, by decide +kernel⟩
abbrev s_law : Stmt := top 22
theorem st_law {t : TS} {D : Ends} {H : Hp} {v0 : V} (h : t D [some v0, none, none, none, none, none, none] H) : t D (L2.start ["script", "purse", "rings", "widths", "k", "bits", "which"] [v0]) H := h
theorem sc_law : FnScope ["script", "purse", "rings", "widths", "k", "bits", "which"] ["script"] (defScope s_law) := ⟨rfl, rfl, rfl, by decide +kernel, rfl, by decide +kernel, by decide +kernel⟩

set_option maxHeartbeats 0 in
structure Txt (K : PySem.W.Frag) (mg : Str → Option Value) where
  c_Ring : Addr
  g_Ring : mg "Ring" = some (.ref c_Ring)
  cl_Ring : Cls K c_Ring
  n_Ring_size : NoAttr K c_Ring "size"
  mc_Ring : Value
  R_Ring : ClX.CRead K c_Ring mc_Ring
  V_Ring_LEAST : ∃ u, ClX.CVal K c_Ring mc_Ring "LEAST" (.int 64) u
  V_Ring_GREATEST : ∃ u, ClX.CVal K c_Ring mc_Ring "GREATEST" (.int 4294967296) u
  a_is_integer : Addr
  fd_is_integer : FuncData
  F_is_integer : Fun K "is_integer" "is_integer" s_is_integer a_is_integer fd_is_integer
  B_is_integer : Binds K fd_is_integer ["value"] []
  g_is_integer : mg "is_integer" = some (.ref a_is_integer)
  a_is_between : Addr
  fd_is_between : FuncData
  F_is_between : Fun K "is_between" "is_between" s_is_between a_is_between fd_is_between
  B_is_between : Binds K fd_is_between ["value", "low", "high"] []
  g_is_between : mg "is_between" = some (.ref a_is_between)
  a_Ring_init_ : Addr
  fd_Ring_init_ : FuncData
  F_Ring_init_ : Fun K "__init__" "Ring.__init__" s_Ring_init_ a_Ring_init_ fd_Ring_init_
  B_Ring_init_ : Binds K fd_Ring_init_ ["self", "size"] []
  M_Ring : Mk K c_Ring a_Ring_init_
  a_Ring_of_bits : Addr
  fd_Ring_of_bits : FuncData
  F_Ring_of_bits : Fun K "of_bits" "Ring.of_bits" s_Ring_of_bits a_Ring_of_bits fd_Ring_of_bits
  B_Ring_of_bits : Binds K fd_Ring_of_bits ["cls", "bits"] []
  p_Ring_of_bits : Addr
  CM_Ring_of_bits : ClX.CMet K c_Ring mc_Ring "of_bits" p_Ring_of_bits a_Ring_of_bits
  a_Ring_contains_ : Addr
  fd_Ring_contains_ : FuncData
  F_Ring_contains_ : Fun K "__contains__" "Ring.__contains__" s_Ring_contains_ a_Ring_contains_ fd_Ring_contains_
  B_Ring_contains_ : Binds K fd_Ring_contains_ ["self", "number"] []
  m_Ring_contains_ : Meth K c_Ring "__contains__" a_Ring_contains_
  a_Ring_wrap : Addr
  fd_Ring_wrap : FuncData
  F_Ring_wrap : Fun K "wrap" "Ring.wrap" s_Ring_wrap a_Ring_wrap fd_Ring_wrap
  B_Ring_wrap : Binds K fd_Ring_wrap ["self", "offset"] []
  m_Ring_wrap : Meth K c_Ring "wrap" a_Ring_wrap
  a_Ring_unwrap : Addr
  fd_Ring_unwrap : FuncData
  F_Ring_unwrap : Fun K "unwrap" "Ring.unwrap" s_Ring_unwrap a_Ring_unwrap fd_Ring_unwrap
  B_Ring_unwrap : Binds K fd_Ring_unwrap ["self", "number", "near"] []
  m_Ring_unwrap : Meth K c_Ring "unwrap" a_Ring_unwrap
  a_Ring_require : Addr
  fd_Ring_require : FuncData
  F_Ring_require : Fun K "_require" "Ring._require" s_Ring_require a_Ring_require fd_Ring_require
  B_Ring_require : Binds K fd_Ring_require ["self", "number"] []
  m_Ring_require : Meth K c_Ring "_require" a_Ring_require
  a_is_size : Addr
  fd_is_size : FuncData
  F_is_size : Fun K "is_size" "is_size" s_is_size a_is_size fd_is_size
  B_is_size : Binds K fd_is_size ["value"] []
  g_is_size : mg "is_size" = some (.ref a_is_size)
  a__law_purse : Addr
  fd__law_purse : FuncData
  F__law_purse : Fun K "_law_purse" "_law_purse" s__law_purse a__law_purse fd__law_purse
  B__law_purse : Binds K fd__law_purse ["script"] []
  g__law_purse : mg "_law_purse" = some (.ref a__law_purse)
  a__law_draw : Addr
  fd__law_draw : FuncData
  F__law_draw : Fun K "_law_draw" "_law_draw" s__law_draw a__law_draw fd__law_draw
  B__law_draw : Binds K fd__law_draw ["purse", "many"] []
  g__law_draw : mg "_law_draw" = some (.ref a__law_draw)
  a__law_is : Addr
  fd__law_is : FuncData
  F__law_is : Fun K "_law_is" "_law_is" s__law_is a__law_is fd__law_is
  B__law_is : Binds K fd__law_is ["actual", "wanted"] []
  g__law_is : mg "_law_is" = some (.ref a__law_is)
  a__law_width : Addr
  fd__law_width : FuncData
  F__law_width : Fun K "_law_width" "_law_width" s__law_width a__law_width fd__law_width
  B__law_width : Binds K fd__law_width ["bits"] []
  g__law_width : mg "_law_width" = some (.ref a__law_width)
  a__law_near : Addr
  fd__law_near : FuncData
  F__law_near : Fun K "_law_near" "_law_near" s__law_near a__law_near fd__law_near
  B__law_near : Binds K fd__law_near ["purse", "width"] []
  g__law_near : mg "_law_near" = some (.ref a__law_near)
  a__law_shift : Addr
  fd__law_shift : FuncData
  F__law_shift : Fun K "_law_shift" "_law_shift" s__law_shift a__law_shift fd__law_shift
  B__law_shift : Binds K fd__law_shift ["purse", "width"] []
  g__law_shift : mg "_law_shift" = some (.ref a__law_shift)
  a__law_wraps : Addr
  fd__law_wraps : FuncData
  F__law_wraps : Fun K "_law_wraps" "_law_wraps" s__law_wraps a__law_wraps fd__law_wraps
  B__law_wraps : Binds K fd__law_wraps ["ring", "width", "offset"] []
  g__law_wraps : mg "_law_wraps" = some (.ref a__law_wraps)
  a__law_returns : Addr
  fd__law_returns : FuncData
  F__law_returns : Fun K "_law_returns" "_law_returns" s__law_returns a__law_returns fd__law_returns
  B__law_returns : Binds K fd__law_returns ["ring", "width", "near", "shift", "laps"] []
  g__law_returns : mg "_law_returns" = some (.ref a__law_returns)
  a__law_lies_near : Addr
  fd__law_lies_near : FuncData
  F__law_lies_near : Fun K "_law_lies_near" "_law_lies_near" s__law_lies_near a__law_lies_near fd__law_lies_near
  B__law_lies_near : Binds K fd__law_lies_near ["ring", "width", "near", "code"] []
  g__law_lies_near : mg "_law_lies_near" = some (.ref a__law_lies_near)
  a__law_turn : Addr
  fd__law_turn : FuncData
  F__law_turn : Fun K "_law_turn" "_law_turn" s__law_turn a__law_turn fd__law_turn
  B__law_turn : Binds K fd__law_turn ["purse", "ring", "width"] []
  g__law_turn : mg "_law_turn" = some (.ref a__law_turn)
  a_law : Addr
  fd_law : FuncData
  F_law : Fun K "law" "law" s_law a_law fd_law
  B_law : Binds K fd_law ["script"] []
  g_law : mg "law" = some (.ref a_law)
  b_bool : mg "bool" = none
  b_classmethod : mg "classmethod" = none
  b_int : mg "int" = none
  b_isinstance : mg "isinstance" = none
  b_len : mg "len" = none
  b_range : mg "range" = none

section
variable {P : Program} {w : World} {K : PySem.W.Frag} {mg : Str → Option Value} {base : Heap}
/-! ### kinds of values -/
/-- whether x is an int and no bool, by its kind -/
def IntK (K : PySem.W.Frag) (H : Hp) (x : V) (r : Bool) : Prop := ∃ (t : Value) (i b : Bool), TyX K H x t ∧ PySem.W.kitOne K t (.type "int") = some i ∧ PySem.W.kitOne K t (.type "bool") = some b ∧ r = (i && !b)
theorem intK_int {K : PySem.W.Frag} {H : Hp} (n : Int) : IntK K H (.int n) true := ⟨.type "int", true, false, .base (.int n), kit_ty (by decide +kernel), kit_ty (by decide +kernel), rfl⟩
/-- isinstance(x, int) and not isinstance(x, bool) -/
def sp_is_integer (K : PySem.W.Frag) : Sp := fun vs H Q _ => ∃ (x : V) (r : Bool), vs = [x] ∧ IntK K H x r ∧ Q (.bl r) H
def sp_is_between (K : PySem.W.Frag) : Sp := fun vs H Q _ => ∃ (x : V) (lo hi : Int), vs = [x, .int lo, .int hi] ∧ ((∃ n, x = .int n ∧ Q (.bl (decide (lo ≤ n) && decide (n ≤ hi))) H) ∨ (IntK K H x false ∧ Q (.bl false) H))
theorem ok_is_integer (T : Txt K mg) : FnOk P w K mg base CX0 1 T.a_is_integer T.fd_is_integer ["value"] (sp_is_integer K) := by
  have S := sc_is_integer
  refine T.F_is_integer.ok S (fun vs H Q E h => ?_) (fun cdv A outer s H vs Q E hr h => ?_)
  · obtain ⟨x, r, rfl, _⟩ := h
    rfl
  · obtain ⟨x, r, rfl, ⟨t, i, b, ty, hi, hb, rfl⟩, k⟩ := h
    refine ⟨_, (pss_one (ps_ret (pe_and (pe_callB (id := "isinstance") call_isi (by rfl) T.b_isinstance (by decide +kernel) (pa_cons (pv 0) (pa_cons (pe_bltn (v := .ty "int") (u := .type "int") (by rfl) T.b_int (by decide +kernel) rfl) pa_nil))) (pe_one (pe_not (pe_callB (id := "isinstance") call_isi (by rfl) T.b_isinstance (by decide +kernel) (pa_cons (pv 0) (pa_cons (pe_bltn (v := .ty "bool") (u := .type "bool") (by rfl) T.b_bool (by decide +kernel) rfl) pa_nil)))))))), ?_⟩
    refine ⟨_, rfl, _, _, _, _, i, rfl, .ty _, ty, hi, i, rfl, ?_⟩
    cases i with
    | false => exact iteF k
    | true => exact iteT ⟨_, rfl, _, _, _, _, b, rfl, .ty _, ty, hb, b, rfl, k⟩
theorem ok_is_between (T : Txt K mg) : FnOk P w K mg base CX0 2 T.a_is_between T.fd_is_between ["value", "low", "high"] (sp_is_between K) := by
  have S := sc_is_between
  refine T.F_is_between.ok S (fun vs H Q E h => ?_) (fun cdv A outer s H vs Q E hr h => ?_)
  · obtain ⟨x, lo, hi, rfl, _⟩ := h
    rfl
  · obtain ⟨x, lo, hi, rfl, h⟩ := h
    refine ⟨_, (pss_one (ps_ret (pe_and (pe_call (ok_is_integer T) (hr.mono (by decide)) rfl T.g_is_integer T.F_is_integer.kp T.B_is_integer .nil pass0 (pa_cons (pv 0) pa_nil)) (pe_one (pe_chain op_le op_le (pv 1) (pv 0) (pv 2)))))), ?_⟩
    rcases h with ⟨n, rfl, k⟩ | ⟨hk, k⟩
    · refine ⟨_, rfl, _, true, rfl, intK_int n, true, rfl, iteT ?_⟩
      refine ⟨_, rfl, _, rfl, _, _, rfl, rfl, _, rfl, ?_⟩
      by_cases q : lo ≤ n
      · rw [decide_eq_true q, Bool.true_and] at k
        rw [decide_eq_true q]
        exact iteT ⟨_, rfl, _, _, rfl, rfl, k⟩
      · rw [decide_eq_false q, Bool.false_and] at k
        rw [decide_eq_false q]
        exact iteF k
    · exact ⟨_, rfl, _, false, rfl, hk, false, rfl, iteF k⟩
/-! ### draws -/
/-- a draw below m: some digit, the purse a purse again, all else as it was -/
def sp__law_draw (K : PySem.W.Frag) : Sp := fun vs H Q _ => ∃ (a : Addr) (m : Int), vs = [.ref a, .int m] ∧ ∃ c, Purse a c H ∧ 0 < m ∧ m < 1073741824 ∧ ∀ d H', 0 ≤ d → d < m → Purse a c H' → SameX a H H' → Q (.int d) H'
theorem ok__law_draw (T : Txt K mg) : FnOk P w K mg base CX0 1 T.a__law_draw T.fd__law_draw ["purse", "many"] (sp__law_draw K) := by
  have S := sc__law_draw
  refine T.F__law_draw.ok S (fun vs H Q E h => ?_) (fun cdv A outer s H vs Q E hr h => ?_)
  · obtain ⟨a, m, rfl, _⟩ := h
    rfl
  · obtain ⟨a, m, rfl, c, ⟨cs, p, r, n, z, hA, hC, hpos, hp, hl, hr0, hz0, hz1⟩, hm0, hm1, k⟩ := h
    have hca : c ≠ a := pur_ne hA hC
    refine ⟨_, (C8.pss_cut (ps_if (PW.pt (pw_and (pt_cmpR op_eq (pe_ix ix_list (pv 0) pe_int (fun _ _ => rfl)) pe_int (nomark _)) (pw_and (pt_cmpR op_lt (pe_ix ix_list (pv 0) pe_int (fun _ _ => rfl)) (pe_callB (id := "len") call_len_seq (by rfl) T.b_len (by decide +kernel) (pa_cons (pe_ix ix_list (pv 0) pe_int (fun _ _ => rfl)) pa_nil)) (nomark _)) (pw_and1 (pt_cmpR op_ge (pe_ix ix_list (pe_ix ix_list (pv 0) pe_int (fun _ _ => rfl)) (pe_ix ix_list (pv 0) pe_int (fun _ _ => rfl)) (fun _ _ => rfl)) (pe_op op_pow pe_int pe_int) (nomark _)))))) (pss_cons (ps_asg (pe_ix ix_list (pe_ix ix_list (pv 0) pe_int (fun _ _ => rfl)) (pe_ix ix_list (pv 0) pe_int (fun _ _ => rfl)) (fun _ _ => rfl)) (pg_sub (pv 0) pe_int set_list))
      (pss_one (ps_asg (pe_op op_add (pe_ix ix_list (pv 0) pe_int (fun _ _ => rfl)) pe_int) (pg_sub (pv 0) pe_int set_list)))) pss_nil)
      (pss_cons (ps_if (pt_cmpR op_gt (pe_ix ix_list (pv 0) pe_int (fun _ _ => rfl)) pe_int (nomark _)) (pss_cons (ps_set (i := 2) S.nd rfl (Or.inl rfl) (pe_op op_mod (pe_callTy (T := "int") call_int1 (by rfl) T.b_int (by decide +kernel) (pa_cons (pe_ix ix_list (pv 0) pe_int (fun _ _ => rfl)) pa_nil)) (pv 1)))
      (pss_cons (ps_asg (pe_op op_fdiv (pe_ix ix_list (pv 0) pe_int (fun _ _ => rfl)) (pv 1)) (pg_sub (pv 0) pe_int set_list))
      (pss_one (ps_ret (pv 2))))) pss_nil)
      (pss_cons (ps_set (i := 3) S.nd rfl (Or.inl rfl) (pe_ix ix_list (pv 0) pe_int (fun _ _ => rfl)))
      (C8.pss_cut (ps_if (pt_cmpR op_lt (pe_ix ix_list (pv 0) pe_int (fun _ _ => rfl)) (pe_callB (id := "len") call_len_seq (by rfl) T.b_len (by decide +kernel) (pa_cons (pe_ix ix_list (pv 0) pe_int (fun _ _ => rfl)) pa_nil)) (nomark _)) (pss_cons (ps_set (i := 3) S.nd rfl (Or.inl rfl) (pe_ix ix_list (pe_ix ix_list (pv 0) pe_int (fun _ _ => rfl)) (pe_ix ix_list (pv 0) pe_int (fun _ _ => rfl)) (fun _ _ => rfl)))
      (pss_one (ps_asg (pe_op op_add (pe_ix ix_list (pv 0) pe_int (fun _ _ => rfl)) pe_int) (pg_sub (pv 0) pe_int set_list)))) pss_nil)
      (pss_cons (ps_asg (pe_op op_add (pe_ix ix_list (pv 0) pe_int (fun _ _ => rfl)) pe_int) (pg_sub (pv 0) pe_int set_list))
      (pss_cons (ps_set (i := 4) S.nd rfl (Or.inl rfl) (pe_op op_mod (pe_callTy (T := "int") call_int1 (by rfl) T.b_int (by decide +kernel) (pa_cons (pe_op op_add (pe_op op_mul (pv 3) pe_int) (pe_op op_mul (pe_ix ix_list (pv 0) pe_int (fun _ _ => rfl)) (pe_op op_add pe_int (pe_op op_mul pe_int (pe_ix ix_list (pv 0) pe_int (fun _ _ => rfl)))))) pa_nil)) pe_int))
      (pss_cons (ps_set (i := 4) S.nd rfl (Or.inl rfl) (pe_op op_mod (pe_callTy (T := "int") call_int1 (by rfl) T.b_int (by decide +kernel) (pa_cons (pe_op op_add (pe_op op_mul (pv 4) (pe_op op_add pe_int (pe_op op_fdiv (pv 4) pe_int))) (pe_op op_mul (pe_ix ix_list (pv 0) pe_int (fun _ _ => rfl)) (pe_ix ix_list (pv 0) pe_int (fun _ _ => rfl)))) pa_nil)) pe_int))
      (pss_one (ps_ret (pe_op op_mod (pe_callTy (T := "int") call_int1 (by rfl) T.b_int (by decide +kernel) (pa_cons (pe_op op_fdiv (pv 4) pe_int) pa_nil)) (pv 1))))))))))), ?_⟩
    refine ⟨fun σ H' => ∃ (p : Nat) (r : Int), σ = [some (.ref a), some (.int m), none, none, none] ∧ H' a = some (.lst (pur c p r n z)) ∧ p ≤ cs.length ∧ 0 ≤ r ∧ SameX a H H', ?_, ?_⟩
    · refine ⟨_, rfl, _, _, _, _, rfl, rfl, SqL.of hA, rfl, rfl, _, rfl, ?_⟩
      refine ite2 (fun _ => ?_) (fun _ => iteF ⟨p, r, rfl, hA, hp, hr0, SameX.refl⟩)
      refine ⟨_, rfl, _, _, _, _, rfl, rfl, SqL.of hA, rfl, _, rfl, _, _, _, _, rfl, rfl, SqL.of hA, rfl, _, _, rfl, .inl (SqL.of hC), _, _, rfl, rfl, _, rfl, ?_⟩
      refine ite2 (fun e2 => ?_) (fun _ => iteF ⟨p, r, rfl, hA, hp, hr0, SameX.refl⟩)
      have hlt : p < cs.length := by
        have q := of_decide_eq_true e2
        rw [List.length_map] at q
        omega
      have hx : (cs.map V.int)[p]? = some (V.int cs[p]) := by simp [hlt]
      have hx0 : 0 ≤ cs[p] := hpos _ (List.getElem_mem hlt)
      refine ⟨_, rfl, _, _, _, _, rfl, rfl, SqL.of hA, rfl, _, rfl, _, _, _, _, rfl, rfl, SqL.of hA, rfl, _, _, _, _, rfl, rfl, SqL.of hC, atI_nat hx, _, _, rfl, rfl, (by unfold CPow; decide), _, _, rfl, rfl, _, rfl, ?_⟩
      refine ite2 (fun _ => ?_) (fun _ => ⟨p, r, rfl, hA, hp, hr0, SameX.refl⟩)
      refine ⟨_, rfl, _, _, _, _, rfl, rfl, SqL.of hA, rfl, _, rfl, _, _, _, _, rfl, rfl, SqL.of hA, rfl, _, _, _, _, rfl, rfl, SqL.of hC, atI_nat hx, _, rfl, _, _, _, _, rfl, rfl, hA, rfl, ?_⟩
      have hA1 : (upd H a (.lst (pur c p cs[p] n z))) a = some (.lst (pur c p cs[p] n z)) := upd_same
      refine ⟨_, rfl, _, _, _, _, rfl, rfl, SqL.of hA1, rfl, _, _, rfl, rfl, _, rfl, _, _, _, _, rfl, rfl, hA1, rfl, ?_⟩
      exact ⟨p + 1, cs[p], rfl, upd_same, hlt, hx0, (SameX.upd).upd'⟩
    · rintro σ H1 ⟨p, r, rfl, hA, hp, hr0, sx⟩
      have hC : H1 c = some (.lst (cs.map V.int)) := sx _ _ hca hC
      refine ⟨_, rfl, _, _, _, _, rfl, rfl, SqL.of hA, rfl, _, _, rfl, rfl, _, rfl, ?_⟩
      refine ite2 (fun e1 => ?_) (fun e1 => ?_)
      · refine ⟨_, rfl, _, _, _, _, rfl, rfl, SqL.of hA, rfl, .inl ⟨_, rfl, _, rfl, _, _, rfl, rfl, hm0, ?_⟩⟩
        refine ⟨_, rfl, _, _, _, _, rfl, rfl, SqL.of hA, rfl, _, rfl, _, _, rfl, rfl, ⟨hm0, hm1⟩, _, rfl, _, _, _, _, rfl, rfl, hA, rfl, ?_⟩
        refine ⟨_, rfl, k _ _ (Int.emod_nonneg _ (by omega)) (Int.emod_lt_of_pos _ hm0) ⟨cs, p, r / m, n, z, upd_same, by rw [upd_ne hca]; exact hC, hpos, hp, hl, Int.ediv_nonneg hr0 (by omega), hz0, hz1⟩ sx.upd'⟩
      · refine ⟨_, rfl, _, _, _, _, rfl, rfl, SqL.of hA, rfl, ?_⟩
        refine ⟨fun σ H' => ∃ (p : Nat) (v : Int), σ = [some (.ref a), some (.int m), none, some (.int v), none] ∧ H' a = some (.lst (pur c p r n z)) ∧ p ≤ cs.length ∧ SameX a H H', ?_, ?_⟩
        · refine ⟨_, rfl, _, _, _, _, rfl, rfl, SqL.of hA, rfl, _, rfl, _, _, _, _, rfl, rfl, SqL.of hA, rfl, _, _, rfl, .inl (SqL.of hC), _, _, rfl, rfl, _, rfl, ?_⟩
          refine ite2 (fun e2 => ?_) (fun _ => ⟨p, z, rfl, hA, hp, sx⟩)
          have hlt : p < cs.length := by
            have q := of_decide_eq_true e2
            rw [List.length_map] at q
            omega
          have hx : (cs.map V.int)[p]? = some (V.int cs[p]) := by simp [hlt]
          refine ⟨_, rfl, _, _, _, _, rfl, rfl, SqL.of hA, rfl, _, rfl, _, _, _, _, rfl, rfl, SqL.of hA, rfl, _, _, _, _, rfl, rfl, SqL.of hC, atI_nat hx, ?_⟩
          refine ⟨_, rfl, _, _, _, _, rfl, rfl, SqL.of hA, rfl, _, _, rfl, rfl, _, rfl, _, _, _, _, rfl, rfl, hA, rfl, ?_⟩
          exact ⟨p + 1, cs[p], rfl, upd_same, hlt, sx.upd'⟩
        · rintro σ H2 ⟨p, v, rfl, hA, hp, sx⟩
          have hC : H2 c = some (.lst (cs.map V.int)) := sx _ _ hca ‹H c = _›
          refine ⟨_, rfl, _, _, _, _, rfl, rfl, SqL.of hA, rfl, _, _, rfl, rfl, _, rfl, _, _, _, _, rfl, rfl, hA, rfl, ?_⟩
          have hA1 : (upd H2 a (.lst (pur c p r (n + 1) z))) a = some (.lst (pur c p r (n + 1) z)) := upd_same
          refine ⟨_, rfl, _, _, rfl, rfl, .inr ⟨by decide, by decide⟩, _, rfl, _, _, _, _, rfl, rfl, SqL.of hA1, rfl, _, rfl, _, _, _, _, rfl, rfl, SqL.of hA1, rfl, _, _, rfl, rfl, .inl ⟨by decide, by decide⟩, _, _, rfl, rfl, _, _, rfl, rfl, .inl ⟨by omega, by omega⟩, _, _, rfl, rfl, .inl ⟨_, rfl, _, _, rfl, rfl, (by show (0 : Int) < _; decide), ?_⟩⟩
          generalize hb : (v * 48271 + z * (7919 + 69621 * (n + 1))) % 2147483647 = b
          have hb0 : 0 ≤ b := by rw [← hb]; exact Int.emod_nonneg _ (by decide)
          have hb1 : b < 2147483647 := by rw [← hb]; exact Int.emod_lt_of_pos _ (by decide)
          refine ⟨_, rfl, _, rfl, _, _, rfl, rfl, ⟨by decide, by decide⟩, _, _, rfl, rfl, _, _, rfl, rfl, .inl ⟨by omega, by omega⟩, _, rfl, _, _, _, _, rfl, rfl, SqL.of hA1, rfl, _, rfl, _, _, _, _, rfl, rfl, SqL.of hA1, rfl, _, _, rfl, rfl, .inl ⟨by omega, by omega⟩, _, _, rfl, rfl, .inl ⟨_, rfl, _, _, rfl, rfl, (by show (0 : Int) < _; decide), ?_⟩⟩
          refine ⟨_, rfl, _, _, rfl, rfl, ⟨by decide, by decide⟩, .inl ⟨_, rfl, _, rfl, _, _, rfl, rfl, hm0, ?_⟩⟩
          exact k _ _ (Int.emod_nonneg _ (by omega)) (Int.emod_lt_of_pos _ hm0) ⟨cs, p, r, n + 1, z, upd_same, by rw [upd_ne hca]; exact hC, hpos, hp, hl, hr0, hz0, hz1⟩ sx.upd'
/-! ### equality of words -/
theorem dec_int (a b : Int) : decide (V.int a = V.int b) = decide (a = b) := by
  by_cases e : a = b
  · rw [decide_eq_true e, decide_eq_true (congrArg V.int e)]
  · rw [decide_eq_false e, decide_eq_false (fun q => e (V.int.inj q))]
theorem dec_bl (a b : Bool) : decide (V.bl a = V.bl b) = (a == b) := by
  cases a <;> cases b <;> rfl
/-! ### the law's small defs -/
def sp__law_is (K : PySem.W.Frag) : Sp := fun vs H Q _ => ∃ (a b : Int), vs = [.int a, .int b] ∧ Q (.bl (decide (a = b))) H
theorem ok__law_is (T : Txt K mg) : FnOk P w K mg base CX0 1 T.a__law_is T.fd__law_is ["actual", "wanted"] (sp__law_is K) := by
  have S := sc__law_is
  refine T.F__law_is.ok S (fun vs H Q E h => ?_) (fun cdv A outer s H vs Q E hr h => ?_)
  · obtain ⟨a, b, rfl, _⟩ := h
    rfl
  · obtain ⟨a, b, rfl, k⟩ := h
    refine ⟨_, (pss_one (ps_ret (pe_and (pe_callB (id := "isinstance") call_isi (by rfl) T.b_isinstance (by decide +kernel) (pa_cons (pv 0) (pa_cons (pe_bltn (v := .ty "int") (u := .type "int") (by rfl) T.b_int (by decide +kernel) rfl) pa_nil))) (pe_and (pe_not (pe_callB (id := "isinstance") call_isi (by rfl) T.b_isinstance (by decide +kernel) (pa_cons (pv 0) (pa_cons (pe_bltn (v := .ty "bool") (u := .type "bool") (by rfl) T.b_bool (by decide +kernel) rfl) pa_nil)))) (pe_one (pe_cmpR op_eq (pv 0) (pv 1) (nomark _))))))), ?_⟩
    refine ⟨_, rfl, _, _, _, _, true, rfl, .ty _, .base (.int a), kit_ty (by decide +kernel), true, rfl, iteT ?_⟩
    refine ⟨_, rfl, _, _, _, _, false, rfl, .ty _, .base (.int a), kit_ty (by decide +kernel), false, rfl, true, rfl, iteT ?_⟩
    refine ⟨_, rfl, _, rfl, rfl, ?_⟩
    rw [dec_int]
    exact k
/-! ### the purse -/
def sp__law_purse (K : PySem.W.Frag) : Sp := fun vs H Q _ => ∃ (a : Addr) (ns : List Int), vs = [.ref a] ∧ SqL K H a (ns.map V.int) ∧ ∀ p c H', H p = none → H c = none → p ≠ c → Purse p c H' → Same H H' → Q (.ref p) H'
/-- a cell of the script, none below nought -/
def cel (x : Int) : Int := if 0 ≤ x then x else -1 - x
theorem cel_nn (x : Int) : 0 ≤ cel x := by
  unfold cel
  split <;> omega
theorem ok__law_purse (T : Txt K mg) : FnOk P w K mg base CX0 1 T.a__law_purse T.fd__law_purse ["script"] (sp__law_purse K) := by
  have S := sc__law_purse
  refine T.F__law_purse.ok S (fun vs H Q E h => ?_) (fun cdv A outer s H vs Q E hr h => ?_)
  · obtain ⟨a, ns, rfl, _⟩ := h
    rfl
  · obtain ⟨a, ns, rfl, hS, k⟩ := h
    refine ⟨_, (pss_cons (ps_setLc (i := 1) (own := [("one", 4)]) (g := gName 4) (tt := tYes) rfl S.nd rfl rfl (sw_true rfl rfl rfl (by decide +kernel)) (pi_list (pe_slice sl_list (pv 0) po_none (po_some pe_int))) (blkOk_by (N := ["script", "cells", "seed", "cell", "one"]) (sc := defScope s__law_purse) (by decide +kernel)) (fun _ _ _ _ _ => pg_name (i := 4) S.nd rfl (Or.inl rfl)) (fun _ _ _ _ _ => pts_nil) (fun _ _ _ _ _ => (pe_ifExp (pt_cmpR op_ge (pv 4) pe_int (nomark _)) (pv 4) (pe_op op_sub (pe_un un_neg pe_int) (pv 4)))))
      (pss_cons (ps_set (i := 2) S.nd rfl (Or.inl rfl) pe_int)
      (pss_cons (ps_for PassesOwn.never rfl (pi_list (pv 1)) (pg_name (i := 3) S.nd rfl (Or.inl rfl)) (pss_one (ps_set (i := 2) S.nd rfl (Or.inl rfl) (pe_op op_mod (pe_callTy (T := "int") call_int1 (by rfl) T.b_int (by decide +kernel) (pa_cons (pe_op op_add (pe_op op_add (pe_op op_mul (pv 2) pe_int) (pv 3)) pe_int) pa_nil)) pe_int))))
      (pss_one (ps_ret (pe_lst (pa_cons (pv 1) (pa_cons pe_int (pa_cons pe_int (pa_cons pe_int (pa_cons (pv 2) pa_nil))))))))))), ?_⟩
    refine ⟨_, rfl, _, rfl, _, _, rfl, hS, fun q hq => ?_⟩
    have eC : cutV (ns.map V.int) none (some 63) = (ns.take 63).map V.int := by
      have e1 : HT.sIx (ns.map V.int).length 0 none = 0 := rfl
      have e2 : HT.sIx (ns.map V.int).length (ns.map V.int).length (some 63) = min 63 ns.length := by
        unfold HT.sIx
        simp
      unfold cutV
      rw [e1, e2, List.drop_zero, Nat.sub_zero, ← List.map_take]
      exact congrArg (List.map V.int) (by rw [List.take_eq_take_iff]; omega)
    generalize hcs : ns.take 63 = cs at eC
    rw [eC]
    have hl63 : cs.length ≤ 63 := by
      rw [← hcs, List.length_take]
      omega
    have hS1 : (upd H q (.lst (cs.map V.int))) q = some (.lst (cs.map V.int)) := upd_same
    refine ⟨_, rfl, ⟨_, SqL.of hS1⟩, fun D hD => ?_⟩
    have nq : q ≠ D := fun e => by
      rw [← e, upd_same] at hD
      cases hD
    have hD0 : H D = none := by
      rw [upd_ne nq.symm] at hD
      exact hD
    refine lc_list (K := K) (a := q) (xs := cs.map V.int) (fun i H' => H' q = some (.lst (cs.map V.int)) ∧ H' D = some (.lst (((cs.take i).map cel).map V.int)) ∧ ∀ b o, b ≠ D → H b = some o → H' b = some o)
      ⟨by rw [upd_ne nq]; exact upd_same, upd_same, fun b o nb e => by rw [upd_ne nb, upd_ne (ne_of_none e hq)]; exact e⟩ (fun i H' _ ⟨h1, _⟩ => SqL.of h1) ?_ ?_
    · rintro i x H' hi ⟨h1, h2, h3⟩
      rw [List.getElem?_map] at hi
      cases e : cs[i]? with
      | none =>
        rw [e] at hi
        cases hi
      | some u =>
        rw [e] at hi
        cases hi
        have hil : i < cs.length := (List.getElem?_eq_some_iff.mp e).1
        refine ⟨rfl, ?_⟩
        have fin : ∃ acc, H' D = some (.lst acc) ∧ acc.length < sizeLine ∧ (fun i H' => H' q = some (.lst (cs.map V.int)) ∧ H' D = some (.lst (((cs.take i).map cel).map V.int)) ∧ ∀ b o, b ≠ D → H b = some o → H' b = some o) (i + 1) (upd H' D (.lst (acc ++ [V.int (cel u)]))) := by
          refine ⟨_, h2, ?_, by show upd H' D _ q = _; rw [upd_ne nq]; exact h1, ?_, fun b o nb e => by rw [upd_ne nb]; exact h3 b o nb e⟩
          · simp only [List.length_map, List.length_take]
            exact small1000 (by omega)
          · show upd H' D _ D = _
            rw [upd_same, List.take_succ_eq_append_getElem hil]
            have e2 : cs[i] = u := (List.getElem?_eq_some_iff.mp e).2
            rw [e2]
            simp
        refine ⟨_, rfl, _, _, rfl, rfl, _, rfl, ?_⟩
        by_cases hu : 0 ≤ u
        · have ec : cel u = u := if_pos hu
          rw [ec] at fin
          rw [decide_eq_true hu]
          exact iteT ⟨_, rfl, fin⟩
        · have ec : cel u = -1 - u := if_neg hu
          rw [ec] at fin
          rw [decide_eq_false hu]
          exact iteF ⟨_, rfl, _, rfl, _, _, rfl, rfl, fin⟩
    · rintro H1 ⟨_, h2, h3⟩
      have h3' : Same H H1 := fun b o e => h3 b o (ne_of_none e hD0) e
      rw [List.length_map, List.take_length] at h2
      have hpos : ∀ x ∈ cs.map cel, 0 ≤ x := fun x hx => by
        obtain ⟨y, _, rfl⟩ := List.mem_map.mp hx
        exact cel_nn y
      have hl2 : (cs.map cel).length ≤ 63 := by rw [List.length_map]; exact hl63
      generalize cs.map cel = ds at h2 hpos hl2
      refine ⟨_, rfl, _, rfl, ⟨_, SqL.of h2⟩, ?_⟩
      refine for_list (K := K) (a := D) (xs := ds.map V.int) (fun i σ H' => ∃ (z : Int) (v : Option V), σ = [some (.ref a), some (.ref D), some (.int z), v, none] ∧ 0 ≤ z ∧ z < 2147483647 ∧ H' = H1)
        ⟨0, none, rfl, by decide, by decide, rfl⟩ (fun i σ H' _ ⟨_, _, _, _, _, e⟩ => by rw [e]; exact SqL.of h2) ?_ ?_
      · rintro i x σ H' hi ⟨z, v, rfl, hz0, hz1, rfl⟩
        rw [List.getElem?_map] at hi
        cases e : ds[i]? with
        | none =>
          rw [e] at hi
          cases hi
        | some u =>
          rw [e] at hi
          cases hi
          refine ⟨_, rfl, _, _, rfl, rfl, .inr ⟨by decide, by decide⟩, _, rfl, _, _, rfl, rfl, _, _, rfl, rfl, .inl ⟨_, rfl, _, _, rfl, rfl, (by show (0 : Int) < _; decide), ?_⟩⟩
          exact ⟨_, _, rfl, Int.emod_nonneg _ (by decide), Int.emod_lt_of_pos _ (by decide), rfl⟩
      · rintro σ H' ⟨z, v, rfl, hz0, hz1, rfl⟩
        refine ⟨_, rfl, _, rfl, (by show 5 ≤ sizeLine; decide), fun p hp => ?_⟩
        have hpD : D ≠ p := ne_of_none h2 hp
        refine k p D _ (Same.free h3' hp) hD0 hpD.symm ⟨ds, 0, 0, 0, z, upd_same, by rw [upd_ne hpD]; exact h2, hpos, Nat.zero_le _, hl2, by decide, hz0, hz1⟩ (h3'.trans (Same.new hp))
def sp__law_width (K : PySem.W.Frag) : Sp := fun vs H Q _ => ∃ (b : Nat), vs = [.int b] ∧ b ≤ 40 ∧ Q (.int (2 ^ b)) H
theorem ok__law_width (T : Txt K mg) : FnOk P w K mg base CX0 1 T.a__law_width T.fd__law_width ["bits"] (sp__law_width K) := by
  have S := sc__law_width
  refine T.F__law_width.ok S (fun vs H Q E h => ?_) (fun cdv A outer s H vs Q E hr h => ?_)
  · obtain ⟨b, rfl, _⟩ := h
    rfl
  · obtain ⟨b, rfl, hb, k⟩ := h
    refine ⟨_, (pss_cons (ps_set (i := 1) S.nd rfl (Or.inl rfl) pe_int)
      (pss_cons (ps_for PassesOwn.never rfl (pi_range1 (by rfl) T.b_range (pa_cons (pv 0) pa_nil)) (pg_name (i := 2) S.nd rfl (Or.inl rfl)) (pss_one (ps_set (i := 1) S.nd rfl (Or.inl rfl) (pe_op op_mul (pv 1) pe_int))))
      (pss_one (ps_ret (pv 1))))), ?_⟩
    refine ⟨_, rfl, _, rfl, by omega, by omega, for_range (lo := 0) (n := (b : Int).toNat) (fun i σ H' => ∃ v, σ = [some (.int b), some (.int (2 ^ i)), v] ∧ i ≤ b ∧ H' = H) ⟨none, rfl, Nat.zero_le _, rfl⟩ ?_ ?_⟩
    · rintro i σ H' hi ⟨v, rfl, hi2, rfl⟩
      refine ⟨_, rfl, _, _, rfl, rfl, .inr ⟨by decide, by decide⟩, ?_⟩
      have hi' : i < b := by simpa using hi
      exact ⟨_, rfl, hi', rfl⟩
    · rintro σ H' ⟨v, rfl, hi2, rfl⟩
      exact ⟨_, rfl, by simpa using k⟩
/-! ### rings -/
/-- a ring's size: even, not small, not great -/
def Siz (n : Int) : Prop := ∃ h, n = 2 * h ∧ 32 ≤ h ∧ h ≤ 2147483648
def RingAt (C : Addr) (H : Hp) (r : Addr) (n : Int) : Prop := ∃ dx, H r = some (.ins C dx [("size", .int n)])
theorem pow_siz : ∀ b : Nat, 6 ≤ b → b ≤ 32 → Siz (2 ^ b) ∧ Builtin.bitAnd (2 ^ b : Int) (2 ^ b - 1) = 0 := by
  intro b h1 h2
  have all : ∀ c : Fin 27, ((2 : Int) ^ (c.val + 6) % 2 = 0 ∧ 64 ≤ (2 : Int) ^ (c.val + 6) ∧ (2 : Int) ^ (c.val + 6) ≤ 4294967296) ∧ Builtin.bitAnd (2 ^ (c.val + 6) : Int) (2 ^ (c.val + 6) - 1) = 0 := by decide +kernel
  have q := all ⟨b - 6, by omega⟩
  rw [show b - 6 + 6 = b by omega] at q
  obtain ⟨⟨q1, q2, q3⟩, q4⟩ := q
  exact ⟨⟨2 ^ b / 2, by omega, by omega, by omega⟩, q4⟩
/-- Python's b - a on a ring -/
theorem gap_eq {w a b : Int} (ha0 : 0 ≤ a) (ha : a < w) (hb0 : 0 ≤ b) (hb : b < w) : (b - a) % w = if a ≤ b then b - a else b - a + w := by
  split
  · exact Int.emod_eq_of_lt (by omega) (by omega)
  · rw [← Int.add_emod_right]
    exact Int.emod_eq_of_lt (by omega) (by omega)
theorem mod_up {w x : Int} (h0 : w ≤ x) (h1 : x < 2 * w) : x % w = x - w := by
  rw [← Int.sub_emod_right]
  exact Int.emod_eq_of_lt (by omega) (by omega)
theorem mod_at {w x : Int} (h0 : 0 ≤ x) (h1 : x < w) : x % w = x := Int.emod_eq_of_lt h0 h1
theorem mod_dn {w x : Int} (h0 : -w ≤ x) (h1 : x < 0) : x % w = x + w := by
  rw [← Int.add_emod_right]
  exact Int.emod_eq_of_lt (by omega) (by omega)
theorem mod_diff (x a w : Int) : ((x + a) % w - x % w) % w = a % w := by
  rw [← Int.sub_emod]
  congr 1
  omega
theorem mod_diff' (x a w : Int) : (x % w - (x + a) % w) % w = (-a) % w := by
  rw [← Int.sub_emod]
  congr 1
  omega
/-! ### the ring's methods -/
def sp_is_size : Sp := fun vs H Q _ => ∃ (b : Nat), vs = [.int (2 ^ b)] ∧ 6 ≤ b ∧ b ≤ 32 ∧ Q (.bl true) H
theorem ok_is_size (T : Txt K mg) : FnOk P w K mg base CX0 3 T.a_is_size T.fd_is_size ["value"] (sp_is_size) := by
  have S := sc_is_size
  refine T.F_is_size.ok S (fun vs H Q E h => ?_) (fun cdv A outer s H vs Q E hr h => ?_)
  · obtain ⟨b, rfl, _⟩ := h
    rfl
  · obtain ⟨b, rfl, h6, h32, k⟩ := h
    obtain ⟨⟨g, eg, hg1, hg2⟩, hand⟩ := pow_siz b h6 h32
    obtain ⟨u1, v1⟩ := T.V_Ring_LEAST
    obtain ⟨u2, v2⟩ := T.V_Ring_GREATEST
    refine ⟨_, (pss_one (ps_ret (pe_and (pe_call (ok_is_between T) (hr.mono (by decide)) rfl T.g_is_between T.F_is_between.kp T.B_is_between .nil pass0 (pa_cons (pv 0) (pa_cons (ClX.pe_cval (pe_glob (v := .ref T.c_Ring) rfl T.g_Ring rfl)) (pa_cons (ClX.pe_cval (pe_glob (v := .ref T.c_Ring) rfl T.g_Ring rfl)) pa_nil)))) (pe_one (pe_cmpR op_eq (pe_op op_and (pv 0) (pe_op op_sub (pv 0) pe_int)) pe_int (nomark _)))))), ?_⟩
    refine ⟨_, rfl, _, T.mc_Ring, _, u1, rfl, T.R_Ring, v1, _, T.mc_Ring, _, u2, rfl, T.R_Ring, v2, _, _, _, rfl, .inl ⟨_, rfl, _, rfl, ?_⟩⟩
    have e1 : (decide ((64 : Int) ≤ 2 ^ b) && decide ((2 : Int) ^ b ≤ 4294967296)) = true := by
      rw [decide_eq_true (show (64 : Int) ≤ 2 ^ b by omega), decide_eq_true (show (2 : Int) ^ b ≤ 4294967296 by omega)]
      rfl
    rw [e1]
    refine iteT ⟨_, rfl, _, rfl, _, _, rfl, rfl, _, _, rfl, rfl, rfl, ?_⟩
    rw [show decide (V.int (Builtin.bitAnd (2 ^ b) (2 ^ b - 1)) = V.int 0) = true by rw [hand]; rfl]
    exact k
def sp_Ring_init_ (C : Addr) : Sp := fun vs H Q _ => ∃ (p dx : Addr) (b : Nat), vs = [.ref p, .int (2 ^ b)] ∧ H p = some (.ins C dx []) ∧ 6 ≤ b ∧ b ≤ 32 ∧ ∀ H', SameX p H H' → H' p = some (.ins C dx [("size", .int (2 ^ b))]) → Q .non H'
theorem ok_Ring_init_ (T : Txt K mg) : FnOk P w K mg base CX0 4 T.a_Ring_init_ T.fd_Ring_init_ ["self", "size"] (sp_Ring_init_ T.c_Ring) := by
  have S := sc_Ring_init_
  refine T.F_Ring_init_.ok S (fun vs H Q E h => ?_) (fun cdv A outer s H vs Q E hr h => ?_)
  · obtain ⟨p, dx, b, rfl, _⟩ := h
    rfl
  · obtain ⟨p, dx, b, rfl, hp, h6, h32, k⟩ := h
    refine ⟨_, (pss_cons (ps_if (pt_not (pt_val (pe_call (ok_is_size T) (hr.mono (by decide)) rfl T.g_is_size T.F_is_size.kp T.B_is_size .nil pass0 (pa_cons (pv 1) pa_nil)))) (pss_one ps_never) pss_nil)
      (pss_one (ps_fld (pv 0) (pv 1) rfl))), ?_⟩
    exact ⟨_, rfl, b, rfl, h6, h32, _, rfl, _, rfl, _, rfl, p, _, dx, [], rfl, hp, T.cl_Ring, T.n_Ring_size, (by show 0 < 1000; decide), k _ (.upd) upd_same⟩
def sp_Ring_contains_ (K : PySem.W.Frag) (C : Addr) : Sp := fun vs H Q _ => ∃ (r : Addr) (n : Int) (x : V), vs = [.ref r, x] ∧ RingAt C H r n ∧ ((∃ v, x = .int v ∧ Q (.bl (decide (0 ≤ v) && decide (v ≤ n - 1))) H) ∨ (IntK K H x false ∧ Q (.bl false) H))
theorem ok_Ring_contains_ (T : Txt K mg) : FnOk P w K mg base CX0 3 T.a_Ring_contains_ T.fd_Ring_contains_ ["self", "number"] (sp_Ring_contains_ K T.c_Ring) := by
  have S := sc_Ring_contains_
  refine T.F_Ring_contains_.ok S (fun vs H Q E h => ?_) (fun cdv A outer s H vs Q E hr h => ?_)
  · obtain ⟨r, n, x, rfl, _⟩ := h
    rfl
  · obtain ⟨r, n, x, rfl, ⟨dx, hR⟩, k⟩ := h
    refine ⟨_, (pss_one (ps_ret (pe_call (ok_is_between T) (hr.mono (by decide)) rfl T.g_is_between T.F_is_between.kp T.B_is_between .nil pass0 (pa_cons (pv 1) (pa_cons pe_int (pa_cons (pe_op op_sub (pe_fld (pv 0) rfl) pe_int) pa_nil)))))), ?_⟩
    exact ⟨_, rfl, _, rfl, r, _, dx, _, _, rfl, hR, T.cl_Ring, T.n_Ring_size, rfl, _, _, rfl, rfl, _, _, _, rfl, k⟩
def sp_Ring_require (C : Addr) : Sp := fun vs H Q _ => ∃ (r : Addr) (n v : Int), vs = [.ref r, .int v] ∧ RingAt C H r n ∧ 0 ≤ v ∧ v < n ∧ Q .non H
theorem ok_Ring_require (T : Txt K mg) : FnOk P w K mg base CX0 4 T.a_Ring_require T.fd_Ring_require ["self", "number"] (sp_Ring_require T.c_Ring) := by
  have S := sc_Ring_require
  refine T.F_Ring_require.ok S (fun vs H Q E h => ?_) (fun cdv A outer s H vs Q E hr h => ?_)
  · obtain ⟨r, n, v, rfl, _⟩ := h
    rfl
  · obtain ⟨r, n, v, rfl, hR, h0, h1, k⟩ := h
    refine ⟨_, (pss_one (ps_if (pt_cmpR (op_notInOwn T.m_Ring_contains_ (ok_Ring_contains_ T) (hr.mono (by decide)) T.B_Ring_contains_ pass0) (pv 1) (pv 0) rfl) (pss_one ps_never) pss_nil)), ?_⟩
    obtain ⟨dx, hR'⟩ := id hR
    refine ⟨_, rfl, _, rfl, r, _, _, rfl, hR', r, n, _, rfl, hR, .inl ⟨v, rfl, _, rfl, _, rfl, ?_⟩⟩
    rw [decide_eq_true h0, decide_eq_true (show v ≤ n - 1 by omega)]
    exact k
def sp_Ring_wrap (C : Addr) : Sp := fun vs H Q _ => ∃ (r : Addr) (n v : Int), vs = [.ref r, .int v] ∧ RingAt C H r n ∧ 0 < n ∧ Q (.int (v % n)) H
theorem ok_Ring_wrap (T : Txt K mg) : FnOk P w K mg base CX0 2 T.a_Ring_wrap T.fd_Ring_wrap ["self", "offset"] (sp_Ring_wrap T.c_Ring) := by
  have S := sc_Ring_wrap
  refine T.F_Ring_wrap.ok S (fun vs H Q E h => ?_) (fun cdv A outer s H vs Q E hr h => ?_)
  · obtain ⟨r, n, v, rfl, _⟩ := h
    rfl
  · obtain ⟨r, n, v, rfl, hR, h0, k⟩ := h
    refine ⟨_, (pss_cons (ps_if (pt_not (pt_val (pe_call (ok_is_integer T) (hr.mono (by decide)) rfl T.g_is_integer T.F_is_integer.kp T.B_is_integer .nil pass0 (pa_cons (pv 1) pa_nil)))) (pss_one ps_never) pss_nil)
      (pss_one (ps_ret (pe_op op_mod (pv 1) (pe_fld (pv 0) rfl))))), ?_⟩
    obtain ⟨dx, hR'⟩ := id hR
    refine ⟨_, rfl, _, true, rfl, intK_int v, _, rfl, ?_⟩
    exact ⟨_, rfl, _, rfl, r, _, dx, _, _, rfl, hR', T.cl_Ring, T.n_Ring_size, rfl, _, _, rfl, rfl, h0, k⟩
def sp_Ring_of_bits (C : Addr) : Sp := fun vs H Q _ => ∃ (b : Nat), vs = [.ref C, .int b] ∧ 6 ≤ b ∧ b ≤ 32 ∧ ∀ r H', H r = none → Same H H' → RingAt C H' r (2 ^ b) → Q (.ref r) H'
/-- a ring made: all that stood stands -/
theorem made_same {H H3 : Hp} {r dx : Addr} {o u : HO} (nr : H r = none) (nd : H dx = none) (s : SameX r (upd (upd H dx o) r u) H3) : Same H H3 := fun q w e =>
  s _ _ (ne_of_none e nr) (by rw [upd_ne (ne_of_none e nr), upd_ne (ne_of_none e nd)]; exact e)
theorem ok_Ring_of_bits (T : Txt K mg) : FnOk P w K mg base CX0 6 T.a_Ring_of_bits T.fd_Ring_of_bits ["cls", "bits"] (sp_Ring_of_bits T.c_Ring) := by
  have S := sc_Ring_of_bits
  refine T.F_Ring_of_bits.ok S (fun vs H Q E h => ?_) (fun cdv A outer s H vs Q E hr h => ?_)
  · obtain ⟨b, rfl, _⟩ := h
    rfl
  · obtain ⟨b, rfl, h6, h32, k⟩ := h
    refine ⟨_, (pss_cons (ps_if (pt_not (pt_val (pe_call (ok_is_between T) (hr.mono (by decide)) rfl T.g_is_between T.F_is_between.kp T.B_is_between .nil pass0 (pa_cons (pv 1) (pa_cons pe_int (pa_cons pe_int pa_nil)))))) (pss_one ps_never) pss_nil)
      (pss_one (ps_ret (pe_makeL (i := 0) T.M_Ring (ok_Ring_init_ T) (hr.mono (by decide)) rfl (.inl rfl) T.B_Ring_init_ .nil pass0 (pa_cons (pe_op op_shl pe_int (pv 1)) pa_nil))))), ?_⟩
    refine ⟨_, rfl, _, _, _, rfl, .inl ⟨_, rfl, true, congrArg V.bl (by rw [decide_eq_true (show (6 : Int) ≤ b by omega), decide_eq_true (show (b : Int) ≤ 32 by omega)]; rfl), ?_⟩⟩
    refine ⟨rfl, _, rfl, _, _, rfl, rfl, ⟨by omega, by omega, by decide⟩, fun r dx nr nd ne => ?_⟩
    have e1 : (1 : Int) * 2 ^ ((b : Int).toNat) = 2 ^ b := by rw [Int.one_mul]; rfl
    refine ⟨r, dx, b, by rw [← e1]; rfl, upd_same, h6, h32, fun H3 s3 hR => ⟨rfl, ?_⟩⟩
    exact k r H3 nr (made_same nr nd s3) ⟨dx, hR⟩
def sp_Ring_unwrap (C : Addr) : Sp := fun vs H Q _ => ∃ (r : Addr) (n x y : Int), vs = [.ref r, .int x, .int y] ∧ RingAt C H r n ∧ 0 ≤ x ∧ x < n ∧ Q (.int (y - n / 2 + (x - (y - n / 2)) % n)) H
theorem ok_Ring_unwrap (T : Txt K mg) : FnOk P w K mg base CX0 5 T.a_Ring_unwrap T.fd_Ring_unwrap ["self", "number", "near"] (sp_Ring_unwrap T.c_Ring) := by
  have S := sc_Ring_unwrap
  refine T.F_Ring_unwrap.ok S (fun vs H Q E h => ?_) (fun cdv A outer s H vs Q E hr h => ?_)
  · obtain ⟨r, n, x, y, rfl, _⟩ := h
    rfl
  · obtain ⟨r, n, x, y, rfl, hR, x0, x1, k⟩ := h
    refine ⟨_, (pss_cons (ps_expr (pe_meth (pv 0) T.cl_Ring T.m_Ring_require (ok_Ring_require T) (hr.mono (by decide)) T.B_Ring_require .nil pass0 (pa_cons (pv 1) pa_nil)))
      (pss_cons (ps_if (pt_not (pt_val (pe_call (ok_is_integer T) (hr.mono (by decide)) rfl T.g_is_integer T.F_is_integer.kp T.B_is_integer .nil pass0 (pa_cons (pv 2) pa_nil)))) (pss_one ps_never) pss_nil)
      (pss_cons (ps_set (i := 3) S.nd rfl (Or.inl rfl) (pe_op op_sub (pv 2) (pe_op op_fdiv (pe_fld (pv 0) rfl) pe_int)))
      (pss_one (ps_ret (pe_op op_add (pv 3) (pe_op op_mod (pe_op op_sub (pv 1) (pv 3)) (pe_fld (pv 0) rfl)))))))), ?_⟩
    obtain ⟨dx, hR'⟩ := id hR
    refine ⟨_, rfl, r, dx, _, rfl, hR', lk1 (by decide +kernel), _, rfl, r, n, x, rfl, hR, x0, x1, ?_⟩
    refine ⟨_, rfl, _, true, rfl, intK_int y, _, rfl, ?_⟩
    refine ⟨_, rfl, _, rfl, r, _, dx, _, _, rfl, hR', T.cl_Ring, T.n_Ring_size, rfl, _, _, rfl, rfl, ⟨by decide, by decide⟩, _, _, rfl, rfl, ?_⟩
    exact ⟨_, rfl, _, rfl, _, rfl, _, _, rfl, rfl, _, rfl, r, _, dx, _, _, rfl, hR', T.cl_Ring, T.n_Ring_size, rfl, _, _, rfl, rfl, (by show (0 : Int) < n; omega), _, _, rfl, rfl, k⟩
/-! ### the law's defs -/
def sp__law_near (K : PySem.W.Frag) : Sp := fun vs H Q _ => ∃ (p : Addr) (w : Int), vs = [.ref p, .int w] ∧ ∃ c, Purse p c H ∧ Siz w ∧ ∀ v H', Purse p c H' → SameX p H H' → Q (.int v) H'
theorem ok__law_near (T : Txt K mg) : FnOk P w K mg base CX0 2 T.a__law_near T.fd__law_near ["purse", "width"] (sp__law_near K) := by
  have S := sc__law_near
  refine T.F__law_near.ok S (fun vs H Q E h => ?_) (fun cdv A outer s H vs Q E hr h => ?_)
  · obtain ⟨p, w, rfl, _⟩ := h
    rfl
  · obtain ⟨p, w, rfl, c, P0, ⟨hf, ew, hf0, hf1⟩, k⟩ := h
    refine ⟨_, (pss_cons (ps_if (pt_cmpR op_eq (pe_call (ok__law_draw T) (hr.mono (by decide)) rfl T.g__law_draw T.F__law_draw.kp T.B__law_draw .nil pass0 (pa_cons (pv 0) (pa_cons pe_int pa_nil))) pe_int (nomark _)) (pss_one (ps_ret (pe_op op_sub (pe_op op_add (pe_op op_mul (pe_op op_sub (pe_call (ok__law_draw T) (hr.mono (by decide)) rfl T.g__law_draw T.F__law_draw.kp T.B__law_draw .nil pass0 (pa_cons (pv 0) (pa_cons pe_int pa_nil))) pe_int) (pe_op op_fdiv (pv 1) pe_int)) (pe_call (ok__law_draw T) (hr.mono (by decide)) rfl T.g__law_draw T.F__law_draw.kp T.B__law_draw .nil pass0 (pa_cons (pv 0) (pa_cons pe_int pa_nil)))) pe_int))) pss_nil)
      (pss_cons (ps_set (i := 2) S.nd rfl (Or.inl rfl) (pe_op op_add (pe_op op_mul (pe_call (ok__law_draw T) (hr.mono (by decide)) rfl T.g__law_draw T.F__law_draw.kp T.B__law_draw .nil pass0 (pa_cons (pv 0) (pa_cons pe_int pa_nil))) pe_int) (pe_call (ok__law_draw T) (hr.mono (by decide)) rfl T.g__law_draw T.F__law_draw.kp T.B__law_draw .nil pass0 (pa_cons (pv 0) (pa_cons pe_int pa_nil)))))
      (pss_cons (ps_set (i := 2) S.nd rfl (Or.inl rfl) (pe_op op_mod (pe_callTy (T := "int") call_int1 (by rfl) T.b_int (by decide +kernel) (pa_cons (pv 2) pa_nil)) (pe_op op_sub (pe_op op_pow pe_int pe_int) (pe_op op_mul pe_int (pv 1)))))
      (pss_cons (ps_if (pt_cmpR op_eq (pe_call (ok__law_draw T) (hr.mono (by decide)) rfl T.g__law_draw T.F__law_draw.kp T.B__law_draw .nil pass0 (pa_cons (pv 0) (pa_cons pe_int pa_nil))) pe_int (nomark _)) (pss_one (ps_ret (pv 2))) pss_nil)
      (pss_one (ps_ret (pe_un un_neg (pv 2)))))))), ?_⟩
    refine ⟨_, rfl, p, 2, rfl, c, P0, by decide, by decide, fun e H1 e0 e1 P1 s1 => ⟨rfl, _, rfl, ?_⟩⟩
    refine ite2 (fun _ => ?_) (fun _ => ?_)
    · refine ⟨_, rfl, p, 9, rfl, c, P1, by decide, by decide, fun f H2 f0 f1 P2 s2 => ?_⟩
      refine ⟨_, _, rfl, rfl, _, rfl, _, _, rfl, rfl, ⟨by decide, by decide⟩, _, _, rfl, rfl, .inl ⟨by omega, by omega⟩, ?_⟩
      refine ⟨_, rfl, p, 7, rfl, c, P2, by decide, by decide, fun g H3 g0 g1 P3 s3 => ⟨_, _, rfl, rfl, _, _, rfl, rfl, ?_⟩⟩
      exact k _ _ P3 ((s1.trans s2).trans s3)
    · refine ⟨_, rfl, p, 1000000, rfl, c, P1, by decide, by decide, fun f H2 f0 f1 P2 s2 => ?_⟩
      refine ⟨_, _, rfl, rfl, .inr ⟨by decide, by decide⟩, _, rfl, p, 1000000, rfl, c, P2, by decide, by decide, fun g H3 g0 g1 P3 s3 => ⟨_, _, rfl, rfl, ?_⟩⟩
      refine ⟨_, rfl, .inl ⟨_, rfl, _, _, rfl, rfl, ⟨by decide, by decide, by decide⟩, _, rfl, _, _, rfl, rfl, .inl ⟨by decide, by decide⟩, _, _, rfl, rfl, _, _, rfl, rfl, (by show (0 : Int) < 10 ^ 12 - 4 * w; omega), ?_⟩⟩
      refine ⟨_, rfl, p, 2, rfl, c, P3, by decide, by decide, fun i H4 i0 i1 P4 s4 => ⟨rfl, _, rfl, ?_⟩⟩
      have s := ((s1.trans s2).trans s3).trans s4
      exact ite2 (fun _ => ⟨_, rfl, k _ _ P4 s⟩) (fun _ => ⟨_, rfl, _, rfl, k _ _ P4 s⟩)
def sp__law_shift (K : PySem.W.Frag) : Sp := fun vs H Q _ => ∃ (p : Addr) (w : Int), vs = [.ref p, .int w] ∧ ∃ c, Purse p c H ∧ Siz w ∧ ∀ v H', 0 ≤ v → v < w → Purse p c H' → SameX p H H' → Q (.int v) H'
theorem ok__law_shift (T : Txt K mg) : FnOk P w K mg base CX0 2 T.a__law_shift T.fd__law_shift ["purse", "width"] (sp__law_shift K) := by
  have S := sc__law_shift
  refine T.F__law_shift.ok S (fun vs H Q E h => ?_) (fun cdv A outer s H vs Q E hr h => ?_)
  · obtain ⟨p, w, rfl, _⟩ := h
    rfl
  · obtain ⟨p, w, rfl, c, P0, ⟨hf, ew, hf0, hf1⟩, k⟩ := h
    have hw : (0 : Int) < w := by omega
    refine ⟨_, (pss_cons (ps_set (i := 2) S.nd rfl (Or.inl rfl) (pe_call (ok__law_draw T) (hr.mono (by decide)) rfl T.g__law_draw T.F__law_draw.kp T.B__law_draw .nil pass0 (pa_cons (pv 0) (pa_cons pe_int pa_nil))))
      (pss_cons (ps_if (pt_cmpR op_eq (pv 2) pe_int (nomark _)) (pss_one (ps_ret pe_int)) pss_nil)
      (pss_cons (ps_if (pt_cmpR op_eq (pv 2) pe_int (nomark _)) (pss_one (ps_ret (pe_op op_sub (pv 1) pe_int))) pss_nil)
      (pss_cons (ps_if (pt_cmpR op_eq (pv 2) pe_int (nomark _)) (pss_one (ps_ret (pe_op op_sub (pe_op op_add (pe_op op_fdiv (pv 1) pe_int) (pe_call (ok__law_draw T) (hr.mono (by decide)) rfl T.g__law_draw T.F__law_draw.kp T.B__law_draw .nil pass0 (pa_cons (pv 0) (pa_cons pe_int pa_nil)))) pe_int))) pss_nil)
      (pss_cons (ps_set (i := 3) S.nd rfl (Or.inl rfl) (pe_op op_add (pe_op op_mul (pe_call (ok__law_draw T) (hr.mono (by decide)) rfl T.g__law_draw T.F__law_draw.kp T.B__law_draw .nil pass0 (pa_cons (pv 0) (pa_cons pe_int pa_nil))) pe_int) (pe_call (ok__law_draw T) (hr.mono (by decide)) rfl T.g__law_draw T.F__law_draw.kp T.B__law_draw .nil pass0 (pa_cons (pv 0) (pa_cons pe_int pa_nil)))))
      (pss_one (ps_ret (pe_op op_mod (pe_callTy (T := "int") call_int1 (by rfl) T.b_int (by decide +kernel) (pa_cons (pv 3) pa_nil)) (pv 1))))))))), ?_⟩
    refine ⟨_, rfl, p, 5, rfl, c, P0, by decide, by decide, fun e H1 e0 e1 P1 s1 => ?_⟩
    refine ⟨_, rfl, rfl, _, rfl, ?_⟩
    refine ite2 (fun _ => k _ _ (by decide) hw P1 s1) (fun _ => ?_)
    refine ⟨_, rfl, rfl, _, rfl, ?_⟩
    refine ite2 (fun _ => ⟨_, rfl, _, _, rfl, rfl, k _ _ (by omega) (by omega) P1 s1⟩) (fun _ => ?_)
    refine ⟨_, rfl, rfl, _, rfl, ?_⟩
    refine ite2 (fun _ => ?_) (fun _ => ?_)
    · refine ⟨_, rfl, _, _, rfl, rfl, ⟨by decide, by decide⟩, _, rfl, p, 3, rfl, c, P1, by decide, by decide, fun f H2 f0 f1 P2 s2 => ⟨_, _, rfl, rfl, _, _, rfl, rfl, ?_⟩⟩
      exact k _ _ (by omega) (by omega) P2 (s1.trans s2)
    · refine ⟨_, rfl, p, 65536, rfl, c, P1, by decide, by decide, fun f H2 f0 f1 P2 s2 => ?_⟩
      refine ⟨_, _, rfl, rfl, .inr ⟨by decide, by decide⟩, _, rfl, p, 65536, rfl, c, P2, by decide, by decide, fun g H3 g0 g1 P3 s3 => ⟨_, _, rfl, rfl, ?_⟩⟩
      refine ⟨_, rfl, .inl ⟨_, rfl, _, rfl, _, _, rfl, rfl, hw, ?_⟩⟩
      exact k _ _ (Int.emod_nonneg _ (by omega)) (Int.emod_lt_of_pos _ hw) P3 ((s1.trans s2).trans s3)
def sp__law_wraps (C : Addr) : Sp := fun vs H Q _ => ∃ (r : Addr) (w o : Int), vs = [.ref r, .int w, .int o] ∧ RingAt C H r w ∧ 0 < w ∧ Q (.bl true) H
theorem mod_back (o w : Int) : (o - o % w) % w = 0 := by
  have h := Int.sub_emod o o w
  rw [Int.sub_emod, Int.emod_emod_of_dvd _ (Int.dvd_refl w), Int.sub_self, Int.zero_emod]
theorem ok__law_wraps (T : Txt K mg) : FnOk P w K mg base CX0 3 T.a__law_wraps T.fd__law_wraps ["ring", "width", "offset"] (sp__law_wraps T.c_Ring) := by
  have S := sc__law_wraps
  refine T.F__law_wraps.ok S (fun vs H Q E h => ?_) (fun cdv A outer s H vs Q E hr h => ?_)
  · obtain ⟨r, w, o, rfl, _⟩ := h
    rfl
  · obtain ⟨r, w, o, rfl, hR, hw, k⟩ := h
    obtain ⟨dx, hR'⟩ := id hR
    have m0 : 0 ≤ o % w := Int.emod_nonneg _ (by omega)
    have m1 : o % w < w := Int.emod_lt_of_pos _ hw
    refine ⟨_, (pss_cons (ps_set (i := 3) S.nd rfl (Or.inl rfl) (pe_meth (pv 0) T.cl_Ring T.m_Ring_wrap (ok_Ring_wrap T) (hr.mono (by decide)) T.B_Ring_wrap .nil pass0 (pa_cons (pv 2) pa_nil)))
      (pss_cons (ps_if (PW.pt (pw_or (pt_not (pt_val (pe_callB (id := "isinstance") call_isi (by rfl) T.b_isinstance (by decide +kernel) (pa_cons (pv 3) (pa_cons (pe_bltn (v := .ty "int") (u := .type "int") (by rfl) T.b_int (by decide +kernel) rfl) pa_nil))))) (pw_or (pt_val (pe_callB (id := "isinstance") call_isi (by rfl) T.b_isinstance (by decide +kernel) (pa_cons (pv 3) (pa_cons (pe_bltn (v := .ty "bool") (u := .type "bool") (by rfl) T.b_bool (by decide +kernel) rfl) pa_nil)))) (pw_or1 (pt_not (pt_chain op_le op_lt pe_int (pv 3) (pv 1))))))) (pss_one (ps_ret pe_bl)) pss_nil)
      (pss_one (ps_ret (pe_cmpR op_eq (pe_op op_mod (pe_callTy (T := "int") call_int1 (by rfl) T.b_int (by decide +kernel) (pa_cons (pe_op op_sub (pv 2) (pv 3)) pa_nil)) (pv 1)) pe_int (nomark _)))))), ?_⟩
    refine ⟨_, rfl, r, dx, _, rfl, hR', lk1 (by decide +kernel), _, rfl, r, w, o, rfl, hR, hw, ?_⟩
    refine ⟨_, rfl, _, _, _, _, true, rfl, .ty _, .base (.int _), kit_ty (by decide +kernel), _, rfl, ?_⟩
    refine ⟨_, rfl, _, _, _, _, false, rfl, .ty _, .base (.int _), kit_ty (by decide +kernel), _, rfl, ?_⟩
    refine ⟨_, rfl, _, _, rfl, rfl, true, bl_t m0, _, rfl, _, _, rfl, rfl, true, bl_t m1, ?_⟩
    refine ⟨_, rfl, _, rfl, _, _, rfl, rfl, .inl ⟨_, rfl, _, rfl, _, _, rfl, rfl, hw, rfl, ?_⟩⟩
    have e : V.bl (decide (V.int ((o - o % w) % w) = V.int 0)) = V.bl true := bl_t (int_eq (mod_back o w))
    show Q (V.bl (decide (V.int ((o - o % w) % w) = V.int 0))) _
    rw [e]
    exact k
def sp__law_returns (C : Addr) : Sp := fun vs H Q _ => ∃ (r : Addr) (w y s l : Int), vs = [.ref r, .int w, .int y, .int s, .int l] ∧ RingAt C H r w ∧ Siz w ∧ 0 ≤ s ∧ s < w ∧ Q (.bl true) H
theorem back_of {w y s : Int} (s0 : 0 ≤ s) (s1 : s < w) : y - w / 2 + ((y - w / 2 + s) % w - (y - w / 2)) % w = y - w / 2 + s := by
  have h : ((y - w / 2 + s) % w - (y - w / 2)) % w = s := by
    rw [Int.sub_emod, Int.emod_emod_of_dvd _ (Int.dvd_refl w), ← Int.sub_emod, show y - w / 2 + s - (y - w / 2) = s by omega]
    exact mod_at s0 s1
  rw [h]
theorem ok__law_returns (T : Txt K mg) : FnOk P w K mg base CX0 6 T.a__law_returns T.fd__law_returns ["ring", "width", "near", "shift", "laps"] (sp__law_returns T.c_Ring) := by
  have S := sc__law_returns
  refine T.F__law_returns.ok S (fun vs H Q E h => ?_) (fun cdv A outer s H vs Q E hr h => ?_)
  · obtain ⟨r, w, y, s, l, rfl, _⟩ := h
    rfl
  · obtain ⟨r, w, y, s, l, rfl, hR, ⟨hf, ew, hf0, hf1⟩, s0, s1, k⟩ := h
    have hw : (0 : Int) < w := by omega
    obtain ⟨dx, hR'⟩ := id hR
    refine ⟨_, (pss_cons (ps_set (i := 5) S.nd rfl (Or.inl rfl) (pe_op op_add (pe_op op_sub (pv 2) (pe_op op_fdiv (pv 1) pe_int)) (pv 3)))
      (pss_cons (ps_if (pt_not (pt_val (pe_call (ok__law_wraps T) (hr.mono (by decide)) rfl T.g__law_wraps T.F__law_wraps.kp T.B__law_wraps .nil pass0 (pa_cons (pv 0) (pa_cons (pv 1) (pa_cons (pv 5) pa_nil)))))) (pss_one (ps_ret pe_bl)) pss_nil)
      (pss_cons (ps_set (i := 6) S.nd rfl (Or.inl rfl) (pe_op op_mod (pe_callTy (T := "int") call_int1 (by rfl) T.b_int (by decide +kernel) (pa_cons (pv 5) pa_nil)) (pv 1)))
      (pss_cons (ps_if (pt_not (pt_val (pe_call (ok__law_is T) (hr.mono (by decide)) rfl T.g__law_is T.F__law_is.kp T.B__law_is .nil pass0 (pa_cons (pe_meth (pv 0) T.cl_Ring T.m_Ring_unwrap (ok_Ring_unwrap T) (hr.mono (by decide)) T.B_Ring_unwrap .nil pass0 (pa_cons (pv 6) (pa_cons (pv 2) pa_nil))) (pa_cons (pv 5) pa_nil))))) (pss_one (ps_ret pe_bl)) pss_nil)
      (pss_one (ps_ret (pe_call (ok__law_is T) (hr.mono (by decide)) rfl T.g__law_is T.F__law_is.kp T.B__law_is .nil pass0 (pa_cons (pe_meth (pv 0) T.cl_Ring T.m_Ring_wrap (ok_Ring_wrap T) (hr.mono (by decide)) T.B_Ring_wrap .nil pass0 (pa_cons (pe_op op_add (pv 5) (pe_op op_mul (pv 4) (pv 1))) pa_nil)) (pa_cons (pv 6) pa_nil))))))))), ?_⟩
    refine ⟨_, rfl, _, rfl, _, _, rfl, rfl, ⟨by decide, by decide⟩, _, _, rfl, rfl, _, rfl, _, _, rfl, rfl, ?_⟩
    refine ⟨_, rfl, _, rfl, _, rfl, r, w, _, rfl, hR, hw, _, rfl, ?_⟩
    refine ⟨_, rfl, .inl ⟨_, rfl, _, rfl, _, _, rfl, rfl, hw, ?_⟩⟩
    refine ⟨_, rfl, r, dx, _, rfl, hR', lk1 (by decide +kernel), _, rfl, _, rfl, r, w, (y - w / 2 + s) % w, y, rfl, hR, Int.emod_nonneg _ (by omega), Int.emod_lt_of_pos _ hw, _, rfl, _, _, rfl, true, bl_t (back_of s0 s1), ?_⟩
    refine ⟨_, rfl, r, dx, _, rfl, hR', lk1 (by decide +kernel), _, rfl, _, rfl, _, rfl, _, _, rfl, rfl, .inr ⟨by omega, by omega⟩, _, _, rfl, rfl, r, w, _, rfl, hR, hw, _, rfl, _, _, rfl, ?_⟩
    have e : decide ((y - w / 2 + s + l * w) % w = (y - w / 2 + s) % w) = true := decide_eq_true (Int.add_mul_emod_self_right _ _ _)
    rw [e]
    exact k
def sp__law_lies_near (C : Addr) : Sp := fun vs H Q _ => ∃ (r : Addr) (w y x : Int), vs = [.ref r, .int w, .int y, .int x] ∧ RingAt C H r w ∧ Siz w ∧ 0 ≤ x ∧ x < w ∧ Q (.bl true) H
theorem ok__law_lies_near (T : Txt K mg) : FnOk P w K mg base CX0 6 T.a__law_lies_near T.fd__law_lies_near ["ring", "width", "near", "code"] (sp__law_lies_near T.c_Ring) := by
  have S := sc__law_lies_near
  refine T.F__law_lies_near.ok S (fun vs H Q E h => ?_) (fun cdv A outer s H vs Q E hr h => ?_)
  · obtain ⟨r, w, y, x, rfl, _⟩ := h
    rfl
  · obtain ⟨r, w, y, x, rfl, hR, ⟨hf, ew, hf0, hf1⟩, x0, x1, k⟩ := h
    have hw : (0 : Int) < w := by omega
    obtain ⟨dx, hR'⟩ := id hR
    have m0 : 0 ≤ (x - (y - w / 2)) % w := Int.emod_nonneg _ (by omega)
    have m1 : (x - (y - w / 2)) % w < w := Int.emod_lt_of_pos _ hw
    have e1 : (y - w / 2 + (x - (y - w / 2)) % w) % w = x := by
      rw [Int.add_emod, Int.emod_emod_of_dvd _ (Int.dvd_refl w), ← Int.add_emod, show y - w / 2 + (x - (y - w / 2)) = x by omega]
      exact mod_at x0 x1
    have e2 : (y - w / 2 + (x - (y - w / 2)) % w - x) % w = 0 := by
      rw [Int.sub_emod, e1, mod_at x0 x1, Int.sub_self, Int.zero_emod]
    refine ⟨_, (pss_cons (ps_set (i := 4) S.nd rfl (Or.inl rfl) (pe_meth (pv 0) T.cl_Ring T.m_Ring_unwrap (ok_Ring_unwrap T) (hr.mono (by decide)) T.B_Ring_unwrap .nil pass0 (pa_cons (pv 3) (pa_cons (pv 2) pa_nil))))
      (pss_cons (ps_if (PW.pt (pw_or (pt_not (pt_val (pe_callB (id := "isinstance") call_isi (by rfl) T.b_isinstance (by decide +kernel) (pa_cons (pv 4) (pa_cons (pe_bltn (v := .ty "int") (u := .type "int") (by rfl) T.b_int (by decide +kernel) rfl) pa_nil))))) (pw_or1 (pt_val (pe_callB (id := "isinstance") call_isi (by rfl) T.b_isinstance (by decide +kernel) (pa_cons (pv 4) (pa_cons (pe_bltn (v := .ty "bool") (u := .type "bool") (by rfl) T.b_bool (by decide +kernel) rfl) pa_nil))))))) (pss_one (ps_ret pe_bl)) pss_nil)
      (pss_cons (ps_if (pt_not (pt_chain op_le op_le (pe_op op_sub (pv 2) (pe_op op_fdiv (pv 1) pe_int)) (pv 4) (pe_op op_sub (pe_op op_add (pv 2) (pe_op op_fdiv (pv 1) pe_int)) pe_int))) (pss_one (ps_ret pe_bl)) pss_nil)
      (pss_one (ps_ret (pe_and (pe_cmpR op_eq (pe_op op_mod (pe_callTy (T := "int") call_int1 (by rfl) T.b_int (by decide +kernel) (pa_cons (pe_op op_sub (pv 4) (pv 3)) pa_nil)) (pv 1)) pe_int (nomark _)) (pe_one (pe_call (ok__law_is T) (hr.mono (by decide)) rfl T.g__law_is T.F__law_is.kp T.B__law_is .nil pass0 (pa_cons (pe_meth (pv 0) T.cl_Ring T.m_Ring_wrap (ok_Ring_wrap T) (hr.mono (by decide)) T.B_Ring_wrap .nil pass0 (pa_cons (pv 4) pa_nil)) (pa_cons (pv 3) pa_nil)))))))))), ?_⟩
    refine ⟨_, rfl, r, dx, _, rfl, hR', lk1 (by decide +kernel), _, rfl, _, rfl, r, w, x, y, rfl, hR, x0, x1, ?_⟩
    refine ⟨_, rfl, _, _, _, _, true, rfl, .ty _, .base (.int _), kit_ty (by decide +kernel), _, rfl, ?_⟩
    refine ⟨_, rfl, _, _, _, _, false, rfl, .ty _, .base (.int _), kit_ty (by decide +kernel), _, rfl, ?_⟩
    refine ⟨_, rfl, _, rfl, _, _, rfl, rfl, ⟨by decide, by decide⟩, _, _, rfl, rfl, _, rfl, _, _, rfl, rfl, true, bl_t (by omega), _, rfl, _, rfl, _, _, rfl, rfl, ⟨by decide, by decide⟩, _, _, rfl, rfl, _, _, rfl, rfl, _, _, rfl, rfl, true, bl_t (by omega), ?_⟩
    refine ⟨_, rfl, _, rfl, _, _, rfl, rfl, .inl ⟨_, rfl, _, rfl, _, _, rfl, rfl, hw, rfl, true, bl_t (int_eq e2), ?_⟩⟩
    refine ⟨_, rfl, r, dx, _, rfl, hR', lk1 (by decide +kernel), _, rfl, r, w, _, rfl, hR, hw, _, rfl, _, _, rfl, ?_⟩
    rw [e1, decide_eq_true rfl]
    exact k
def sp__law_turn (C : Addr) : Sp := fun vs H Q _ => ∃ (p r : Addr) (w : Int), vs = [.ref p, .ref r, .int w] ∧ ∃ c, Purse p c H ∧ RingAt C H r w ∧ Siz w ∧ ∀ H', Purse p c H' → SameX p H H' → Q (.bl true) H'
theorem ring_ne {C : Addr} {H : Hp} {p c r : Addr} {n : Int} (P : Purse p c H) (R : RingAt C H r n) : r ≠ p := by
  obtain ⟨cs, _, _, _, _, h, _⟩ := P.ex
  obtain ⟨dx, h'⟩ := R
  exact ne_of h' h (fun e => nomatch e)
theorem RingAt.on {C : Addr} {H H' : Hp} {p r : Addr} {n : Int} (R : RingAt C H r n) (ne : r ≠ p) (s : SameX p H H') : RingAt C H' r n := by
  obtain ⟨dx, h'⟩ := R
  exact ⟨dx, s _ _ ne h'⟩
theorem ok__law_turn (T : Txt K mg) : FnOk P w K mg base CX0 7 T.a__law_turn T.fd__law_turn ["purse", "ring", "width"] (sp__law_turn T.c_Ring) := by
  have S := sc__law_turn
  refine T.F__law_turn.ok S (fun vs H Q E h => ?_) (fun cdv A outer s H vs Q E hr h => ?_)
  · obtain ⟨p, r, w, rfl, _⟩ := h
    rfl
  · obtain ⟨p, r, w, rfl, c, P0, hR, hz, k⟩ := h
    have nrp := ring_ne P0 hR
    have hw : (0 : Int) < w := by
      obtain ⟨hf, ew, hf0, hf1⟩ := hz
      omega
    refine ⟨_, (pss_cons (ps_set (i := 3) S.nd rfl (Or.inl rfl) (pe_call (ok__law_near T) (hr.mono (by decide)) rfl T.g__law_near T.F__law_near.kp T.B__law_near .nil pass0 (pa_cons (pv 0) (pa_cons (pv 2) pa_nil))))
      (pss_cons (ps_set (i := 4) S.nd rfl (Or.inl rfl) (pe_call (ok__law_shift T) (hr.mono (by decide)) rfl T.g__law_shift T.F__law_shift.kp T.B__law_shift .nil pass0 (pa_cons (pv 0) (pa_cons (pv 2) pa_nil))))
      (pss_cons (ps_set (i := 5) S.nd rfl (Or.inl rfl) (pe_op op_sub (pe_call (ok__law_draw T) (hr.mono (by decide)) rfl T.g__law_draw T.F__law_draw.kp T.B__law_draw .nil pass0 (pa_cons (pv 0) (pa_cons pe_int pa_nil))) pe_int))
      (pss_cons (ps_if (pt_not (pt_val (pe_call (ok__law_returns T) (hr.mono (by decide)) rfl T.g__law_returns T.F__law_returns.kp T.B__law_returns .nil pass0 (pa_cons (pv 1) (pa_cons (pv 2) (pa_cons (pv 3) (pa_cons (pv 4) (pa_cons (pv 5) pa_nil)))))))) (pss_one (ps_ret pe_bl)) pss_nil)
      (pss_cons (ps_set (i := 6) S.nd rfl (Or.inl rfl) (pe_call (ok__law_shift T) (hr.mono (by decide)) rfl T.g__law_shift T.F__law_shift.kp T.B__law_shift .nil pass0 (pa_cons (pv 0) (pa_cons (pv 2) pa_nil))))
      (pss_cons (ps_if (pt_not (pt_val (pe_call (ok__law_lies_near T) (hr.mono (by decide)) rfl T.g__law_lies_near T.F__law_lies_near.kp T.B__law_lies_near .nil pass0 (pa_cons (pv 1) (pa_cons (pv 2) (pa_cons (pv 3) (pa_cons (pv 6) pa_nil))))))) (pss_one (ps_ret pe_bl)) pss_nil)
      (pss_cons (ps_set (i := 7) S.nd rfl (Or.inl rfl) (pe_op op_add (pe_op op_mul (pe_call (ok__law_draw T) (hr.mono (by decide)) rfl T.g__law_draw T.F__law_draw.kp T.B__law_draw .nil pass0 (pa_cons (pv 0) (pa_cons pe_int pa_nil))) pe_int) (pe_call (ok__law_draw T) (hr.mono (by decide)) rfl T.g__law_draw T.F__law_draw.kp T.B__law_draw .nil pass0 (pa_cons (pv 0) (pa_cons pe_int pa_nil)))))
      (C8.pss_cut (ps_if (pt_cmpR op_eq (pe_call (ok__law_draw T) (hr.mono (by decide)) rfl T.g__law_draw T.F__law_draw.kp T.B__law_draw .nil pass0 (pa_cons (pv 0) (pa_cons pe_int pa_nil))) pe_int (nomark _)) (pss_one (ps_set (i := 7) S.nd rfl (Or.inl rfl) (pe_un un_neg (pv 7)))) pss_nil)
      (pss_one (ps_ret (pe_call (ok__law_wraps T) (hr.mono (by decide)) rfl T.g__law_wraps T.F__law_wraps.kp T.B__law_wraps .nil pass0 (pa_cons (pv 1) (pa_cons (pv 2) (pa_cons (pv 7) pa_nil)))))))))))))), ?_⟩
    refine ⟨_, rfl, _, rfl, p, w, rfl, c, P0, hz, fun y H1 P1 s1 => ?_⟩
    refine ⟨_, rfl, _, rfl, p, w, rfl, c, P1, hz, fun s H2 s0 s2 P2 t2 => ?_⟩
    refine ⟨_, rfl, p, 5, rfl, c, P2, by decide, by decide, fun l H3 l0 l1 P3 t3 => ⟨_, _, rfl, rfl, ?_⟩⟩
    have q3 := (s1.trans t2).trans t3
    refine ⟨_, rfl, _, rfl, _, rfl, _, rfl, _, rfl, r, w, y, s, _, rfl, hR.on nrp q3, hz, s0, s2, _, rfl, ?_⟩
    refine ⟨_, rfl, _, rfl, p, w, rfl, c, P3, hz, fun x H4 x0 x1 P4 t4 => ?_⟩
    have q4 := q3.trans t4
    refine ⟨_, rfl, _, rfl, _, rfl, _, rfl, r, w, y, x, rfl, hR.on nrp q4, hz, x0, x1, _, rfl, ?_⟩
    refine ⟨_, rfl, p, 1000000, rfl, c, P4, by decide, by decide, fun f H5 f0 f1 P5 t5 => ?_⟩
    refine ⟨_, _, rfl, rfl, .inr ⟨by decide, by decide⟩, _, rfl, p, 1000000, rfl, c, P5, by decide, by decide, fun g H6 g0 g1 P6 t6 => ⟨_, _, rfl, rfl, ?_⟩⟩
    refine ⟨fun σ H' => ∃ (o : Int) (v1 v2 v3 v4 : Option V), σ = [some (.ref p), some (.ref r), some (.int w), v1, v2, v3, v4, some (.int o)] ∧ Purse p c H' ∧ SameX p H H', ?_, ?_⟩
    · refine ⟨_, rfl, p, 2, rfl, c, P6, by decide, by decide, fun i H7 i0 i1 P7 t7 => ⟨rfl, _, rfl, ?_⟩⟩
      have q7 := ((q4.trans t5).trans t6).trans t7
      exact ite2 (fun _ => ⟨_, rfl, _, rfl, _, _, _, _, _, rfl, P7, q7⟩) (fun _ => ⟨_, _, _, _, _, rfl, P7, q7⟩)
    · rintro σ H7 ⟨o, v1, v2, v3, v4, rfl, P7, q7⟩
      exact ⟨_, rfl, _, rfl, _, rfl, r, w, o, rfl, hR.on nrp q7, hw, k _ P7 q7⟩
theorem RingAt.upl {C : Addr} {H : Hp} {r l : Addr} {n : Int} {xs : List V} {o : HO} (R : RingAt C H r n) (h : H l = some (.lst xs)) : RingAt C (upd H l o) r n := by
  obtain ⟨dx, h'⟩ := R
  exact ⟨dx, by rw [upd_ne (ne_of h' h (fun e => nomatch e))]; exact h'⟩
theorem RingAt.sm {C : Addr} {H H' : Hp} {r : Addr} {n : Int} (R : RingAt C H r n) (s : Same H H') : RingAt C H' r n := by
  obtain ⟨dx, h'⟩ := R
  exact ⟨dx, s _ _ h'⟩
def sp_law (K : PySem.W.Frag) : Sp := fun vs H Q _ => ∃ (a : Addr) (ns : List Int), vs = [.ref a] ∧ SqL K H a (ns.map V.int) ∧ ns.length ≤ 63 ∧ ∀ H', Q (.bl true) H'
/-- the rings and their sizes, by two lists -/
def Rgs (C rl wl : Addr) (H : Hp) (qs : List (Addr × Int)) : Prop := H rl = some (.lst (qs.map fun q => V.ref q.1)) ∧ H wl = some (.lst (qs.map fun q => V.int q.2)) ∧ ∀ q ∈ qs, RingAt C H q.1 q.2 ∧ Siz q.2
theorem ok_law (T : Txt K mg) : FnOk P w K mg base CX0 8 T.a_law T.fd_law ["script"] (sp_law K) := by
  have S := sc_law
  refine T.F_law.ok S (fun vs H Q E h => ?_) (fun cdv A outer s H vs Q E hr h => ?_)
  · obtain ⟨a, ns, rfl, _⟩ := h
    rfl
  · obtain ⟨a, ns, rfl, hS, hl, k⟩ := h
    obtain ⟨u1, v1⟩ := T.V_Ring_LEAST
    obtain ⟨u2, v2⟩ := T.V_Ring_GREATEST
    refine ⟨_, (pss_cons (ps_set (i := 1) S.nd rfl (Or.inl rfl) (pe_call (ok__law_purse T) (hr.mono (by decide)) rfl T.g__law_purse T.F__law_purse.kp T.B__law_purse .nil pass0 (pa_cons (pv 0) pa_nil)))
      (pss_cons (ps_if (PW.pt (pw_or (pt_not (pt_val (pe_call (ok__law_is T) (hr.mono (by decide)) rfl T.g__law_is T.F__law_is.kp T.B__law_is .nil pass0 (pa_cons (ClX.pe_cval (pe_glob (v := .ref T.c_Ring) rfl T.g_Ring rfl)) (pa_cons pe_int pa_nil))))) (pw_or1 (pt_not (pt_val (pe_call (ok__law_is T) (hr.mono (by decide)) rfl T.g__law_is T.F__law_is.kp T.B__law_is .nil pass0 (pa_cons (ClX.pe_cval (pe_glob (v := .ref T.c_Ring) rfl T.g_Ring rfl)) (pa_cons pe_int pa_nil)))))))) (pss_one (ps_ret pe_bl)) pss_nil)
      (pss_cons (ps_set (i := 2) S.nd rfl (Or.inl rfl) (pe_lst pa_nil))
      (pss_cons (ps_set (i := 3) S.nd rfl (Or.inl rfl) (pe_lst pa_nil))
      (C8.pss_cut (ps_for PassesOwn.never rfl (pi_range1 (by rfl) T.b_range (pa_cons pe_int pa_nil)) (pg_name (i := 4) S.nd rfl (Or.inl rfl)) (pss_cons (ps_set (i := 5) S.nd rfl (Or.inl rfl) (pe_op op_add pe_int (pe_call (ok__law_draw T) (hr.mono (by decide)) rfl T.g__law_draw T.F__law_draw.kp T.B__law_draw .nil pass0 (pa_cons (pv 1) (pa_cons pe_int pa_nil)))))
      (C8.pss_cut (ps_expr (pe_bm PySem.F.plainAttrs_list PySem.F.slot_list_append PySem.F.type_list_append mt_append (pv 3) (pa_cons (pe_call (ok__law_width T) (hr.mono (by decide)) rfl T.g__law_width T.F__law_width.kp T.B__law_width .nil pass0 (pa_cons (pv 5) pa_nil)) pa_nil)))
      (pss_one (ps_if (pt_cmpR op_eq (pe_call (ok__law_draw T) (hr.mono (by decide)) rfl T.g__law_draw T.F__law_draw.kp T.B__law_draw .nil pass0 (pa_cons (pv 1) (pa_cons pe_int pa_nil))) pe_int (nomark _)) (pss_one (ps_expr (pe_bm PySem.F.plainAttrs_list PySem.F.slot_list_append PySem.F.type_list_append mt_append (pv 2) (pa_cons (pe_make T.M_Ring (ok_Ring_init_ T) (hr.mono (by decide)) rfl T.g_Ring T.B_Ring_init_ .nil pass0 (pa_cons (pe_call (ok__law_width T) (hr.mono (by decide)) rfl T.g__law_width T.F__law_width.kp T.B__law_width .nil pass0 (pa_cons (pv 5) pa_nil)) pa_nil)) pa_nil)))) (pss_one (ps_expr (pe_bm PySem.F.plainAttrs_list PySem.F.slot_list_append PySem.F.type_list_append mt_append (pv 2) (pa_cons (ClX.pe_cmeth (pe_glob (v := .ref T.c_Ring) rfl T.g_Ring rfl) T.R_Ring T.CM_Ring_of_bits ((ok_Ring_of_bits T).raw T.B_Ring_of_bits .nil) (hr.mono (by decide)) pass0 (pa_cons (pv 5) pa_nil)) pa_nil)))))))))
      (pss_cons (ps_for PassesOwn.never rfl (pi_range1 (by rfl) T.b_range (pa_cons (pe_op op_add pe_int (pe_call (ok__law_draw T) (hr.mono (by decide)) rfl T.g__law_draw T.F__law_draw.kp T.B__law_draw .nil pass0 (pa_cons (pv 1) (pa_cons pe_int pa_nil)))) pa_nil)) (pg_name (i := 4) S.nd rfl (Or.inl rfl)) (pss_cons (ps_set (i := 6) S.nd rfl (Or.inl rfl) (pe_call (ok__law_draw T) (hr.mono (by decide)) rfl T.g__law_draw T.F__law_draw.kp T.B__law_draw .nil pass0 (pa_cons (pv 1) (pa_cons pe_int pa_nil))))
      (pss_one (ps_if (pt_not (pt_val (pe_call (ok__law_turn T) (hr.mono (by decide)) rfl T.g__law_turn T.F__law_turn.kp T.B__law_turn .nil pass0 (pa_cons (pv 1) (pa_cons (pe_ix ix_list (pv 2) (pv 6) (fun _ _ => rfl)) (pa_cons (pe_ix ix_list (pv 3) (pv 6) (fun _ _ => rfl)) pa_nil)))))) (pss_one (ps_ret pe_bl)) pss_nil))))
      (pss_one (ps_ret (pe_and (pe_call (ok__law_is T) (hr.mono (by decide)) rfl T.g__law_is T.F__law_is.kp T.B__law_is .nil pass0 (pa_cons (pe_fld (pe_ix ix_list (pv 2) pe_int (fun _ _ => rfl)) rfl) (pa_cons (pe_ix ix_list (pv 3) pe_int (fun _ _ => rfl)) pa_nil))) (pe_one (pe_call (ok__law_is T) (hr.mono (by decide)) rfl T.g__law_is T.F__law_is.kp T.B__law_is .nil pass0 (pa_cons (pe_fld (pe_ix ix_list (pv 2) pe_int (fun _ _ => rfl)) rfl) (pa_cons (pe_ix ix_list (pv 3) pe_int (fun _ _ => rfl)) pa_nil))))))))))))), ?_⟩
    refine ⟨_, rfl, a, ns, rfl, hS, fun p c H1 _ _ npc P1 _ => ?_⟩
    refine ⟨_, T.mc_Ring, _, u1, rfl, T.R_Ring, v1, _, _, rfl, true, bl_t rfl, _, T.mc_Ring, _, u2, rfl, T.R_Ring, v2, _, _, rfl, true, bl_t rfl, ?_⟩
    refine ⟨Nat.zero_le _, fun rl nr => ⟨Nat.zero_le _, fun wl nw => ?_⟩⟩
    obtain ⟨⟨_, hp⟩, _, hc⟩ := P1.there
    have npr : p ≠ rl := ne_of_none hp nr
    have ncr : c ≠ rl := ne_of_none hc nr
    have nrw : rl ≠ wl := ne_of_none upd_same nw
    have npw : p ≠ wl := ne_of_none (by rw [upd_ne npr]; exact hp) nw
    have ncw : c ≠ wl := ne_of_none (by rw [upd_ne ncr]; exact hc) nw
    refine ⟨fun σ H' => ∃ (q0 q1 : Addr × Int) (v5 v6 v7 : Option V), σ = [some (.ref a), some (.ref p), some (.ref rl), some (.ref wl), v5, v6, v7] ∧ Rgs T.c_Ring rl wl H' [q0, q1] ∧ Purse p c H', ?_, ?_⟩
    · refine ⟨2, rfl, by decide, by decide, for_range (lo := 0) (n := (2 : Int).toNat) (fun i σ H' => ∃ (qs : List (Addr × Int)) (v5 v6 v7 : Option V), qs.length = i ∧ σ = [some (.ref a), some (.ref p), some (.ref rl), some (.ref wl), v5, v6, v7] ∧ Rgs T.c_Ring rl wl H' qs ∧ Purse p c H')
        ⟨[], none, none, none, rfl, rfl, ⟨by rw [upd_ne nrw]; exact upd_same, upd_same, fun q hq => nomatch hq⟩, P1.keep (by rw [upd_ne npw, upd_ne npr]) (by rw [upd_ne ncw, upd_ne ncr])⟩ ?_ ?_⟩
      · rintro i σ H2 hi ⟨qs, v5, v6, v7, el, rfl, ⟨hr2, hw2, hq2⟩, P2⟩
        have hi' : i < 2 := hi
        have hlen : qs.length ≤ 1000 := by omega
        refine ⟨_, rfl, p, 27, rfl, c, P2, by decide, by decide, fun d H3 d0 d1 P3 s3 => ⟨_, _, rfl, rfl, ?_⟩⟩
        obtain ⟨b, hb⟩ : ∃ b : Nat, 6 + d = (b : Int) := ⟨(6 + d).toNat, by omega⟩
        dsimp only
        rw [hb]
        refine ⟨fun σ H' => ∃ (b : Nat), σ = [some (.ref a), some (.ref p), some (.ref rl), some (.ref wl), some (.int (0 + i)), some (.int b), v7] ∧ 6 ≤ b ∧ b ≤ 32 ∧ H' rl = some (.lst (qs.map fun q => V.ref q.1)) ∧ H' wl = some (.lst ((qs.map fun q => V.int q.2) ++ [V.int (2 ^ b)])) ∧ (∀ q ∈ qs, RingAt T.c_Ring H' q.1 q.2 ∧ Siz q.2) ∧ Purse p c H', ?_, ?_⟩
        · have hr3 := s3 _ _ npr.symm hr2
          have hw3 := s3 _ _ npw.symm hw2
          refine ⟨_, rfl, .inl ⟨rfl, _, SqL.of hw3⟩, _, rfl, b, rfl, by omega, wl, _, _, rfl, rfl, hw3, (by rw [List.length_map]; exact small1000 hlen), ?_⟩
          refine ⟨b, rfl, by omega, by omega, by rw [upd_ne nrw]; exact hr3, upd_same, fun q hq => ⟨((hq2 q hq).1.on (ring_ne P2 (hq2 q hq).1) s3).upl hw3, (hq2 q hq).2⟩, P3.keep (upd_ne npw) (upd_ne ncw)⟩
        · rintro σ H3 ⟨b, rfl, b6, b32, hr3, hw3, hq3, P3⟩
          obtain ⟨hz, _⟩ := pow_siz b b6 b32
          -- the new ring behind the others
          have fin' : ∀ (r : Addr) (H6 : Hp), H6 rl = some (.lst (qs.map fun q => V.ref q.1)) → H6 wl = some (.lst ((qs.map fun q => V.int q.2) ++ [V.int (2 ^ b)])) → (∀ q ∈ qs, RingAt T.c_Ring H6 q.1 q.2 ∧ Siz q.2) → Purse p c H6 → RingAt T.c_Ring H6 r (2 ^ b) →
              ∃ (qs' : List (Addr × Int)) (v5 v6 v7' : Option V), qs'.length = i + 1 ∧ [some (V.ref a), some (V.ref p), some (V.ref rl), some (V.ref wl), some (V.int (0 + i)), some (V.int b), v7] = [some (V.ref a), some (V.ref p), some (V.ref rl), some (V.ref wl), v5, v6, v7'] ∧
                Rgs T.c_Ring rl wl (upd H6 rl (.lst ((qs.map fun q => V.ref q.1) ++ [V.ref r]))) qs' ∧ Purse p c (upd H6 rl (.lst ((qs.map fun q => V.ref q.1) ++ [V.ref r]))) := by
            intro r H6 hr6 hw6 hq6 P6 hR
            refine ⟨qs ++ [(r, 2 ^ b)], _, _, _, by rw [List.length_append, el]; rfl, rfl, ⟨?_, ?_, ?_⟩, P6.keep (upd_ne npr) (upd_ne ncr)⟩
            · rw [upd_same, List.map_append]
              rfl
            · rw [upd_ne nrw.symm, hw6, List.map_append]
              rfl
            · intro q hq
              rcases List.mem_append.mp hq with h | h
              · exact ⟨(hq6 q h).1.upl hr6, (hq6 q h).2⟩
              · rw [List.mem_singleton.mp h]
                exact ⟨hR.upl hr6, hz⟩
          refine ⟨_, rfl, p, 2, rfl, c, P3, by decide, by decide, fun d H4 d0 d1 P4 s4 => ⟨rfl, _, rfl, ?_⟩⟩
          have hr4 := s4 _ _ npr.symm hr3
          have hw4 := s4 _ _ npw.symm hw3
          have hq4 : ∀ q ∈ qs, RingAt T.c_Ring H4 q.1 q.2 ∧ Siz q.2 := fun q hq => ⟨(hq3 q hq).1.on (ring_ne P3 (hq3 q hq).1) s4, (hq3 q hq).2⟩
          refine ite2 (fun _ => ?_) (fun _ => ?_)
          · refine ⟨_, rfl, .inl ⟨rfl, _, SqL.of hr4⟩, _, rfl, b, rfl, by omega, fun r dx nr5 nd5 ne => ?_⟩
            refine ⟨r, dx, b, rfl, upd_same, b6, b32, fun H6 s6 hR => ⟨rfl, ?_⟩⟩
            have ss := made_same nr5 nd5 s6
            refine ⟨rl, _, _, rfl, rfl, ss _ _ hr4, (by rw [List.length_map]; exact small1000 hlen), ?_⟩
            exact fin' r H6 (ss _ _ hr4) (ss _ _ hw4) (fun q hq => ⟨(hq4 q hq).1.sm ss, (hq4 q hq).2⟩) (P4.same ss) ⟨dx, hR⟩
          · refine ⟨_, rfl, .inl ⟨rfl, _, SqL.of hr4⟩, rfl, _, rfl, b, rfl, b6, b32, fun r H6 nr6 ss hR => ?_⟩
            refine ⟨rl, _, _, rfl, rfl, ss _ _ hr4, (by rw [List.length_map]; exact small1000 hlen), ?_⟩
            exact fin' r H6 (ss _ _ hr4) (ss _ _ hw4) (fun q hq => ⟨(hq4 q hq).1.sm ss, (hq4 q hq).2⟩) (P4.same ss) hR
      · rintro σ H2 ⟨qs, v5, v6, v7, el, rfl, R2, P2⟩
        match qs, el with
        | [q0, q1], _ => exact ⟨q0, q1, v5, v6, v7, rfl, R2, P2⟩
    · rintro σ H2 ⟨q0, q1, v5, v6, v7, rfl, R2, P2⟩
      refine ⟨_, rfl, p, 5, rfl, c, P2, by decide, by decide, fun d H3 d0 d1 P3 s3 => ⟨_, _, rfl, rfl, ?_⟩⟩
      have on : ∀ {H H'}, Purse p c H → Rgs T.c_Ring rl wl H [q0, q1] → SameX p H H' → Rgs T.c_Ring rl wl H' [q0, q1] := fun P R s => ⟨s _ _ npr.symm R.1, s _ _ npw.symm R.2.1, fun q hq => ⟨(R.2.2 q hq).1.on (ring_ne P (R.2.2 q hq).1) s, (R.2.2 q hq).2⟩⟩
      refine ⟨_, rfl, by omega, by omega, for_range (lo := 0) (n := (2 + d).toNat) (fun i σ H' => ∃ (v5 v6 v7 : Option V), σ = [some (.ref a), some (.ref p), some (.ref rl), some (.ref wl), v5, v6, v7] ∧ Rgs T.c_Ring rl wl H' [q0, q1] ∧ Purse p c H')
        ⟨_, _, _, rfl, on P2 R2 s3, P3⟩ ?_ ?_⟩
      · rintro i σ H4 hi ⟨v5, v6, v7, rfl, R4, P4⟩
        refine ⟨_, rfl, p, 2, rfl, c, P4, by decide, by decide, fun e H5 e0 e1 P5 s5 => ?_⟩
        have R5 := on P4 R4 s5
        have hw : ∃ q, q ∈ [q0, q1] ∧ atI (([q0, q1] : List (Addr × Int)).map fun q => V.ref q.1) e = some (.ref q.1) ∧ atI (([q0, q1] : List (Addr × Int)).map fun q => V.int q.2) e = some (.int q.2) := by
          rcases (show e = 0 ∨ e = 1 by omega) with rfl | rfl
          · exact ⟨q0, List.mem_cons_self, rfl, rfl⟩
          · exact ⟨q1, List.mem_cons_of_mem _ List.mem_cons_self, rfl, rfl⟩
        obtain ⟨q, hq, hx, hy⟩ := hw
        refine ⟨_, rfl, _, rfl, _, rfl, _, _, _, _, rfl, rfl, SqL.of R5.1, hx, _, rfl, _, rfl, _, _, _, _, rfl, rfl, SqL.of R5.2.1, hy, p, q.1, q.2, rfl, c, P5, (R5.2.2 q hq).1, (R5.2.2 q hq).2, fun H6 P6 s6 => ⟨_, rfl, ?_⟩⟩
        exact ⟨_, _, _, rfl, on P5 R5 s6, P6⟩
      · rintro σ H4 ⟨v5, v6, v7, rfl, R4, P4⟩
        obtain ⟨⟨dx, h0⟩, _⟩ := R4.2.2 q0 List.mem_cons_self
        obtain ⟨⟨dy, h1⟩, _⟩ := R4.2.2 q1 (List.mem_cons_of_mem _ List.mem_cons_self)
        refine ⟨_, rfl, _, _, _, _, rfl, rfl, SqL.of R4.1, rfl, q0.1, _, dx, _, _, rfl, h0, T.cl_Ring, T.n_Ring_size, rfl, _, rfl, _, _, _, _, rfl, rfl, SqL.of R4.2.1, rfl, _, _, rfl, true, bl_t rfl, ?_⟩
        refine ⟨_, rfl, _, _, _, _, rfl, rfl, SqL.of R4.1, rfl, q1.1, _, dy, _, _, rfl, h1, T.cl_Ring, T.n_Ring_size, rfl, _, rfl, _, _, _, _, rfl, rfl, SqL.of R4.2.1, rfl, _, _, rfl, ?_⟩
        rw [decide_eq_true rfl]
        exact k _
end
set_option maxHeartbeats 0 in
theorem all_mk {l : PySem.W.OpenLaw} {w : World} {K : PySem.W.Frag} {h : Heap} {mg : Str → Option Value} {fa : Addr} (X : K.In h) (G : h.Ns mainGlobals mg) (hfa : mg "law" = some (.ref fa))
    {c_Ring a_is_integer a_is_between a_Ring_init_ a_Ring_of_bits p_Ring_of_bits a_Ring_contains_ a_Ring_wrap a_Ring_unwrap a_Ring_require a_is_size a__law_purse a__law_draw a__law_is a__law_width a__law_near a__law_shift a__law_wraps a__law_returns a__law_lies_near a__law_turn a_law : Addr}
    {od_is_integer an_is_integer od_is_between an_is_between od_Ring_init_ an_Ring_init_ od_Ring_of_bits an_Ring_of_bits od_Ring_contains_ an_Ring_contains_ od_Ring_wrap an_Ring_wrap od_Ring_unwrap an_Ring_unwrap od_Ring_require an_Ring_require od_is_size an_is_size od__law_purse an__law_purse od__law_draw an__law_draw od__law_is an__law_is od__law_width an__law_width od__law_near an__law_near od__law_shift an__law_shift od__law_wraps an__law_wraps od__law_returns an__law_returns od__law_lies_near an__law_lies_near od__law_turn an__law_turn od_law an_law : Option Addr} {sl_is_integer sl_is_between sl_Ring_init_ sl_Ring_of_bits sl_Ring_contains_ sl_Ring_wrap sl_Ring_unwrap sl_Ring_require sl_is_size sl__law_purse sl__law_draw sl__law_is sl__law_width sl__law_near sl__law_shift sl__law_wraps sl__law_returns sl__law_lies_near sl__law_turn sl_law : Array (Option Value)}
    {oc_is_integer kV_is_integer dc_is_integer pm_is_integer cd_is_integer ct_is_integer oc_is_between kV_is_between dc_is_between pm_is_between cd_is_between ct_is_between oc_Ring_init_ kV_Ring_init_ dc_Ring_init_ pm_Ring_init_ cd_Ring_init_ ct_Ring_init_ oc_Ring_of_bits kV_Ring_of_bits dc_Ring_of_bits pm_Ring_of_bits cd_Ring_of_bits ct_Ring_of_bits oc_Ring_contains_ kV_Ring_contains_ dc_Ring_contains_ pm_Ring_contains_ cd_Ring_contains_ ct_Ring_contains_ oc_Ring_wrap kV_Ring_wrap dc_Ring_wrap pm_Ring_wrap cd_Ring_wrap ct_Ring_wrap oc_Ring_unwrap kV_Ring_unwrap dc_Ring_unwrap pm_Ring_unwrap cd_Ring_unwrap ct_Ring_unwrap oc_Ring_require kV_Ring_require dc_Ring_require pm_Ring_require cd_Ring_require ct_Ring_require oc_is_size kV_is_size dc_is_size pm_is_size cd_is_size ct_is_size oc__law_purse kV__law_purse dc__law_purse pm__law_purse cd__law_purse ct__law_purse oc__law_draw kV__law_draw dc__law_draw pm__law_draw cd__law_draw ct__law_draw oc__law_is kV__law_is dc__law_is pm__law_is cd__law_is ct__law_is oc__law_width kV__law_width dc__law_width pm__law_width cd__law_width ct__law_width oc__law_near kV__law_near dc__law_near pm__law_near cd__law_near ct__law_near oc__law_shift kV__law_shift dc__law_shift pm__law_shift cd__law_shift ct__law_shift oc__law_wraps kV__law_wraps dc__law_wraps pm__law_wraps cd__law_wraps ct__law_wraps oc__law_returns kV__law_returns dc__law_returns pm__law_returns cd__law_returns ct__law_returns oc__law_lies_near kV__law_lies_near dc__law_lies_near pm__law_lies_near cd__law_lies_near ct__law_lies_near oc__law_turn kV__law_turn dc__law_turn pm__law_turn cd__law_turn ct__law_turn oc_law kV_law dc_law pm_law cd_law ct_law : Value}
    {u_Ring_LEAST u_Ring_GREATEST : Value}
    {rs_Ring_of_bits : List Value}
    (aC_Ring : PySem.W.nsIn K mainGlobals "Ring" = some (some (.ref c_Ring)))
    (pg_Ring : PySem.W.plainGet K c_Ring Str.empty = true)
    (hd_Ring : PySem.W.hasDictIn K c_Ring = true)
    (po_Ring : PySem.W.plainOver K c_Ring = true)
    (sa_Ring : PySem.W.findIn K (.ref c_Ring) "__setattr__" = some (some (.builtin "object.__setattr__")))
    (mk_Ring : PySem.W.makesIn K c_Ring = true)
    (kc_Ring : PySem.W.keepIn K (.ref c_Ring) = true)
    (n_Ring_size : PySem.W.findIn K (.ref c_Ring) "size" = some none)
    (rd_Ring : PySem.W.readsIn K c_Ring (.type "type") = true)
    (ga_Ring : PySem.W.specialIn K (.ref c_Ring) "__getattribute__" = some (some (.builtin "type.__getattribute__")))
    (va_Ring_LEAST : PySem.W.findCls K (.ref c_Ring) (.type "type") "LEAST" = some (.val u_Ring_LEAST))
    (va_Ring_GREATEST : PySem.W.findCls K (.ref c_Ring) (.type "type") "GREATEST" = some (.val u_Ring_GREATEST))
    (a_is_integer' : PySem.W.nsIn K mainGlobals "is_integer" = some (some (.ref a_is_integer)))
    (l_is_integer : K.lookup a_is_integer = some ⟨oc_is_integer, od_is_integer, .func (PySem.W.fnOf "is_integer" "is_integer" (defArgs s_is_integer) (defBody s_is_integer) (defScope s_is_integer) .none kV_is_integer dc_is_integer pm_is_integer an_is_integer cd_is_integer ct_is_integer), sl_is_integer⟩)
    (e_is_integer : PySem.W.codeIn K cd_is_integer "is_integer" = true)
    (k_is_integer : PySem.W.keepIn K (.ref a_is_integer) = true)
    (a_is_between' : PySem.W.nsIn K mainGlobals "is_between" = some (some (.ref a_is_between)))
    (l_is_between : K.lookup a_is_between = some ⟨oc_is_between, od_is_between, .func (PySem.W.fnOf "is_between" "is_between" (defArgs s_is_between) (defBody s_is_between) (defScope s_is_between) .none kV_is_between dc_is_between pm_is_between an_is_between cd_is_between ct_is_between), sl_is_between⟩)
    (e_is_between : PySem.W.codeIn K cd_is_between "is_between" = true)
    (k_is_between : PySem.W.keepIn K (.ref a_is_between) = true)
    (a_Ring_init_' : PySem.W.findIn K (.ref c_Ring) "__init__" = some (some (.ref a_Ring_init_)))
    (i_Ring_init_ : PySem.W.isFn K (.ref a_Ring_init_) = true)
    (l_Ring_init_ : K.lookup a_Ring_init_ = some ⟨oc_Ring_init_, od_Ring_init_, .func (PySem.W.fnOf "__init__" "Ring.__init__" (defArgs s_Ring_init_) (defBody s_Ring_init_) (defScope s_Ring_init_) .none kV_Ring_init_ dc_Ring_init_ pm_Ring_init_ an_Ring_init_ cd_Ring_init_ ct_Ring_init_), sl_Ring_init_⟩)
    (e_Ring_init_ : PySem.W.codeIn K cd_Ring_init_ "Ring.__init__" = true)
    (k_Ring_init_ : PySem.W.keepIn K (.ref a_Ring_init_) = true)
    (a_Ring_of_bits' : PySem.W.findCls K (.ref c_Ring) (.type "type") "of_bits" = some (.get (.builtin "classmethod.__get__") (.ref p_Ring_of_bits) .none (.ref c_Ring)))
    (rc_Ring_of_bits : PySem.W.recIn K p_Ring_of_bits "classmethod" = some (.ref a_Ring_of_bits :: rs_Ring_of_bits))
    (fi_Ring_of_bits : PySem.W.fnIn K a_Ring_of_bits = true)
    (l_Ring_of_bits : K.lookup a_Ring_of_bits = some ⟨oc_Ring_of_bits, od_Ring_of_bits, .func (PySem.W.fnOf "of_bits" "Ring.of_bits" (defArgs s_Ring_of_bits) (defBody s_Ring_of_bits) (defScope s_Ring_of_bits) .none kV_Ring_of_bits dc_Ring_of_bits pm_Ring_of_bits an_Ring_of_bits cd_Ring_of_bits ct_Ring_of_bits), sl_Ring_of_bits⟩)
    (e_Ring_of_bits : PySem.W.codeIn K cd_Ring_of_bits "Ring.of_bits" = true)
    (k_Ring_of_bits : PySem.W.keepIn K (.ref a_Ring_of_bits) = true)
    (a_Ring_contains_' : PySem.W.findIn K (.ref c_Ring) "__contains__" = some (some (.ref a_Ring_contains_)))
    (i_Ring_contains_ : PySem.W.isFn K (.ref a_Ring_contains_) = true)
    (l_Ring_contains_ : K.lookup a_Ring_contains_ = some ⟨oc_Ring_contains_, od_Ring_contains_, .func (PySem.W.fnOf "__contains__" "Ring.__contains__" (defArgs s_Ring_contains_) (defBody s_Ring_contains_) (defScope s_Ring_contains_) .none kV_Ring_contains_ dc_Ring_contains_ pm_Ring_contains_ an_Ring_contains_ cd_Ring_contains_ ct_Ring_contains_), sl_Ring_contains_⟩)
    (e_Ring_contains_ : PySem.W.codeIn K cd_Ring_contains_ "Ring.__contains__" = true)
    (k_Ring_contains_ : PySem.W.keepIn K (.ref a_Ring_contains_) = true)
    (a_Ring_wrap' : PySem.W.findIn K (.ref c_Ring) "wrap" = some (some (.ref a_Ring_wrap)))
    (i_Ring_wrap : PySem.W.isFn K (.ref a_Ring_wrap) = true)
    (l_Ring_wrap : K.lookup a_Ring_wrap = some ⟨oc_Ring_wrap, od_Ring_wrap, .func (PySem.W.fnOf "wrap" "Ring.wrap" (defArgs s_Ring_wrap) (defBody s_Ring_wrap) (defScope s_Ring_wrap) .none kV_Ring_wrap dc_Ring_wrap pm_Ring_wrap an_Ring_wrap cd_Ring_wrap ct_Ring_wrap), sl_Ring_wrap⟩)
    (e_Ring_wrap : PySem.W.codeIn K cd_Ring_wrap "Ring.wrap" = true)
    (k_Ring_wrap : PySem.W.keepIn K (.ref a_Ring_wrap) = true)
    (a_Ring_unwrap' : PySem.W.findIn K (.ref c_Ring) "unwrap" = some (some (.ref a_Ring_unwrap)))
    (i_Ring_unwrap : PySem.W.isFn K (.ref a_Ring_unwrap) = true)
    (l_Ring_unwrap : K.lookup a_Ring_unwrap = some ⟨oc_Ring_unwrap, od_Ring_unwrap, .func (PySem.W.fnOf "unwrap" "Ring.unwrap" (defArgs s_Ring_unwrap) (defBody s_Ring_unwrap) (defScope s_Ring_unwrap) .none kV_Ring_unwrap dc_Ring_unwrap pm_Ring_unwrap an_Ring_unwrap cd_Ring_unwrap ct_Ring_unwrap), sl_Ring_unwrap⟩)
    (e_Ring_unwrap : PySem.W.codeIn K cd_Ring_unwrap "Ring.unwrap" = true)
    (k_Ring_unwrap : PySem.W.keepIn K (.ref a_Ring_unwrap) = true)
    (a_Ring_require' : PySem.W.findIn K (.ref c_Ring) "_require" = some (some (.ref a_Ring_require)))
    (i_Ring_require : PySem.W.isFn K (.ref a_Ring_require) = true)
    (l_Ring_require : K.lookup a_Ring_require = some ⟨oc_Ring_require, od_Ring_require, .func (PySem.W.fnOf "_require" "Ring._require" (defArgs s_Ring_require) (defBody s_Ring_require) (defScope s_Ring_require) .none kV_Ring_require dc_Ring_require pm_Ring_require an_Ring_require cd_Ring_require ct_Ring_require), sl_Ring_require⟩)
    (e_Ring_require : PySem.W.codeIn K cd_Ring_require "Ring._require" = true)
    (k_Ring_require : PySem.W.keepIn K (.ref a_Ring_require) = true)
    (a_is_size' : PySem.W.nsIn K mainGlobals "is_size" = some (some (.ref a_is_size)))
    (l_is_size : K.lookup a_is_size = some ⟨oc_is_size, od_is_size, .func (PySem.W.fnOf "is_size" "is_size" (defArgs s_is_size) (defBody s_is_size) (defScope s_is_size) .none kV_is_size dc_is_size pm_is_size an_is_size cd_is_size ct_is_size), sl_is_size⟩)
    (e_is_size : PySem.W.codeIn K cd_is_size "is_size" = true)
    (k_is_size : PySem.W.keepIn K (.ref a_is_size) = true)
    (a__law_purse' : PySem.W.nsIn K mainGlobals "_law_purse" = some (some (.ref a__law_purse)))
    (l__law_purse : K.lookup a__law_purse = some ⟨oc__law_purse, od__law_purse, .func (PySem.W.fnOf "_law_purse" "_law_purse" (defArgs s__law_purse) (defBody s__law_purse) (defScope s__law_purse) .none kV__law_purse dc__law_purse pm__law_purse an__law_purse cd__law_purse ct__law_purse), sl__law_purse⟩)
    (e__law_purse : PySem.W.codeIn K cd__law_purse "_law_purse" = true)
    (k__law_purse : PySem.W.keepIn K (.ref a__law_purse) = true)
    (a__law_draw' : PySem.W.nsIn K mainGlobals "_law_draw" = some (some (.ref a__law_draw)))
    (l__law_draw : K.lookup a__law_draw = some ⟨oc__law_draw, od__law_draw, .func (PySem.W.fnOf "_law_draw" "_law_draw" (defArgs s__law_draw) (defBody s__law_draw) (defScope s__law_draw) .none kV__law_draw dc__law_draw pm__law_draw an__law_draw cd__law_draw ct__law_draw), sl__law_draw⟩)
    (e__law_draw : PySem.W.codeIn K cd__law_draw "_law_draw" = true)
    (k__law_draw : PySem.W.keepIn K (.ref a__law_draw) = true)
    (a__law_is' : PySem.W.nsIn K mainGlobals "_law_is" = some (some (.ref a__law_is)))
    (l__law_is : K.lookup a__law_is = some ⟨oc__law_is, od__law_is, .func (PySem.W.fnOf "_law_is" "_law_is" (defArgs s__law_is) (defBody s__law_is) (defScope s__law_is) .none kV__law_is dc__law_is pm__law_is an__law_is cd__law_is ct__law_is), sl__law_is⟩)
    (e__law_is : PySem.W.codeIn K cd__law_is "_law_is" = true)
    (k__law_is : PySem.W.keepIn K (.ref a__law_is) = true)
    (a__law_width' : PySem.W.nsIn K mainGlobals "_law_width" = some (some (.ref a__law_width)))
    (l__law_width : K.lookup a__law_width = some ⟨oc__law_width, od__law_width, .func (PySem.W.fnOf "_law_width" "_law_width" (defArgs s__law_width) (defBody s__law_width) (defScope s__law_width) .none kV__law_width dc__law_width pm__law_width an__law_width cd__law_width ct__law_width), sl__law_width⟩)
    (e__law_width : PySem.W.codeIn K cd__law_width "_law_width" = true)
    (k__law_width : PySem.W.keepIn K (.ref a__law_width) = true)
    (a__law_near' : PySem.W.nsIn K mainGlobals "_law_near" = some (some (.ref a__law_near)))
    (l__law_near : K.lookup a__law_near = some ⟨oc__law_near, od__law_near, .func (PySem.W.fnOf "_law_near" "_law_near" (defArgs s__law_near) (defBody s__law_near) (defScope s__law_near) .none kV__law_near dc__law_near pm__law_near an__law_near cd__law_near ct__law_near), sl__law_near⟩)
    (e__law_near : PySem.W.codeIn K cd__law_near "_law_near" = true)
    (k__law_near : PySem.W.keepIn K (.ref a__law_near) = true)
    (a__law_shift' : PySem.W.nsIn K mainGlobals "_law_shift" = some (some (.ref a__law_shift)))
    (l__law_shift : K.lookup a__law_shift = some ⟨oc__law_shift, od__law_shift, .func (PySem.W.fnOf "_law_shift" "_law_shift" (defArgs s__law_shift) (defBody s__law_shift) (defScope s__law_shift) .none kV__law_shift dc__law_shift pm__law_shift an__law_shift cd__law_shift ct__law_shift), sl__law_shift⟩)
    (e__law_shift : PySem.W.codeIn K cd__law_shift "_law_shift" = true)
    (k__law_shift : PySem.W.keepIn K (.ref a__law_shift) = true)
    (a__law_wraps' : PySem.W.nsIn K mainGlobals "_law_wraps" = some (some (.ref a__law_wraps)))
    (l__law_wraps : K.lookup a__law_wraps = some ⟨oc__law_wraps, od__law_wraps, .func (PySem.W.fnOf "_law_wraps" "_law_wraps" (defArgs s__law_wraps) (defBody s__law_wraps) (defScope s__law_wraps) .none kV__law_wraps dc__law_wraps pm__law_wraps an__law_wraps cd__law_wraps ct__law_wraps), sl__law_wraps⟩)
    (e__law_wraps : PySem.W.codeIn K cd__law_wraps "_law_wraps" = true)
    (k__law_wraps : PySem.W.keepIn K (.ref a__law_wraps) = true)
    (a__law_returns' : PySem.W.nsIn K mainGlobals "_law_returns" = some (some (.ref a__law_returns)))
    (l__law_returns : K.lookup a__law_returns = some ⟨oc__law_returns, od__law_returns, .func (PySem.W.fnOf "_law_returns" "_law_returns" (defArgs s__law_returns) (defBody s__law_returns) (defScope s__law_returns) .none kV__law_returns dc__law_returns pm__law_returns an__law_returns cd__law_returns ct__law_returns), sl__law_returns⟩)
    (e__law_returns : PySem.W.codeIn K cd__law_returns "_law_returns" = true)
    (k__law_returns : PySem.W.keepIn K (.ref a__law_returns) = true)
    (a__law_lies_near' : PySem.W.nsIn K mainGlobals "_law_lies_near" = some (some (.ref a__law_lies_near)))
    (l__law_lies_near : K.lookup a__law_lies_near = some ⟨oc__law_lies_near, od__law_lies_near, .func (PySem.W.fnOf "_law_lies_near" "_law_lies_near" (defArgs s__law_lies_near) (defBody s__law_lies_near) (defScope s__law_lies_near) .none kV__law_lies_near dc__law_lies_near pm__law_lies_near an__law_lies_near cd__law_lies_near ct__law_lies_near), sl__law_lies_near⟩)
    (e__law_lies_near : PySem.W.codeIn K cd__law_lies_near "_law_lies_near" = true)
    (k__law_lies_near : PySem.W.keepIn K (.ref a__law_lies_near) = true)
    (a__law_turn' : PySem.W.nsIn K mainGlobals "_law_turn" = some (some (.ref a__law_turn)))
    (l__law_turn : K.lookup a__law_turn = some ⟨oc__law_turn, od__law_turn, .func (PySem.W.fnOf "_law_turn" "_law_turn" (defArgs s__law_turn) (defBody s__law_turn) (defScope s__law_turn) .none kV__law_turn dc__law_turn pm__law_turn an__law_turn cd__law_turn ct__law_turn), sl__law_turn⟩)
    (e__law_turn : PySem.W.codeIn K cd__law_turn "_law_turn" = true)
    (k__law_turn : PySem.W.keepIn K (.ref a__law_turn) = true)
    (a_law' : PySem.W.nsIn K mainGlobals "law" = some (some (.ref a_law)))
    (l_law : K.lookup a_law = some ⟨oc_law, od_law, .func (PySem.W.fnOf "law" "law" (defArgs s_law) (defBody s_law) (defScope s_law) .none kV_law dc_law pm_law an_law cd_law ct_law), sl_law⟩)
    (e_law : PySem.W.codeIn K cd_law "law" = true)
    (k_law : PySem.W.keepIn K (.ref a_law) = true)
    (z_bool : PySem.W.nsIn K mainGlobals "bool" = some none)
    (z_classmethod : PySem.W.nsIn K mainGlobals "classmethod" = some none)
    (z_int : PySem.W.nsIn K mainGlobals "int" = some none)
    (z_isinstance : PySem.W.nsIn K mainGlobals "isinstance" = some none)
    (z_len : PySem.W.nsIn K mainGlobals "len" = some none)
    (z_range : PySem.W.nsIn K mainGlobals "range" = some none)
    (w_Ring_LEAST : RelV (.int 64) u_Ring_LEAST)
    (w_Ring_GREATEST : RelV (.int 4294967296) u_Ring_GREATEST)
    : ∃ fd : FuncData, (∀ (s : Shared) (v : Value), BindsTo s fd ⟨[v], []⟩ [("script", v)]) ∧ ∀ base : Heap, K.In base → base.Ns mainGlobals mg → FnOk l.prog w K mg base CX0 8 fa fd ["script"] (sp_law K) := by
  have e : fa = a_law := by
    have e0 := hfa.symm.trans (PySem.W.mg_of X G a_law')
    cases e0
    rfl
  rw [e]
  have F_is_integer := fun_mk (st := s_is_integer) l_is_integer e_is_integer k_is_integer
  have F_is_between := fun_mk (st := s_is_between) l_is_between e_is_between k_is_between
  have F_Ring_init_ := fun_mk (st := s_Ring_init_) l_Ring_init_ e_Ring_init_ k_Ring_init_
  have F_Ring_of_bits := fun_mk (st := s_Ring_of_bits) l_Ring_of_bits e_Ring_of_bits k_Ring_of_bits
  have F_Ring_contains_ := fun_mk (st := s_Ring_contains_) l_Ring_contains_ e_Ring_contains_ k_Ring_contains_
  have F_Ring_wrap := fun_mk (st := s_Ring_wrap) l_Ring_wrap e_Ring_wrap k_Ring_wrap
  have F_Ring_unwrap := fun_mk (st := s_Ring_unwrap) l_Ring_unwrap e_Ring_unwrap k_Ring_unwrap
  have F_Ring_require := fun_mk (st := s_Ring_require) l_Ring_require e_Ring_require k_Ring_require
  have F_is_size := fun_mk (st := s_is_size) l_is_size e_is_size k_is_size
  have F__law_purse := fun_mk (st := s__law_purse) l__law_purse e__law_purse k__law_purse
  have F__law_draw := fun_mk (st := s__law_draw) l__law_draw e__law_draw k__law_draw
  have F__law_is := fun_mk (st := s__law_is) l__law_is e__law_is k__law_is
  have F__law_width := fun_mk (st := s__law_width) l__law_width e__law_width k__law_width
  have F__law_near := fun_mk (st := s__law_near) l__law_near e__law_near k__law_near
  have F__law_shift := fun_mk (st := s__law_shift) l__law_shift e__law_shift k__law_shift
  have F__law_wraps := fun_mk (st := s__law_wraps) l__law_wraps e__law_wraps k__law_wraps
  have F__law_returns := fun_mk (st := s__law_returns) l__law_returns e__law_returns k__law_returns
  have F__law_lies_near := fun_mk (st := s__law_lies_near) l__law_lies_near e__law_lies_near k__law_lies_near
  have F__law_turn := fun_mk (st := s__law_turn) l__law_turn e__law_turn k__law_turn
  have F_law := fun_mk (st := s_law) l_law e_law k_law
  let T : Txt K mg := {
    c_Ring := c_Ring,
    g_Ring := PySem.W.mg_of X G aC_Ring,
    cl_Ring := ⟨pg_Ring, hd_Ring, po_Ring, sa_Ring⟩,
    n_Ring_size := n_Ring_size,
    mc_Ring := .type "type",
    R_Ring := ⟨rd_Ring, ga_Ring⟩,
    V_Ring_LEAST := ⟨_, va_Ring_LEAST, w_Ring_LEAST⟩,
    V_Ring_GREATEST := ⟨_, va_Ring_GREATEST, w_Ring_GREATEST⟩,
    a_is_integer := a_is_integer,
    fd_is_integer := PySem.W.fnOf "is_integer" "is_integer" (defArgs s_is_integer) (defBody s_is_integer) (defScope s_is_integer) .none kV_is_integer dc_is_integer pm_is_integer an_is_integer cd_is_integer ct_is_integer,
    F_is_integer := F_is_integer,
    B_is_integer := F_is_integer.binds (ps := ["value"]) fun _ _ _ _ _ _ us hl => match us, hl with | [_], _ => rfl,
    g_is_integer := PySem.W.mg_of X G a_is_integer',
    a_is_between := a_is_between,
    fd_is_between := PySem.W.fnOf "is_between" "is_between" (defArgs s_is_between) (defBody s_is_between) (defScope s_is_between) .none kV_is_between dc_is_between pm_is_between an_is_between cd_is_between ct_is_between,
    F_is_between := F_is_between,
    B_is_between := F_is_between.binds (ps := ["value", "low", "high"]) fun _ _ _ _ _ _ us hl => match us, hl with | [_, _, _], _ => rfl,
    g_is_between := PySem.W.mg_of X G a_is_between',
    a_Ring_init_ := a_Ring_init_,
    fd_Ring_init_ := PySem.W.fnOf "__init__" "Ring.__init__" (defArgs s_Ring_init_) (defBody s_Ring_init_) (defScope s_Ring_init_) .none kV_Ring_init_ dc_Ring_init_ pm_Ring_init_ an_Ring_init_ cd_Ring_init_ ct_Ring_init_,
    F_Ring_init_ := F_Ring_init_,
    B_Ring_init_ := F_Ring_init_.binds (ps := ["self", "size"]) fun _ _ _ _ _ _ us hl => match us, hl with | [_, _], _ => rfl,
    M_Ring := ⟨mk_Ring, a_Ring_init_', i_Ring_init_, kc_Ring⟩,
    a_Ring_of_bits := a_Ring_of_bits,
    fd_Ring_of_bits := PySem.W.fnOf "of_bits" "Ring.of_bits" (defArgs s_Ring_of_bits) (defBody s_Ring_of_bits) (defScope s_Ring_of_bits) .none kV_Ring_of_bits dc_Ring_of_bits pm_Ring_of_bits an_Ring_of_bits cd_Ring_of_bits ct_Ring_of_bits,
    F_Ring_of_bits := F_Ring_of_bits,
    B_Ring_of_bits := F_Ring_of_bits.binds (ps := ["cls", "bits"]) fun _ _ _ _ _ _ us hl => match us, hl with | [_, _], _ => rfl,
    p_Ring_of_bits := p_Ring_of_bits,
    CM_Ring_of_bits := ⟨a_Ring_of_bits', ⟨_, rc_Ring_of_bits⟩, fi_Ring_of_bits⟩,
    a_Ring_contains_ := a_Ring_contains_,
    fd_Ring_contains_ := PySem.W.fnOf "__contains__" "Ring.__contains__" (defArgs s_Ring_contains_) (defBody s_Ring_contains_) (defScope s_Ring_contains_) .none kV_Ring_contains_ dc_Ring_contains_ pm_Ring_contains_ an_Ring_contains_ cd_Ring_contains_ ct_Ring_contains_,
    F_Ring_contains_ := F_Ring_contains_,
    B_Ring_contains_ := F_Ring_contains_.binds (ps := ["self", "number"]) fun _ _ _ _ _ _ us hl => match us, hl with | [_, _], _ => rfl,
    m_Ring_contains_ := ⟨a_Ring_contains_', i_Ring_contains_, k_Ring_contains_⟩,
    a_Ring_wrap := a_Ring_wrap,
    fd_Ring_wrap := PySem.W.fnOf "wrap" "Ring.wrap" (defArgs s_Ring_wrap) (defBody s_Ring_wrap) (defScope s_Ring_wrap) .none kV_Ring_wrap dc_Ring_wrap pm_Ring_wrap an_Ring_wrap cd_Ring_wrap ct_Ring_wrap,
    F_Ring_wrap := F_Ring_wrap,
    B_Ring_wrap := F_Ring_wrap.binds (ps := ["self", "offset"]) fun _ _ _ _ _ _ us hl => match us, hl with | [_, _], _ => rfl,
    m_Ring_wrap := ⟨a_Ring_wrap', i_Ring_wrap, k_Ring_wrap⟩,
    a_Ring_unwrap := a_Ring_unwrap,
    fd_Ring_unwrap := PySem.W.fnOf "unwrap" "Ring.unwrap" (defArgs s_Ring_unwrap) (defBody s_Ring_unwrap) (defScope s_Ring_unwrap) .none kV_Ring_unwrap dc_Ring_unwrap pm_Ring_unwrap an_Ring_unwrap cd_Ring_unwrap ct_Ring_unwrap,
    F_Ring_unwrap := F_Ring_unwrap,
    B_Ring_unwrap := F_Ring_unwrap.binds (ps := ["self", "number", "near"]) fun _ _ _ _ _ _ us hl => match us, hl with | [_, _, _], _ => rfl,
    m_Ring_unwrap := ⟨a_Ring_unwrap', i_Ring_unwrap, k_Ring_unwrap⟩,
    a_Ring_require := a_Ring_require,
    fd_Ring_require := PySem.W.fnOf "_require" "Ring._require" (defArgs s_Ring_require) (defBody s_Ring_require) (defScope s_Ring_require) .none kV_Ring_require dc_Ring_require pm_Ring_require an_Ring_require cd_Ring_require ct_Ring_require,
    F_Ring_require := F_Ring_require,
    B_Ring_require := F_Ring_require.binds (ps := ["self", "number"]) fun _ _ _ _ _ _ us hl => match us, hl with | [_, _], _ => rfl,
    m_Ring_require := ⟨a_Ring_require', i_Ring_require, k_Ring_require⟩,
    a_is_size := a_is_size,
    fd_is_size := PySem.W.fnOf "is_size" "is_size" (defArgs s_is_size) (defBody s_is_size) (defScope s_is_size) .none kV_is_size dc_is_size pm_is_size an_is_size cd_is_size ct_is_size,
    F_is_size := F_is_size,
    B_is_size := F_is_size.binds (ps := ["value"]) fun _ _ _ _ _ _ us hl => match us, hl with | [_], _ => rfl,
    g_is_size := PySem.W.mg_of X G a_is_size',
    a__law_purse := a__law_purse,
    fd__law_purse := PySem.W.fnOf "_law_purse" "_law_purse" (defArgs s__law_purse) (defBody s__law_purse) (defScope s__law_purse) .none kV__law_purse dc__law_purse pm__law_purse an__law_purse cd__law_purse ct__law_purse,
    F__law_purse := F__law_purse,
    B__law_purse := F__law_purse.binds (ps := ["script"]) fun _ _ _ _ _ _ us hl => match us, hl with | [_], _ => rfl,
    g__law_purse := PySem.W.mg_of X G a__law_purse',
    a__law_draw := a__law_draw,
    fd__law_draw := PySem.W.fnOf "_law_draw" "_law_draw" (defArgs s__law_draw) (defBody s__law_draw) (defScope s__law_draw) .none kV__law_draw dc__law_draw pm__law_draw an__law_draw cd__law_draw ct__law_draw,
    F__law_draw := F__law_draw,
    B__law_draw := F__law_draw.binds (ps := ["purse", "many"]) fun _ _ _ _ _ _ us hl => match us, hl with | [_, _], _ => rfl,
    g__law_draw := PySem.W.mg_of X G a__law_draw',
    a__law_is := a__law_is,
    fd__law_is := PySem.W.fnOf "_law_is" "_law_is" (defArgs s__law_is) (defBody s__law_is) (defScope s__law_is) .none kV__law_is dc__law_is pm__law_is an__law_is cd__law_is ct__law_is,
    F__law_is := F__law_is,
    B__law_is := F__law_is.binds (ps := ["actual", "wanted"]) fun _ _ _ _ _ _ us hl => match us, hl with | [_, _], _ => rfl,
    g__law_is := PySem.W.mg_of X G a__law_is',
    a__law_width := a__law_width,
    fd__law_width := PySem.W.fnOf "_law_width" "_law_width" (defArgs s__law_width) (defBody s__law_width) (defScope s__law_width) .none kV__law_width dc__law_width pm__law_width an__law_width cd__law_width ct__law_width,
    F__law_width := F__law_width,
    B__law_width := F__law_width.binds (ps := ["bits"]) fun _ _ _ _ _ _ us hl => match us, hl with | [_], _ => rfl,
    g__law_width := PySem.W.mg_of X G a__law_width',
    a__law_near := a__law_near,
    fd__law_near := PySem.W.fnOf "_law_near" "_law_near" (defArgs s__law_near) (defBody s__law_near) (defScope s__law_near) .none kV__law_near dc__law_near pm__law_near an__law_near cd__law_near ct__law_near,
    F__law_near := F__law_near,
    B__law_near := F__law_near.binds (ps := ["purse", "width"]) fun _ _ _ _ _ _ us hl => match us, hl with | [_, _], _ => rfl,
    g__law_near := PySem.W.mg_of X G a__law_near',
    a__law_shift := a__law_shift,
    fd__law_shift := PySem.W.fnOf "_law_shift" "_law_shift" (defArgs s__law_shift) (defBody s__law_shift) (defScope s__law_shift) .none kV__law_shift dc__law_shift pm__law_shift an__law_shift cd__law_shift ct__law_shift,
    F__law_shift := F__law_shift,
    B__law_shift := F__law_shift.binds (ps := ["purse", "width"]) fun _ _ _ _ _ _ us hl => match us, hl with | [_, _], _ => rfl,
    g__law_shift := PySem.W.mg_of X G a__law_shift',
    a__law_wraps := a__law_wraps,
    fd__law_wraps := PySem.W.fnOf "_law_wraps" "_law_wraps" (defArgs s__law_wraps) (defBody s__law_wraps) (defScope s__law_wraps) .none kV__law_wraps dc__law_wraps pm__law_wraps an__law_wraps cd__law_wraps ct__law_wraps,
    F__law_wraps := F__law_wraps,
    B__law_wraps := F__law_wraps.binds (ps := ["ring", "width", "offset"]) fun _ _ _ _ _ _ us hl => match us, hl with | [_, _, _], _ => rfl,
    g__law_wraps := PySem.W.mg_of X G a__law_wraps',
    a__law_returns := a__law_returns,
    fd__law_returns := PySem.W.fnOf "_law_returns" "_law_returns" (defArgs s__law_returns) (defBody s__law_returns) (defScope s__law_returns) .none kV__law_returns dc__law_returns pm__law_returns an__law_returns cd__law_returns ct__law_returns,
    F__law_returns := F__law_returns,
    B__law_returns := F__law_returns.binds (ps := ["ring", "width", "near", "shift", "laps"]) fun _ _ _ _ _ _ us hl => match us, hl with | [_, _, _, _, _], _ => rfl,
    g__law_returns := PySem.W.mg_of X G a__law_returns',
    a__law_lies_near := a__law_lies_near,
    fd__law_lies_near := PySem.W.fnOf "_law_lies_near" "_law_lies_near" (defArgs s__law_lies_near) (defBody s__law_lies_near) (defScope s__law_lies_near) .none kV__law_lies_near dc__law_lies_near pm__law_lies_near an__law_lies_near cd__law_lies_near ct__law_lies_near,
    F__law_lies_near := F__law_lies_near,
    B__law_lies_near := F__law_lies_near.binds (ps := ["ring", "width", "near", "code"]) fun _ _ _ _ _ _ us hl => match us, hl with | [_, _, _, _], _ => rfl,
    g__law_lies_near := PySem.W.mg_of X G a__law_lies_near',
    a__law_turn := a__law_turn,
    fd__law_turn := PySem.W.fnOf "_law_turn" "_law_turn" (defArgs s__law_turn) (defBody s__law_turn) (defScope s__law_turn) .none kV__law_turn dc__law_turn pm__law_turn an__law_turn cd__law_turn ct__law_turn,
    F__law_turn := F__law_turn,
    B__law_turn := F__law_turn.binds (ps := ["purse", "ring", "width"]) fun _ _ _ _ _ _ us hl => match us, hl with | [_, _, _], _ => rfl,
    g__law_turn := PySem.W.mg_of X G a__law_turn',
    a_law := a_law,
    fd_law := PySem.W.fnOf "law" "law" (defArgs s_law) (defBody s_law) (defScope s_law) .none kV_law dc_law pm_law an_law cd_law ct_law,
    F_law := F_law,
    B_law := F_law.binds (ps := ["script"]) fun _ _ _ _ _ _ us hl => match us, hl with | [_], _ => rfl,
    g_law := PySem.W.mg_of X G a_law',
    b_bool := PySem.W.mg_none_of X G z_bool,
    b_classmethod := PySem.W.mg_none_of X G z_classmethod,
    b_int := PySem.W.mg_none_of X G z_int,
    b_isinstance := PySem.W.mg_none_of X G z_isinstance,
    b_len := PySem.W.mg_none_of X G z_len,
    b_range := PySem.W.mg_none_of X G z_range }
  exact ⟨T.fd_law, fun s v => .of_eq rfl, fun base _ _ => ok_law (P := l.prog) (w := w) (base := base) T⟩
theorem walk {l : PySem.W.OpenLaw} {q : Program} {loose : List Str} {XP : (Str → Option Value) → Heap → Prop} {YP : World → Heap → Prop} {d : DefRec} {K : Params → PySem.W.Frag} (hn : l.most = some 63) (hdf : d.params.defaults = [])
    (hY : ∀ (w : World) (h : Heap), YP w h → (K w.params).In h)
    (F : ∀ (w : World) (mg : Str → Option Value) (fa : Addr) (h : Heap), (K w.params).In h → h.Ns mainGlobals mg → mg d.name = some (.ref fa) →
      ∃ fd : FuncData, (∀ (s : Shared) (u : Value), BindsTo s fd ⟨[u], []⟩ [("script", u)]) ∧ ∀ base : Heap, (K w.params).In base → base.Ns mainGlobals mg → FnOk l.prog w (K w.params) mg base CX0 8 fa fd ["script"] (sp_law (K w.params))) :
    PySem.W.WalkO q loose XP YP l.row.toRowW d [] (fun f vs => PySem.call f vs) :=
  L2.walk_of (CX := fun _ => CX0) (n := 63) (k := 8) (x := "script") (sp := fun w => sp_law (K w.params)) hn (by decide) hdf ⟨rfl, by decide, by decide⟩ hY F (fun _ _ a ns hl _ hS => ⟨a, ns, rfl, hS, hl, fun _ => rfl⟩) fun _ _ _ _ _ z => z
end My

open PySem PySem.W PyProof.Rows in
set_option maxRecDepth 100000 in
set_option maxHeartbeats 0 in
theorem PySem.Challenge.cw_lossway_k00_ring_wraps_holds : PySem.Challenge.rw_lossway_k00_ring_wraps.Holds := by
  w_on; o_law; k_head; (case hw => w_witness2)
  k_fill
  refine My.walk (l := PySem.Challenge.rw_lossway_k00_ring_wraps) rfl rfl (fun w h Y => PySem.W.kIn_of Y) ?F
  case F =>
    intro w mg fa h KX G hmg
    refine' My.all_mk KX G hmg ?aC_Ring ?pg_Ring ?hd_Ring ?po_Ring ?sa_Ring ?mk_Ring ?kc_Ring ?n_Ring_size ?rd_Ring ?ga_Ring ?va_Ring_LEAST ?va_Ring_GREATEST ?a_is_integer_ ?l_is_integer ?e_is_integer ?k_is_integer ?a_is_between_ ?l_is_between ?e_is_between ?k_is_between ?a_Ring_init__ ?i_Ring_init_ ?l_Ring_init_ ?e_Ring_init_ ?k_Ring_init_ ?a_Ring_of_bits_ ?rc_Ring_of_bits ?fi_Ring_of_bits ?l_Ring_of_bits ?e_Ring_of_bits ?k_Ring_of_bits ?a_Ring_contains__ ?i_Ring_contains_ ?l_Ring_contains_ ?e_Ring_contains_ ?k_Ring_contains_ ?a_Ring_wrap_ ?i_Ring_wrap ?l_Ring_wrap ?e_Ring_wrap ?k_Ring_wrap ?a_Ring_unwrap_ ?i_Ring_unwrap ?l_Ring_unwrap ?e_Ring_unwrap ?k_Ring_unwrap ?a_Ring_require_ ?i_Ring_require ?l_Ring_require ?e_Ring_require ?k_Ring_require ?a_is_size_ ?l_is_size ?e_is_size ?k_is_size ?a__law_purse_ ?l__law_purse ?e__law_purse ?k__law_purse ?a__law_draw_ ?l__law_draw ?e__law_draw ?k__law_draw ?a__law_is_ ?l__law_is ?e__law_is ?k__law_is ?a__law_width_ ?l__law_width ?e__law_width ?k__law_width ?a__law_near_ ?l__law_near ?e__law_near ?k__law_near ?a__law_shift_ ?l__law_shift ?e__law_shift ?k__law_shift ?a__law_wraps_ ?l__law_wraps ?e__law_wraps ?k__law_wraps ?a__law_returns_ ?l__law_returns ?e__law_returns ?k__law_returns ?a__law_lies_near_ ?l__law_lies_near ?e__law_lies_near ?k__law_lies_near ?a__law_turn_ ?l__law_turn ?e__law_turn ?k__law_turn ?a_law_ ?l_law ?e_law ?k_law ?z_bool ?z_classmethod ?z_int ?z_isinstance ?z_len ?z_range ?w_Ring_LEAST ?w_Ring_GREATEST
    (case aC_Ring => k_is)
    (case pg_Ring => k_is)
    (case hd_Ring => k_is)
    (case po_Ring => k_is)
    (case sa_Ring => k_is)
    (case mk_Ring => k_is)
    (case kc_Ring => k_is)
    (case n_Ring_size => k_is)
    (case rd_Ring => k_is)
    (case ga_Ring => k_is)
    (case va_Ring_LEAST => k_is)
    (case va_Ring_GREATEST => k_is)
    (case a_is_integer_ => k_is)
    (case l_is_integer => k_is)
    (case e_is_integer => k_is)
    (case k_is_integer => k_is)
    (case a_is_between_ => k_is)
    (case l_is_between => k_is)
    (case e_is_between => k_is)
    (case k_is_between => k_is)
    (case a_Ring_init__ => k_is)
    (case i_Ring_init_ => k_is)
    (case l_Ring_init_ => k_is)
    (case e_Ring_init_ => k_is)
    (case k_Ring_init_ => k_is)
    (case a_Ring_of_bits_ => k_is)
    (case rc_Ring_of_bits => k_is)
    (case fi_Ring_of_bits => k_is)
    (case l_Ring_of_bits => k_is)
    (case e_Ring_of_bits => k_is)
    (case k_Ring_of_bits => k_is)
    (case a_Ring_contains__ => k_is)
    (case i_Ring_contains_ => k_is)
    (case l_Ring_contains_ => k_is)
    (case e_Ring_contains_ => k_is)
    (case k_Ring_contains_ => k_is)
    (case a_Ring_wrap_ => k_is)
    (case i_Ring_wrap => k_is)
    (case l_Ring_wrap => k_is)
    (case e_Ring_wrap => k_is)
    (case k_Ring_wrap => k_is)
    (case a_Ring_unwrap_ => k_is)
    (case i_Ring_unwrap => k_is)
    (case l_Ring_unwrap => k_is)
    (case e_Ring_unwrap => k_is)
    (case k_Ring_unwrap => k_is)
    (case a_Ring_require_ => k_is)
    (case i_Ring_require => k_is)
    (case l_Ring_require => k_is)
    (case e_Ring_require => k_is)
    (case k_Ring_require => k_is)
    (case a_is_size_ => k_is)
    (case l_is_size => k_is)
    (case e_is_size => k_is)
    (case k_is_size => k_is)
    (case a__law_purse_ => k_is)
    (case l__law_purse => k_is)
    (case e__law_purse => k_is)
    (case k__law_purse => k_is)
    (case a__law_draw_ => k_is)
    (case l__law_draw => k_is)
    (case e__law_draw => k_is)
    (case k__law_draw => k_is)
    (case a__law_is_ => k_is)
    (case l__law_is => k_is)
    (case e__law_is => k_is)
    (case k__law_is => k_is)
    (case a__law_width_ => k_is)
    (case l__law_width => k_is)
    (case e__law_width => k_is)
    (case k__law_width => k_is)
    (case a__law_near_ => k_is)
    (case l__law_near => k_is)
    (case e__law_near => k_is)
    (case k__law_near => k_is)
    (case a__law_shift_ => k_is)
    (case l__law_shift => k_is)
    (case e__law_shift => k_is)
    (case k__law_shift => k_is)
    (case a__law_wraps_ => k_is)
    (case l__law_wraps => k_is)
    (case e__law_wraps => k_is)
    (case k__law_wraps => k_is)
    (case a__law_returns_ => k_is)
    (case l__law_returns => k_is)
    (case e__law_returns => k_is)
    (case k__law_returns => k_is)
    (case a__law_lies_near_ => k_is)
    (case l__law_lies_near => k_is)
    (case e__law_lies_near => k_is)
    (case k__law_lies_near => k_is)
    (case a__law_turn_ => k_is)
    (case l__law_turn => k_is)
    (case e__law_turn => k_is)
    (case k__law_turn => k_is)
    (case a_law_ => k_is)
    (case l_law => k_is)
    (case e_law => k_is)
    (case k_law => k_is)
    (case z_bool => k_is)
    (case z_classmethod => k_is)
    (case z_int => k_is)
    (case z_isinstance => k_is)
    (case z_len => k_is)
    (case z_range => k_is)
    (case w_Ring_LEAST => exact ⟨_, rfl⟩)
    (case w_Ring_GREATEST => exact ⟨_, rfl⟩)
