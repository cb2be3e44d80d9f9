import PyProof.Rows.All
import Wide.All
import OpenK.AllK
import Wide.FinOn
import HandS.ForMost
import HandS.IsInst
import HandS.ClsMeth
import HandS.Codes
import HandS.Exc
import HandS.ExcOwn
import HandS.ExcInit
import HandS.ExcField
import HandS.ExcIs
import HandS.TryMany
import HandS.WordsExc
import HandS.CallSlots
import HandS.More
import KE.KExcIs
import KE.GoesEnum
import KE.GoesMore
import HandS.Defaults
import HandS.Property
import HandS.Zip
import HandS.Text
import HandS.Wide
import PySem.Challenge.RW_lossway_k15_estimate_law
set_option Elab.async false
set_option maxRecDepth 100000
namespace My
open PySem L2
set_option linter.all false

/-! ### an own `in` -/
section
variable {X : Cx} {CX : CXT} {k : Nat} {C g : Addr} {fd : FuncData} {ps : List Str} {sp : Sp} {E : XK}
def rOwnIn (C : Addr) (m : Bool → Bool) (sp : Sp) (E : XK) : R2 := fun x y H Q => ∃ a dx fs, y = .ref a ∧ H a = some (.ins C dx fs) ∧ sp [.ref a, x] H (fun v H' => ∃ b, v = .bl b ∧ Q (.bl (m b)) H') E
theorem op_notInOwn (mm : Meth X.K C "__contains__" g) (F : FnOk X.prog X.w X.K X.mg X.base CX k g fd ps sp) (hr : Room k X.A) (hb : Binds X.K fd ps []) (hx : Passes CX X E) : OpR X (compareOp .NotIn) (rOwnIn C not sp E) := by
  intro pins s σ H x y v u Q I rx ry h
  obtain ⟨a, dx, fs, rfl, ha, q⟩ := h
  cases (show u = Value.ref a from ry)
  obtain ⟨mA, O, _⟩ := ins_get I.hok ha
  obtain ⟨od, J, _⟩ := O.look
  obtain ⟨m, hF⟩ := I.fr
  refine PySem.W.notIn_K hF I.ok.mod.kin J mm.at_ mm.fn ?_
  refine wpAny_mono (run_fn (us := [.ref a, v]) (vs := [.ref a, x]) (ds := []) (dvs := []) F hr hb .nil hx I (.cons rfl (.cons rx .nil)) q) (fun w s' z => ?_) fun _ _ x => x
  obtain ⟨z', H', I', rz, b, eb, qz⟩ := z
  subst eb
  cases (show w = Value.bool b from rz)
  exact wpAny_truthy_bool ⟨.bl (!b), H', I', rfl, qz⟩
theorem op_inOwn (mm : Meth X.K C "__contains__" g) (F : FnOk X.prog X.w X.K X.mg X.base CX k g fd ps sp) (hr : Room k X.A) (hb : Binds X.K fd ps []) (hx : Passes CX X E) : OpR X (compareOp .In) (rOwnIn C id sp E) := by
  intro pins s σ H x y v u Q I rx ry h
  obtain ⟨a, dx, fs, rfl, ha, q⟩ := h
  cases (show u = Value.ref a from ry)
  obtain ⟨mA, O, _⟩ := ins_get I.hok ha
  obtain ⟨od, J, _⟩ := O.look
  obtain ⟨m, hF⟩ := I.fr
  refine PySem.W.in_K hF I.ok.mod.kin J mm.at_ mm.fn ?_
  refine wpAny_mono (run_fn (us := [.ref a, v]) (vs := [.ref a, x]) (ds := []) (dvs := []) F hr hb .nil hx I (.cons rfl (.cons rx .nil)) q) (fun w s' z => ?_) fun _ _ x => x
  obtain ⟨z', H', I', rz, b, eb, qz⟩ := z
  subst eb
  cases (show w = Value.bool b from rz)
  exact wpAny_truthy_bool ⟨.bl b, H', I', rfl, qz⟩
end

/-! ### heaps -/
/-- all that was tracked stands, but what is at a -/
def SameX (a : Addr) (H H' : Hp) : Prop := ∀ b o, b ≠ a → H b = some o → H' b = some o
theorem SameX.refl {a : Addr} {H : Hp} : SameX a H H := fun _ _ _ h => h
theorem SameX.trans {a : Addr} {H H1 H2 : Hp} (x : SameX a H H1) (y : SameX a H1 H2) : SameX a H H2 := fun b o n h => y b o n (x b o n h)
theorem SameX.upd {a : Addr} {H : Hp} {o : HO} : SameX a H (L2.upd H a o) := fun b _ n h => by
  rw [upd_ne n]
  exact h
theorem SameX.upd' {a : Addr} {H H1 : Hp} {o : HO} (x : SameX a H H1) : SameX a H (L2.upd H1 a o) := x.trans .upd
theorem SameX.of {a : Addr} {H H1 : Hp} (x : Same H H1) : SameX a H H1 := fun b o _ h => x b o h
theorem Same.new {H : Hp} {p : Addr} {o : HO} (h : H p = none) : Same H (upd H p o) := fun b u e => by
  rw [upd_ne (ne_of_none e h)]
  exact e
theorem SqL.now {K : PySem.W.Frag} {H : Hp} {a : Addr} {xs : List V} (h : H a = some (.lst xs)) : SqL K H a xs := SqL.of h

/-! ### the purse -/
/-- a purse's rows -/
def pur (c : Addr) (p r n s : Int) : List V := [.ref c, .int p, .int r, .int n, .int s]
structure Purse (a c : Addr) (H : Hp) : Prop where
  ex : ∃ (cs : List Int) (p : Nat) (r n s : Int), H a = some (.lst (pur c p r n s)) ∧ H c = some (.lst (cs.map V.int)) ∧ (∀ x ∈ cs, 0 ≤ x) ∧ p ≤ cs.length ∧ cs.length ≤ 63 ∧ 0 ≤ r ∧ 0 ≤ s ∧ s < 2147483647
theorem pur_ne {H : Hp} {a c c' : Addr} {p r n s : Int} {cs : List Int} (h : H a = some (.lst (pur c p r n s))) (h' : H c' = some (.lst (cs.map V.int))) : c' ≠ a := ne_of h' h (by
  intro e
  injection e with e
  cases cs with
  | nil => cases e
  | cons x r => injection e with e1 _; cases e1)
theorem lk1 {m f : Str} {v : V} (h : (m == f) = false) : List.lookup m [(f, v)] = none := by
  simp only [List.lookup, h]
theorem bl_t {p : Prop} [Decidable p] (h : p) : V.bl (decide p) = V.bl true := congrArg V.bl (decide_eq_true h)
theorem bl_f {p : Prop} [Decidable p] (h : ¬ p) : V.bl (decide p) = V.bl false := congrArg V.bl (decide_eq_false h)
theorem bln_t {p : Prop} [Decidable p] (h : p) : V.bl (!decide p) = V.bl false := by rw [decide_eq_true h]; rfl
theorem bln_f {p : Prop} [Decidable p] (h : ¬ p) : V.bl (!decide p) = V.bl true := by rw [decide_eq_false h]; rfl
theorem int_ne {a b : Int} (h : ¬ a = b) : ¬ V.int a = V.int b := fun e => h (V.int.inj e)
theorem int_eq {a b : Int} (h : a = b) : V.int a = V.int b := congrArg V.int h

theorem Purse.there {a c : Addr} {H : Hp} (P : Purse a c H) : (∃ xs, H a = some (.lst xs)) ∧ ∃ ys, H c = some (.lst ys) := by
  obtain ⟨cs, p, r, n, s, h1, h2, _⟩ := P.ex
  exact ⟨⟨_, h1⟩, _, h2⟩
/-- a purse stands where both of its lists stand -/
theorem Purse.keep {a c : Addr} {H H' : Hp} (P : Purse a c H) (h : H' a = H a) (h' : H' c = H c) : Purse a c H' := by
  obtain ⟨cs, p, r, n, s, h1, h2, q⟩ := P.ex
  exact ⟨cs, p, r, n, s, h.trans h1, h'.trans h2, q⟩
theorem Purse.same {a c : Addr} {H H' : Hp} (P : Purse a c H) (s : Same H H') : Purse a c H' := by
  obtain ⟨cs, p, r, n, z, h1, h2, q⟩ := P.ex
  exact ⟨cs, p, r, n, z, s _ _ h1, s _ _ h2, q⟩
theorem Purse.on {a c b : Addr} {H H' : Hp} (P : Purse a c H) (s : SameX b H H') (na : a ≠ b) (nc : c ≠ b) : Purse a c H' := by
  obtain ⟨cs, p, r, n, z, h1, h2, q⟩ := P.ex
  exact ⟨cs, p, r, n, z, s _ _ na h1, s _ _ nc h2, q⟩
theorem small1000' {n : Nat} (h : n < 100000) : n < sizeLine := Nat.lt_of_lt_of_le h (by decide)
theorem sqT_sm {K : PySem.W.Frag} {H H' : Hp} {a : Addr} {xs : List V} (h : SqT K H a xs) (s : Same H H') : SqT K H' a xs := by
  rcases h with (h | ⟨o, h⟩) | h
  · exact .inl (.inl (s _ _ h))
  · exact .inl (.inr ⟨o, s _ _ h⟩)
  · exact .inr h
def top (i : Nat) : Stmt := PySem.Challenge.pw_lossway_k15_estimate_law.main.body.getD i (.Pass ⟨0, 0, 0, 0⟩)
abbrev s_is_integer : Stmt := top 6
theorem st_is_integer {t : TS} {D : Ends} {H : Hp} {v0 : V} (h : t D [some v0] H) : t D (L2.start ["value"] [v0]) H := h
theorem sc_is_integer : FnScope ["value"] ["value"] (defScope s_is_integer) := ⟨rfl, rfl, rfl, by decide +kernel, rfl, by decide +kernel, by decide +kernel⟩
abbrev s_is_between : Stmt := top 7
theorem st_is_between {t : TS} {D : Ends} {H : Hp} {v0 v1 v2 : V} (h : t D [some v0, some v1, some v2] H) : t D (L2.start ["value", "low", "high"] [v0, v1, v2]) H := h
theorem sc_is_between : FnScope ["value", "low", "high"] ["value", "low", "high"] (defScope s_is_between) := ⟨rfl, rfl, rfl, by decide +kernel, rfl, by decide +kernel, by decide +kernel⟩
abbrev s_is_at_least : Stmt := top 8
theorem st_is_at_least {t : TS} {D : Ends} {H : Hp} {v0 v1 : V} (h : t D [some v0, some v1] H) : t D (L2.start ["value", "low"] [v0, v1]) H := h
theorem sc_is_at_least : FnScope ["value", "low"] ["value", "low"] (defScope s_is_at_least) := ⟨rfl, rfl, rfl, by decide +kernel, rfl, by decide +kernel, by decide +kernel⟩
abbrev s_Estimate_init_ : Stmt := inClass (top 11) 0
theorem st_Estimate_init_ {t : TS} {D : Ends} {H : Hp} {v0 v1 v2 : V} (h : t D [some v0, some v1, some v2] H) : t D (L2.start ["self", "low", "high"] [v0, v1, v2]) H := h
theorem sc_Estimate_init_ : FnScope ["self", "low", "high"] ["self", "low", "high"] (defScope s_Estimate_init_) := ⟨rfl, rfl, rfl, by decide +kernel, rfl, by decide +kernel, by decide +kernel⟩
abbrev s_Estimate_timeout : Stmt := inClass (top 11) 1
theorem st_Estimate_timeout {t : TS} {D : Ends} {H : Hp} {v0 : V} (h : t D [some v0] H) : t D (L2.start ["self"] [v0]) H := h
theorem sc_Estimate_timeout : FnScope ["self"] ["self"] (defScope s_Estimate_timeout) := ⟨rfl, rfl, rfl, by decide +kernel, rfl, by decide +kernel, by decide +kernel⟩
abbrev s_Estimate_sample : Stmt := inClass (top 11) 2
theorem st_Estimate_sample {t : TS} {D : Ends} {H : Hp} {v0 v1 : V} (h : t D [some v0, some v1, none] H) : t D (L2.start ["self", "ticks", "error"] [v0, v1]) H := h
theorem sc_Estimate_sample : FnScope ["self", "ticks", "error"] ["self", "ticks"] (defScope s_Estimate_sample) := ⟨rfl, rfl, rfl, by decide +kernel, rfl, by decide +kernel, by decide +kernel⟩
abbrev s_Estimate_copied : Stmt := inClass (top 11) 4
theorem st_Estimate_copied {t : TS} {D : Ends} {H : Hp} {v0 : V} (h : t D [some v0] H) : t D (L2.start ["self"] [v0]) H := h
theorem sc_Estimate_copied : FnScope ["self"] ["self"] (defScope s_Estimate_copied) := ⟨rfl, rfl, rfl, by decide +kernel, rfl, by decide +kernel, by decide +kernel⟩
abbrev s__law_whole : Stmt := top 13
theorem st__law_whole {t : TS} {D : Ends} {H : Hp} {v0 : V} (h : t D [some v0] H) : t D (L2.start ["value"] [v0]) H := h
theorem sc__law_whole : FnScope ["value"] ["value"] (defScope s__law_whole) := ⟨rfl, rfl, rfl, by decide +kernel, rfl, by decide +kernel, by decide +kernel⟩
abbrev s__law_bag : Stmt := top 14
theorem st__law_bag {t : TS} {D : Ends} {H : Hp} {v0 : V} (h : t D [some v0, none, none, none] H) : t D (L2.start ["script", "great", "cells", "cell"] [v0]) H := h
theorem sc__law_bag : FnScope ["script", "great", "cells", "cell"] ["script"] (defScope s__law_bag) := ⟨rfl, rfl, rfl, by decide +kernel, rfl, by decide +kernel, by decide +kernel⟩
abbrev s__law_take : Stmt := top 15
theorem st__law_take {t : TS} {D : Ends} {H : Hp} {v0 v1 : V} (h : t D [some v0, some v1, none, none, none, none] H) : t D (L2.start ["bag", "many", "left", "cell", "one", "two"] [v0, v1]) H := h
theorem sc__law_take : FnScope ["bag", "many", "left", "cell", "one", "two"] ["bag", "many"] (defScope s__law_take) := ⟨rfl, rfl, rfl, by decide +kernel, rfl, by decide +kernel, by decide +kernel⟩
abbrev s__law_lesser : Stmt := top 16
theorem st__law_lesser {t : TS} {D : Ends} {H : Hp} {v0 v1 : V} (h : t D [some v0, some v1] H) : t D (L2.start ["one", "two"] [v0, v1]) H := h
theorem sc__law_lesser : FnScope ["one", "two"] ["one", "two"] (defScope s__law_lesser) := ⟨rfl, rfl, rfl, by decide +kernel, rfl, by decide +kernel, by decide +kernel⟩
abbrev s__law_greater : Stmt := top 17
theorem st__law_greater {t : TS} {D : Ends} {H : Hp} {v0 v1 : V} (h : t D [some v0, some v1] H) : t D (L2.start ["one", "two"] [v0, v1]) H := h
theorem sc__law_greater : FnScope ["one", "two"] ["one", "two"] (defScope s__law_greater) := ⟨rfl, rfl, rfl, by decide +kernel, rfl, by decide +kernel, by decide +kernel⟩
abbrev s__law_bounds : Stmt := top 18
theorem st__law_bounds {t : TS} {D : Ends} {H : Hp} {v0 : V} (h : t D [some v0, none, none, none] H) : t D (L2.start ["bag", "floor", "way", "roof"] [v0]) H := h
theorem sc__law_bounds : FnScope ["bag", "floor", "way", "roof"] ["bag"] (defScope s__law_bounds) := ⟨rfl, rfl, rfl, by decide +kernel, rfl, by decide +kernel, by decide +kernel⟩
abbrev s__law_row : Stmt := top 19
theorem st__law_row {t : TS} {D : Ends} {H : Hp} {v0 : V} (h : t D [some v0] H) : t D (L2.start ["pair"] [v0]) H := h
theorem sc__law_row : FnScope ["pair"] ["pair"] (defScope s__law_row) := ⟨rfl, rfl, rfl, by decide +kernel, rfl, by decide +kernel, by decide +kernel⟩
abbrev s__law_enter : Stmt := top 20
theorem st__law_enter {t : TS} {D : Ends} {H : Hp} {v0 v1 : V} (h : t D [some v0, some v1, none] H) : t D (L2.start ["row", "ticks", "error"] [v0, v1]) H := h
theorem sc__law_enter : FnScope ["row", "ticks", "error"] ["row", "ticks"] (defScope s__law_enter) := ⟨rfl, rfl, rfl, by decide +kernel, rfl, by decide +kernel, by decide +kernel⟩
abbrev s__law_wait : Stmt := top 21
theorem st__law_wait {t : TS} {D : Ends} {H : Hp} {v0 : V} (h : t D [some v0] H) : t D (L2.start ["row"] [v0]) H := h
theorem sc__law_wait : FnScope ["row"] ["row"] (defScope s__law_wait) := ⟨rfl, rfl, rfl, by decide +kernel, rfl, by decide +kernel, by decide +kernel⟩
abbrev s__law_ticks : Stmt := top 22
theorem st__law_ticks {t : TS} {D : Ends} {H : Hp} {v0 v1 : V} (h : t D [some v0, some v1, none] H) : t D (L2.start ["bag", "row", "way"] [v0, v1]) H := h
theorem sc__law_ticks : FnScope ["bag", "row", "way"] ["bag", "row"] (defScope s__law_ticks) := ⟨rfl, rfl, rfl, by decide +kernel, rfl, by decide +kernel, by decide +kernel⟩
abbrev s__law_agrees : Stmt := top 23
theorem st__law_agrees {t : TS} {D : Ends} {H : Hp} {v0 v1 : V} (h : t D [some v0, some v1, none, none] H) : t D (L2.start ["estimate", "row", "told", "one"] [v0, v1]) H := h
theorem sc__law_agrees : FnScope ["estimate", "row", "told", "one"] ["estimate", "row"] (defScope s__law_agrees) := ⟨rfl, rfl, rfl, by decide +kernel, rfl, by decide +kernel, by decide +kernel⟩
abbrev s__law_share : Stmt := top 24
theorem st__law_share {t : TS} {D : Ends} {H : Hp} {v0 v1 v2 : V} (h : t D [some v0, some v1, some v2] H) : t D (L2.start ["narrow", "wide", "row"] [v0, v1, v2]) H := h
theorem sc__law_share : FnScope ["narrow", "wide", "row"] ["narrow", "wide", "row"] (defScope s__law_share) := ⟨rfl, rfl, rfl, by decide +kernel, rfl, by decide +kernel, by decide +kernel⟩
abbrev s__law_all_agree : Stmt := top 25
theorem st__law_all_agree {t : TS} {D : Ends} {H : Hp} {v0 v1 : V} (h : t D [some v0, some v1, none] H) : t D (L2.start ["clocks", "rows", "k"] [v0, v1]) H := h
theorem sc__law_all_agree : FnScope ["clocks", "rows", "k"] ["clocks", "rows"] (defScope s__law_all_agree) := ⟨rfl, rfl, rfl, by decide +kernel, rfl, by decide +kernel, by decide +kernel⟩
abbrev s_law : Stmt := top 26
theorem st_law {t : TS} {D : Ends} {H : Hp} {v0 : V} (h : t D [some v0, none, none, none, none, none, none, none, none] H) : t D (L2.start ["script", "bag", "turns", "rows", "clocks", "turn", "side", "ticks", "row"] [v0]) H := h
theorem sc_law : FnScope ["script", "bag", "turns", "rows", "clocks", "turn", "side", "ticks", "row"] ["script"] (defScope s_law) := ⟨rfl, rfl, rfl, by decide +kernel, rfl, by decide +kernel, by decide +kernel⟩

set_option maxHeartbeats 0 in
structure Txt (K : PySem.W.Frag) (mg : Str → Option Value) where
  c_Estimate : Addr
  g_Estimate : mg "Estimate" = some (.ref c_Estimate)
  cl_Estimate : Cls K c_Estimate
  n_Estimate_low : NoAttr K c_Estimate "low"
  n_Estimate_high : NoAttr K c_Estimate "high"
  n_Estimate_smooth : NoAttr K c_Estimate "smooth"
  n_Estimate_spread : NoAttr K c_Estimate "spread"
  n_Estimate_samples : NoAttr K c_Estimate "samples"
  a_is_integer : Addr
  fd_is_integer : FuncData
  F_is_integer : Fun K "is_integer" "is_integer" s_is_integer a_is_integer fd_is_integer
  B_is_integer : Binds K fd_is_integer ["value"] []
  g_is_integer : mg "is_integer" = some (.ref a_is_integer)
  a_is_between : Addr
  fd_is_between : FuncData
  F_is_between : Fun K "is_between" "is_between" s_is_between a_is_between fd_is_between
  B_is_between : Binds K fd_is_between ["value", "low", "high"] []
  g_is_between : mg "is_between" = some (.ref a_is_between)
  a_is_at_least : Addr
  fd_is_at_least : FuncData
  F_is_at_least : Fun K "is_at_least" "is_at_least" s_is_at_least a_is_at_least fd_is_at_least
  B_is_at_least : Binds K fd_is_at_least ["value", "low"] []
  g_is_at_least : mg "is_at_least" = some (.ref a_is_at_least)
  a_Estimate_init_ : Addr
  fd_Estimate_init_ : FuncData
  F_Estimate_init_ : Fun K "__init__" "Estimate.__init__" s_Estimate_init_ a_Estimate_init_ fd_Estimate_init_
  B_Estimate_init_ : Binds K fd_Estimate_init_ ["self", "low", "high"] []
  M_Estimate : Mk K c_Estimate a_Estimate_init_
  a_Estimate_timeout : Addr
  fd_Estimate_timeout : FuncData
  F_Estimate_timeout : Fun K "timeout" "Estimate.timeout" s_Estimate_timeout a_Estimate_timeout fd_Estimate_timeout
  B_Estimate_timeout : Binds K fd_Estimate_timeout ["self"] []
  p_Estimate_timeout : Addr
  PR_Estimate_timeout : PropOf K c_Estimate "timeout" p_Estimate_timeout a_Estimate_timeout
  a_Estimate_sample : Addr
  fd_Estimate_sample : FuncData
  F_Estimate_sample : Fun K "sample" "Estimate.sample" s_Estimate_sample a_Estimate_sample fd_Estimate_sample
  B_Estimate_sample : Binds K fd_Estimate_sample ["self", "ticks"] []
  m_Estimate_sample : Meth K c_Estimate "sample" a_Estimate_sample
  a_Estimate_copied : Addr
  fd_Estimate_copied : FuncData
  F_Estimate_copied : Fun K "copied" "Estimate.copied" s_Estimate_copied a_Estimate_copied fd_Estimate_copied
  B_Estimate_copied : Binds K fd_Estimate_copied ["self"] []
  m_Estimate_copied : Meth K c_Estimate "copied" a_Estimate_copied
  a__law_whole : Addr
  fd__law_whole : FuncData
  F__law_whole : Fun K "_law_whole" "_law_whole" s__law_whole a__law_whole fd__law_whole
  B__law_whole : Binds K fd__law_whole ["value"] []
  g__law_whole : mg "_law_whole" = some (.ref a__law_whole)
  a__law_bag : Addr
  fd__law_bag : FuncData
  F__law_bag : Fun K "_law_bag" "_law_bag" s__law_bag a__law_bag fd__law_bag
  B__law_bag : Binds K fd__law_bag ["script"] []
  g__law_bag : mg "_law_bag" = some (.ref a__law_bag)
  a__law_take : Addr
  fd__law_take : FuncData
  F__law_take : Fun K "_law_take" "_law_take" s__law_take a__law_take fd__law_take
  B__law_take : Binds K fd__law_take ["bag", "many"] []
  g__law_take : mg "_law_take" = some (.ref a__law_take)
  a__law_lesser : Addr
  fd__law_lesser : FuncData
  F__law_lesser : Fun K "_law_lesser" "_law_lesser" s__law_lesser a__law_lesser fd__law_lesser
  B__law_lesser : Binds K fd__law_lesser ["one", "two"] []
  g__law_lesser : mg "_law_lesser" = some (.ref a__law_lesser)
  a__law_greater : Addr
  fd__law_greater : FuncData
  F__law_greater : Fun K "_law_greater" "_law_greater" s__law_greater a__law_greater fd__law_greater
  B__law_greater : Binds K fd__law_greater ["one", "two"] []
  g__law_greater : mg "_law_greater" = some (.ref a__law_greater)
  a__law_bounds : Addr
  fd__law_bounds : FuncData
  F__law_bounds : Fun K "_law_bounds" "_law_bounds" s__law_bounds a__law_bounds fd__law_bounds
  B__law_bounds : Binds K fd__law_bounds ["bag"] []
  g__law_bounds : mg "_law_bounds" = some (.ref a__law_bounds)
  a__law_row : Addr
  fd__law_row : FuncData
  F__law_row : Fun K "_law_row" "_law_row" s__law_row a__law_row fd__law_row
  B__law_row : Binds K fd__law_row ["pair"] []
  g__law_row : mg "_law_row" = some (.ref a__law_row)
  a__law_enter : Addr
  fd__law_enter : FuncData
  F__law_enter : Fun K "_law_enter" "_law_enter" s__law_enter a__law_enter fd__law_enter
  B__law_enter : Binds K fd__law_enter ["row", "ticks"] []
  g__law_enter : mg "_law_enter" = some (.ref a__law_enter)
  a__law_wait : Addr
  fd__law_wait : FuncData
  F__law_wait : Fun K "_law_wait" "_law_wait" s__law_wait a__law_wait fd__law_wait
  B__law_wait : Binds K fd__law_wait ["row"] []
  g__law_wait : mg "_law_wait" = some (.ref a__law_wait)
  a__law_ticks : Addr
  fd__law_ticks : FuncData
  F__law_ticks : Fun K "_law_ticks" "_law_ticks" s__law_ticks a__law_ticks fd__law_ticks
  B__law_ticks : Binds K fd__law_ticks ["bag", "row"] []
  g__law_ticks : mg "_law_ticks" = some (.ref a__law_ticks)
  a__law_agrees : Addr
  fd__law_agrees : FuncData
  F__law_agrees : Fun K "_law_agrees" "_law_agrees" s__law_agrees a__law_agrees fd__law_agrees
  B__law_agrees : Binds K fd__law_agrees ["estimate", "row"] []
  g__law_agrees : mg "_law_agrees" = some (.ref a__law_agrees)
  a__law_share : Addr
  fd__law_share : FuncData
  F__law_share : Fun K "_law_share" "_law_share" s__law_share a__law_share fd__law_share
  B__law_share : Binds K fd__law_share ["narrow", "wide", "row"] []
  g__law_share : mg "_law_share" = some (.ref a__law_share)
  a__law_all_agree : Addr
  fd__law_all_agree : FuncData
  F__law_all_agree : Fun K "_law_all_agree" "_law_all_agree" s__law_all_agree a__law_all_agree fd__law_all_agree
  B__law_all_agree : Binds K fd__law_all_agree ["clocks", "rows"] []
  g__law_all_agree : mg "_law_all_agree" = some (.ref a__law_all_agree)
  a_law : Addr
  fd_law : FuncData
  F_law : Fun K "law" "law" s_law a_law fd_law
  B_law : Binds K fd_law ["script"] []
  g_law : mg "law" = some (.ref a_law)
  b_abs : mg "abs" = none
  b_all : mg "all" = none
  b_bool : mg "bool" = none
  b_int : mg "int" = none
  b_isinstance : mg "isinstance" = none
  b_len : mg "len" = none
  b_max : mg "max" = none
  b_min : mg "min" = none
  b_property : mg "property" = none
  b_range : mg "range" = none
  b_sum : mg "sum" = none
  u_GREATEST_TIME : Value
  g_GREATEST_TIME : mg "GREATEST_TIME" = some u_GREATEST_TIME
  r_GREATEST_TIME : RelV (.int 100000) u_GREATEST_TIME

section
variable {P : Program} {w : World} {K : PySem.W.Frag} {mg : Str → Option Value} {base : Heap}
/-! ### kinds of values -/
/-- whether x is an int and no bool, by its kind -/
def IntK (K : PySem.W.Frag) (H : Hp) (x : V) (r : Bool) : Prop := ∃ (t : Value) (i b : Bool), TyX K H x t ∧ PySem.W.kitOne K t (.type "int") = some i ∧ PySem.W.kitOne K t (.type "bool") = some b ∧ r = (i && !b)
theorem intK_int {K : PySem.W.Frag} {H : Hp} (n : Int) : IntK K H (.int n) true := ⟨.type "int", true, false, .base (.int n), kit_ty (by decide +kernel), kit_ty (by decide +kernel), rfl⟩
/-- isinstance(x, int) and not isinstance(x, bool) -/
def sp_is_integer (K : PySem.W.Frag) : Sp := fun vs H Q _ => ∃ (x : V) (r : Bool), vs = [x] ∧ IntK K H x r ∧ Q (.bl r) H
def sp_is_between (K : PySem.W.Frag) : Sp := fun vs H Q _ => ∃ (x : V) (lo hi : Int), vs = [x, .int lo, .int hi] ∧ ((∃ n, x = .int n ∧ Q (.bl (decide (lo ≤ n) && decide (n ≤ hi))) H) ∨ (IntK K H x false ∧ Q (.bl false) H))
theorem ok_is_integer (T : Txt K mg) : FnOk P w K mg base CX0 1 T.a_is_integer T.fd_is_integer ["value"] (sp_is_integer K) := by
  have S := sc_is_integer
  refine T.F_is_integer.ok S (fun vs H Q E h => ?_) (fun cdv A outer s H vs Q E hr h => ?_)
  · obtain ⟨x, r, rfl, _⟩ := h
    rfl
  · obtain ⟨x, r, rfl, ⟨t, i, b, ty, hi, hb, rfl⟩, k⟩ := h
    refine ⟨_, (pss_one (ps_ret (pe_and (pe_callB (id := "isinstance") call_isi (by rfl) T.b_isinstance (by decide +kernel) (pa_cons (pv 0) (pa_cons (pe_bltn (v := .ty "int") (u := .type "int") (by rfl) T.b_int (by decide +kernel) rfl) pa_nil))) (pe_one (pe_not (pe_callB (id := "isinstance") call_isi (by rfl) T.b_isinstance (by decide +kernel) (pa_cons (pv 0) (pa_cons (pe_bltn (v := .ty "bool") (u := .type "bool") (by rfl) T.b_bool (by decide +kernel) rfl) pa_nil)))))))), ?_⟩
    refine ⟨_, rfl, _, _, _, _, i, rfl, .ty _, ty, hi, i, rfl, ?_⟩
    cases i with
    | false => exact iteF k
    | true => exact iteT ⟨_, rfl, _, _, _, _, b, rfl, .ty _, ty, hb, b, rfl, k⟩
theorem ok_is_between (T : Txt K mg) : FnOk P w K mg base CX0 2 T.a_is_between T.fd_is_between ["value", "low", "high"] (sp_is_between K) := by
  have S := sc_is_between
  refine T.F_is_between.ok S (fun vs H Q E h => ?_) (fun cdv A outer s H vs Q E hr h => ?_)
  · obtain ⟨x, lo, hi, rfl, _⟩ := h
    rfl
  · obtain ⟨x, lo, hi, rfl, h⟩ := h
    refine ⟨_, (pss_one (ps_ret (pe_and (pe_call (ok_is_integer T) (hr.mono (by decide)) rfl T.g_is_integer T.F_is_integer.kp T.B_is_integer .nil pass0 (pa_cons (pv 0) pa_nil)) (pe_one (pe_chain op_le op_le (pv 1) (pv 0) (pv 2)))))), ?_⟩
    rcases h with ⟨n, rfl, k⟩ | ⟨hk, k⟩
    · refine ⟨_, rfl, _, true, rfl, intK_int n, true, rfl, iteT ?_⟩
      refine ⟨_, rfl, _, rfl, _, _, rfl, rfl, _, rfl, ?_⟩
      by_cases q : lo ≤ n
      · rw [decide_eq_true q, Bool.true_and] at k
        rw [decide_eq_true q]
        exact iteT ⟨_, rfl, _, _, rfl, rfl, k⟩
      · rw [decide_eq_false q, Bool.false_and] at k
        rw [decide_eq_false q]
        exact iteF k
    · exact ⟨_, rfl, _, false, rfl, hk, false, rfl, iteF k⟩
/-! ### sequences, items by their kinds -/
theorem tyX_same {K : PySem.W.Frag} {H H' : Hp} {x : V} {t : Value} (h : TyX K H x t) (s : Same H H') : TyX K H' x t := by
  cases h with
  | base b =>
    refine .base ?_
    cases b with
    | non => exact .non
    | bl y => exact .bl y
    | int i => exact .int i
    | str y => exact .str y
    | flt y => exact .flt y
    | lst e => exact .lst (s _ _ e)
    | frz e => exact .frz (s _ _ e)
    | tup e => exact .tup (s _ _ e)
    | dK e => exact .dK (s _ _ e)
    | dT e => exact .dT (s _ _ e)
    | ins e cl ha hn ht hm => exact .ins (s _ _ e) cl ha hn ht hm
  | byt b => exact .byt b
  | set e => exact .set (s _ _ e)
  | kList e c => exact .kList e c
  | kTuple e c => exact .kTuple e c
  | kDict e c => exact .kDict e c
  | fTuple e => exact .fTuple (s _ _ e)
  | fDict e => exact .fDict (s _ _ e)
theorem IntK.same {K : PySem.W.Frag} {H H' : Hp} {x : V} {r : Bool} (h : IntK K H x r) (s : Same H H') : IntK K H' x r := by
  obtain ⟨t, i, b, ty, h1, h2, h3⟩ := h
  exact ⟨t, i, b, tyX_same ty s, h1, h2, h3⟩
/-- x is the int n, or no int at all -/
def Kd (K : PySem.W.Frag) (H : Hp) (x : V) : Option Int → Prop
  | some n => x = .int n
  | none => IntK K H x false
theorem Kd.same {K : PySem.W.Frag} {H H' : Hp} {x : V} {o : Option Int} (h : Kd K H x o) (s : Same H H') : Kd K H' x o := by
  cases o with
  | some n => exact h
  | none => exact IntK.same h s
/-- what lies in lo .. hi -/
def inR (lo hi : Int) : Option Int → Bool
  | some n => decide (lo ≤ n) && decide (n ≤ hi)
  | none => false
/-- a list or a tuple -/
def SeqA (K : PySem.W.Frag) (H : Hp) (a : Addr) (xs : List V) : Prop := SqL K H a xs ∨ SqT K H a xs
theorem SeqA.lst {K : PySem.W.Frag} {H : Hp} {a : Addr} {xs : List V} (h : H a = some (.lst xs)) : SeqA K H a xs := .inl (SqL.of h)
theorem SeqA.tup {K : PySem.W.Frag} {H : Hp} {a : Addr} {xs : List V} (h : H a = some (.tup xs)) : SeqA K H a xs := .inr (SqT.of h)
theorem SeqA.sm {K : PySem.W.Frag} {H H' : Hp} {a : Addr} {xs : List V} (h : SeqA K H a xs) (s : Same H H') : SeqA K H' a xs := h.elim (fun h => .inl (s.seq h)) fun h => .inr (sqT_sm h s)
/-- whether x is a sequence, by its kind -/
def SeqK (K : PySem.W.Frag) (H : Hp) (x : V) (r : Bool) : Prop := ∃ t, TyX K H x t ∧ PySem.W.kitAny K t [.type "list", .type "tuple"] = some r
theorem kit2 {K : PySem.W.Frag} {t : Value} {a b : Bool} (h1 : PySem.W.kitOne K t (.type "list") = some a) (h2 : PySem.W.kitOne K t (.type "tuple") = some b) : PySem.W.kitAny K t [.type "list", .type "tuple"] = some (a || b) := by
  unfold PySem.W.kitAny
  rw [h1]
  cases a with
  | true => rfl
  | false =>
    show PySem.W.kitAny K t [.type "tuple"] = some b
    unfold PySem.W.kitAny
    rw [h2]
    cases b <;> rfl
theorem seqK_ty {K : PySem.W.Frag} {H : Hp} {x : V} {n : String} {a b : Bool} (t : TyX K H x (.type n)) (h1 : kitB n "list" = some a) (h2 : kitB n "tuple" = some b) : SeqK K H x (a || b) := ⟨_, t, kit2 (kit_ty h1) (kit_ty h2)⟩
theorem seqK_of {K : PySem.W.Frag} {H : Hp} {a : Addr} {xs : List V} (h : SeqA K H a xs) : SeqK K H (.ref a) true := by
  rcases h with h | h
  · rcases h with (h | ⟨o, h⟩) | ⟨o, its, n, hk, hc, _⟩
    · exact seqK_ty (a := true) (b := false) (.base (.lst h)) (by decide +kernel) (by decide +kernel)
    · exact seqK_ty (a := true) (b := false) (.base (.frz h)) (by decide +kernel) (by decide +kernel)
    · exact seqK_ty (a := true) (b := false) (.kList hk hc) (by decide +kernel) (by decide +kernel)
  · rcases h with (h | ⟨o, h⟩) | ⟨o, its, n, hk, hc, _⟩
    · exact seqK_ty (a := false) (b := true) (.base (.tup h)) (by decide +kernel) (by decide +kernel)
    · exact seqK_ty (a := false) (b := true) (.fTuple h) (by decide +kernel) (by decide +kernel)
    · exact seqK_ty (a := false) (b := true) (.kTuple hk hc) (by decide +kernel) (by decide +kernel)
/-! ### lists stay lists -/
def Typ (H H' : Hp) : Prop := ∀ a o, H a = some o → H' a = some o ∨ ((∃ xs, o = .lst xs) ∧ ∃ ys, H' a = some (.lst ys))
theorem Typ.refl (H : Hp) : Typ H H := fun _ _ h => .inl h
theorem Typ.of {H H' : Hp} (s : Same H H') : Typ H H' := fun _ _ h => .inl (s _ _ h)
theorem Typ.trans {H H1 H2 : Hp} (x : Typ H H1) (y : Typ H1 H2) : Typ H H2 := fun a o h => by
  rcases x a o h with h1 | ⟨hx, ys, h1⟩
  · exact y a o h1
  · rcases y a _ h1 with h2 | ⟨_, zs, h2⟩
    · exact .inr ⟨hx, ys, h2⟩
    · exact .inr ⟨hx, zs, h2⟩
theorem Typ.upd {H : Hp} {a : Addr} {xs ys : List V} (h : H a = some (.lst xs)) : Typ H (L2.upd H a (.lst ys)) := fun b o hb => by
  by_cases q : b = a
  · subst q
    rw [h] at hb
    cases hb
    exact .inr ⟨⟨_, rfl⟩, ys, upd_same⟩
  · exact .inl (by rw [upd_ne q]; exact hb)
theorem Typ.purse {H H' : Hp} {p c : Addr} (P : Purse p c H) (P' : Purse p c H') (s : SameX p H H') : Typ H H' := fun b o hb => by
  by_cases q : b = p
  · subst q
    obtain ⟨⟨xs, h⟩, _⟩ := P.there
    obtain ⟨⟨ys, h'⟩, _⟩ := P'.there
    rw [h] at hb
    cases hb
    exact .inr ⟨⟨_, rfl⟩, ys, h'⟩
  · exact .inl (s b o q hb)
theorem tyX_typ {K : PySem.W.Frag} {H H' : Hp} {x : V} {t : Value} (h : TyX K H x t) (s : Typ H H') : TyX K H' x t := by
  cases h with
  | base b =>
    refine .base ?_
    cases b with
    | non => exact .non
    | bl y => exact .bl y
    | int i => exact .int i
    | str y => exact .str y
    | flt y => exact .flt y
    | lst e => exact (s _ _ e).elim (fun h => .lst h) fun ⟨_, ys, h⟩ => .lst h
    | frz e => exact (s _ _ e).elim (fun h => .frz h) fun ⟨⟨_, z⟩, _⟩ => nomatch z
    | tup e => exact (s _ _ e).elim (fun h => .tup h) fun ⟨⟨_, z⟩, _⟩ => nomatch z
    | dK e => exact (s _ _ e).elim (fun h => .dK h) fun ⟨⟨_, z⟩, _⟩ => nomatch z
    | dT e => exact (s _ _ e).elim (fun h => .dT h) fun ⟨⟨_, z⟩, _⟩ => nomatch z
    | ins e cl ha hn ht hm => exact (s _ _ e).elim (fun h => .ins h cl ha hn ht hm) fun ⟨⟨_, z⟩, _⟩ => nomatch z
  | byt b => exact .byt b
  | set e => exact (s _ _ e).elim (fun h => .set h) fun ⟨⟨_, z⟩, _⟩ => nomatch z
  | kList e c => exact .kList e c
  | kTuple e c => exact .kTuple e c
  | kDict e c => exact .kDict e c
  | fTuple e => exact (s _ _ e).elim (fun h => .fTuple h) fun ⟨⟨_, z⟩, _⟩ => nomatch z
  | fDict e => exact (s _ _ e).elim (fun h => .fDict h) fun ⟨⟨_, z⟩, _⟩ => nomatch z
theorem Kd.typ {K : PySem.W.Frag} {H H' : Hp} {x : V} {o : Option Int} (h : Kd K H x o) (s : Typ H H') : Kd K H' x o := by
  cases o with
  | some n => exact h
  | none =>
    obtain ⟨t, i, b, ty, h1, h2, h3⟩ := (show IntK K H x false from h)
    exact ⟨t, i, b, tyX_typ ty s, h1, h2, h3⟩
theorem intK_no {K : PySem.W.Frag} {H : Hp} {x : V} {n : String} {i b : Bool} (t : TyX K H x (.type n)) (h1 : kitB n "int" = some i) (h2 : kitB n "bool" = some b) (h : (i && !b) = false) : IntK K H x false := ⟨_, i, b, t, kit_ty h1, kit_ty h2, h.symm⟩
theorem ixN_nat {n j : Nat} {z : Int} (e : z = (j : Int)) (h : j < n) : ixN n z = some j := by
  subst e
  unfold ixN
  rw [if_pos (by omega), if_pos (by omega)]
  rfl
/-! ### equality of words -/
theorem dec_int (a b : Int) : decide (V.int a = V.int b) = decide (a = b) := by
  by_cases e : a = b
  · rw [decide_eq_true e, decide_eq_true (congrArg V.int e)]
  · rw [decide_eq_false e, decide_eq_false (fun q => e (V.int.inj q))]
theorem dec_bl (a b : Bool) : decide (V.bl a = V.bl b) = (a == b) := by
  cases a <;> cases b <;> rfl
/-! ### steps: readings by their form -/
section
variable {K : PySem.W.Frag} {σ : L2.St} {H : Hp} {Q : VK} {QL : List V → Hp → Prop} {QB : Bool → Hp → Prop} {QO : Option Int → Hp → Prop} {QS : L2.St → Hp → Prop} {v w : V} {a0 a1 a2 a3 a4 a5 a6 a7 a8 a9 a10 a11 a12 a13 a14 a15 a16 a17 a18 a19 : Option V} {te tb tc : TE} {ta : TA} {t u : TT} {ts us : TS} {D : Ends} {g : TG}
def rTupOf (K : PySem.W.Frag) : List V → Hp → VK → Prop := fun xs H Q => ∃ p ys, xs = [.ref p] ∧ ((SqL K H p ys ∧ ∀ l, H l = none → Q (.ref l) (L2.upd H l (.tup ys))) ∨ SqT K H p ys ∧ Q (.ref p) H)
theorem call_tupK {X : Cx} {K : PySem.W.Frag} (e : X.K = K) : CallR X (.type "tuple") (rTupOf K) := e ▸ call_tuple_of
def rLstOf (K : PySem.W.Frag) : List V → Hp → VK → Prop := fun xs H Q => ∃ p ys, xs = [.ref p] ∧ (SqL K H p ys ∨ SqT K H p ys) ∧ ∀ l, H l = none → Q (.ref l) (L2.upd H l (.lst ys))
theorem call_listK {X : Cx} {K : PySem.W.Frag} (e : X.K = K) : CallR X (.type "list") (rLstOf K) := e ▸ call_list_of
def rLenOf (K : PySem.W.Frag) : List V → Hp → VK → Prop := fun xs H Q => ∃ p ys, xs = [.ref p] ∧ (SqL K H p ys ∨ SqT K H p ys) ∧ Q (.int (ys.length : Int)) H
theorem call_lenK {X : Cx} {K : PySem.W.Frag} (e : X.K = K) : CallR X (.builtin "len") (rLenOf K) := e ▸ call_len_seq
theorem all_cons {α : Type} {p : α → Prop} {a : α} {l : List α} (h : p a) (r : ∀ q ∈ l, p q) : ∀ q ∈ a :: l, p q := fun q hq => by
  rcases List.mem_cons.mp hq with e | e
  · rw [e]; exact h
  · exact r q e
theorem x_v0 (q : Q v H) : tVar 0 (some v :: σ) H Q := ⟨_, rfl, q⟩
theorem x_g0 (q : QS (some v :: σ) H) : gName 0 v (a0 :: σ) H QS := q
theorem x_v1 (q : Q v H) : tVar 1 (a0 :: some v :: σ) H Q := ⟨_, rfl, q⟩
theorem x_g1 (q : QS (a0 :: some v :: σ) H) : gName 1 v (a0 :: a1 :: σ) H QS := q
theorem x_v2 (q : Q v H) : tVar 2 (a0 :: a1 :: some v :: σ) H Q := ⟨_, rfl, q⟩
theorem x_g2 (q : QS (a0 :: a1 :: some v :: σ) H) : gName 2 v (a0 :: a1 :: a2 :: σ) H QS := q
theorem x_v3 (q : Q v H) : tVar 3 (a0 :: a1 :: a2 :: some v :: σ) H Q := ⟨_, rfl, q⟩
theorem x_g3 (q : QS (a0 :: a1 :: a2 :: some v :: σ) H) : gName 3 v (a0 :: a1 :: a2 :: a3 :: σ) H QS := q
theorem x_v4 (q : Q v H) : tVar 4 (a0 :: a1 :: a2 :: a3 :: some v :: σ) H Q := ⟨_, rfl, q⟩
theorem x_g4 (q : QS (a0 :: a1 :: a2 :: a3 :: some v :: σ) H) : gName 4 v (a0 :: a1 :: a2 :: a3 :: a4 :: σ) H QS := q
theorem x_v5 (q : Q v H) : tVar 5 (a0 :: a1 :: a2 :: a3 :: a4 :: some v :: σ) H Q := ⟨_, rfl, q⟩
theorem x_g5 (q : QS (a0 :: a1 :: a2 :: a3 :: a4 :: some v :: σ) H) : gName 5 v (a0 :: a1 :: a2 :: a3 :: a4 :: a5 :: σ) H QS := q
theorem x_v6 (q : Q v H) : tVar 6 (a0 :: a1 :: a2 :: a3 :: a4 :: a5 :: some v :: σ) H Q := ⟨_, rfl, q⟩
theorem x_g6 (q : QS (a0 :: a1 :: a2 :: a3 :: a4 :: a5 :: some v :: σ) H) : gName 6 v (a0 :: a1 :: a2 :: a3 :: a4 :: a5 :: a6 :: σ) H QS := q
theorem x_v7 (q : Q v H) : tVar 7 (a0 :: a1 :: a2 :: a3 :: a4 :: a5 :: a6 :: some v :: σ) H Q := ⟨_, rfl, q⟩
theorem x_g7 (q : QS (a0 :: a1 :: a2 :: a3 :: a4 :: a5 :: a6 :: some v :: σ) H) : gName 7 v (a0 :: a1 :: a2 :: a3 :: a4 :: a5 :: a6 :: a7 :: σ) H QS := q
theorem x_v8 (q : Q v H) : tVar 8 (a0 :: a1 :: a2 :: a3 :: a4 :: a5 :: a6 :: a7 :: some v :: σ) H Q := ⟨_, rfl, q⟩
theorem x_g8 (q : QS (a0 :: a1 :: a2 :: a3 :: a4 :: a5 :: a6 :: a7 :: some v :: σ) H) : gName 8 v (a0 :: a1 :: a2 :: a3 :: a4 :: a5 :: a6 :: a7 :: a8 :: σ) H QS := q
theorem x_v9 (q : Q v H) : tVar 9 (a0 :: a1 :: a2 :: a3 :: a4 :: a5 :: a6 :: a7 :: a8 :: some v :: σ) H Q := ⟨_, rfl, q⟩
theorem x_g9 (q : QS (a0 :: a1 :: a2 :: a3 :: a4 :: a5 :: a6 :: a7 :: a8 :: some v :: σ) H) : gName 9 v (a0 :: a1 :: a2 :: a3 :: a4 :: a5 :: a6 :: a7 :: a8 :: a9 :: σ) H QS := q
theorem x_v10 (q : Q v H) : tVar 10 (a0 :: a1 :: a2 :: a3 :: a4 :: a5 :: a6 :: a7 :: a8 :: a9 :: some v :: σ) H Q := ⟨_, rfl, q⟩
theorem x_g10 (q : QS (a0 :: a1 :: a2 :: a3 :: a4 :: a5 :: a6 :: a7 :: a8 :: a9 :: some v :: σ) H) : gName 10 v (a0 :: a1 :: a2 :: a3 :: a4 :: a5 :: a6 :: a7 :: a8 :: a9 :: a10 :: σ) H QS := q
theorem x_v11 (q : Q v H) : tVar 11 (a0 :: a1 :: a2 :: a3 :: a4 :: a5 :: a6 :: a7 :: a8 :: a9 :: a10 :: some v :: σ) H Q := ⟨_, rfl, q⟩
theorem x_g11 (q : QS (a0 :: a1 :: a2 :: a3 :: a4 :: a5 :: a6 :: a7 :: a8 :: a9 :: a10 :: some v :: σ) H) : gName 11 v (a0 :: a1 :: a2 :: a3 :: a4 :: a5 :: a6 :: a7 :: a8 :: a9 :: a10 :: a11 :: σ) H QS := q
theorem x_v12 (q : Q v H) : tVar 12 (a0 :: a1 :: a2 :: a3 :: a4 :: a5 :: a6 :: a7 :: a8 :: a9 :: a10 :: a11 :: some v :: σ) H Q := ⟨_, rfl, q⟩
theorem x_g12 (q : QS (a0 :: a1 :: a2 :: a3 :: a4 :: a5 :: a6 :: a7 :: a8 :: a9 :: a10 :: a11 :: some v :: σ) H) : gName 12 v (a0 :: a1 :: a2 :: a3 :: a4 :: a5 :: a6 :: a7 :: a8 :: a9 :: a10 :: a11 :: a12 :: σ) H QS := q
theorem x_v13 (q : Q v H) : tVar 13 (a0 :: a1 :: a2 :: a3 :: a4 :: a5 :: a6 :: a7 :: a8 :: a9 :: a10 :: a11 :: a12 :: some v :: σ) H Q := ⟨_, rfl, q⟩
theorem x_g13 (q : QS (a0 :: a1 :: a2 :: a3 :: a4 :: a5 :: a6 :: a7 :: a8 :: a9 :: a10 :: a11 :: a12 :: some v :: σ) H) : gName 13 v (a0 :: a1 :: a2 :: a3 :: a4 :: a5 :: a6 :: a7 :: a8 :: a9 :: a10 :: a11 :: a12 :: a13 :: σ) H QS := q
theorem x_v14 (q : Q v H) : tVar 14 (a0 :: a1 :: a2 :: a3 :: a4 :: a5 :: a6 :: a7 :: a8 :: a9 :: a10 :: a11 :: a12 :: a13 :: some v :: σ) H Q := ⟨_, rfl, q⟩
theorem x_g14 (q : QS (a0 :: a1 :: a2 :: a3 :: a4 :: a5 :: a6 :: a7 :: a8 :: a9 :: a10 :: a11 :: a12 :: a13 :: some v :: σ) H) : gName 14 v (a0 :: a1 :: a2 :: a3 :: a4 :: a5 :: a6 :: a7 :: a8 :: a9 :: a10 :: a11 :: a12 :: a13 :: a14 :: σ) H QS := q
theorem x_v15 (q : Q v H) : tVar 15 (a0 :: a1 :: a2 :: a3 :: a4 :: a5 :: a6 :: a7 :: a8 :: a9 :: a10 :: a11 :: a12 :: a13 :: a14 :: some v :: σ) H Q := ⟨_, rfl, q⟩
theorem x_g15 (q : QS (a0 :: a1 :: a2 :: a3 :: a4 :: a5 :: a6 :: a7 :: a8 :: a9 :: a10 :: a11 :: a12 :: a13 :: a14 :: some v :: σ) H) : gName 15 v (a0 :: a1 :: a2 :: a3 :: a4 :: a5 :: a6 :: a7 :: a8 :: a9 :: a10 :: a11 :: a12 :: a13 :: a14 :: a15 :: σ) H QS := q
theorem x_v16 (q : Q v H) : tVar 16 (a0 :: a1 :: a2 :: a3 :: a4 :: a5 :: a6 :: a7 :: a8 :: a9 :: a10 :: a11 :: a12 :: a13 :: a14 :: a15 :: some v :: σ) H Q := ⟨_, rfl, q⟩
theorem x_g16 (q : QS (a0 :: a1 :: a2 :: a3 :: a4 :: a5 :: a6 :: a7 :: a8 :: a9 :: a10 :: a11 :: a12 :: a13 :: a14 :: a15 :: some v :: σ) H) : gName 16 v (a0 :: a1 :: a2 :: a3 :: a4 :: a5 :: a6 :: a7 :: a8 :: a9 :: a10 :: a11 :: a12 :: a13 :: a14 :: a15 :: a16 :: σ) H QS := q
theorem x_v17 (q : Q v H) : tVar 17 (a0 :: a1 :: a2 :: a3 :: a4 :: a5 :: a6 :: a7 :: a8 :: a9 :: a10 :: a11 :: a12 :: a13 :: a14 :: a15 :: a16 :: some v :: σ) H Q := ⟨_, rfl, q⟩
theorem x_g17 (q : QS (a0 :: a1 :: a2 :: a3 :: a4 :: a5 :: a6 :: a7 :: a8 :: a9 :: a10 :: a11 :: a12 :: a13 :: a14 :: a15 :: a16 :: some v :: σ) H) : gName 17 v (a0 :: a1 :: a2 :: a3 :: a4 :: a5 :: a6 :: a7 :: a8 :: a9 :: a10 :: a11 :: a12 :: a13 :: a14 :: a15 :: a16 :: a17 :: σ) H QS := q
theorem x_v18 (q : Q v H) : tVar 18 (a0 :: a1 :: a2 :: a3 :: a4 :: a5 :: a6 :: a7 :: a8 :: a9 :: a10 :: a11 :: a12 :: a13 :: a14 :: a15 :: a16 :: a17 :: some v :: σ) H Q := ⟨_, rfl, q⟩
theorem x_g18 (q : QS (a0 :: a1 :: a2 :: a3 :: a4 :: a5 :: a6 :: a7 :: a8 :: a9 :: a10 :: a11 :: a12 :: a13 :: a14 :: a15 :: a16 :: a17 :: some v :: σ) H) : gName 18 v (a0 :: a1 :: a2 :: a3 :: a4 :: a5 :: a6 :: a7 :: a8 :: a9 :: a10 :: a11 :: a12 :: a13 :: a14 :: a15 :: a16 :: a17 :: a18 :: σ) H QS := q
theorem x_v19 (q : Q v H) : tVar 19 (a0 :: a1 :: a2 :: a3 :: a4 :: a5 :: a6 :: a7 :: a8 :: a9 :: a10 :: a11 :: a12 :: a13 :: a14 :: a15 :: a16 :: a17 :: a18 :: some v :: σ) H Q := ⟨_, rfl, q⟩
theorem x_g19 (q : QS (a0 :: a1 :: a2 :: a3 :: a4 :: a5 :: a6 :: a7 :: a8 :: a9 :: a10 :: a11 :: a12 :: a13 :: a14 :: a15 :: a16 :: a17 :: a18 :: some v :: σ) H) : gName 19 v (a0 :: a1 :: a2 :: a3 :: a4 :: a5 :: a6 :: a7 :: a8 :: a9 :: a10 :: a11 :: a12 :: a13 :: a14 :: a15 :: a16 :: a17 :: a18 :: a19 :: σ) H QS := q
theorem x_c (q : Q v H) : tC v σ H Q := q
theorem x_op {r : R2} (q : te σ H fun x H1 => tb σ H1 fun y H2 => r x y H2 Q) : tOp r te tb σ H Q := q
theorem x_un {r : V → Hp → VK → Prop} (q : te σ H fun x H1 => r x H1 Q) : tUn r te σ H Q := q
theorem x_test (q : te σ H fun x H1 => ∃ k, x = .bl k ∧ QB k H1) : tTest te σ H QB := q
theorem x_tB (q : te σ H fun x H1 => ∃ k, x = .bl k ∧ QB k H1) : tB te σ H QB := q
theorem x_and (q : t σ H fun c H1 => if c = true then u σ H1 QB else QB false H1) : tAnd t u σ H QB := q
theorem x_or (q : t σ H fun c H1 => if c = true then QB true H1 else u σ H1 QB) : tOr t u σ H QB := q
theorem x_not (q : t σ H fun c H1 => QB (!c) H1) : tNot t σ H QB := q
theorem x_andV (q : te σ H fun x H1 => ∃ c, x = .bl c ∧ if c = true then tb σ H1 Q else Q (.bl false) H1) : tAndV te tb σ H Q := q
theorem x_orV (q : te σ H fun x H1 => ∃ c, x = .bl c ∧ if c = true then Q (.bl true) H1 else tb σ H1 Q) : tOrV te tb σ H Q := q
theorem x_notV (q : te σ H fun x H1 => ∃ c, x = .bl c ∧ Q (.bl (!c)) H1) : tNotV te σ H Q := q
theorem x_if (q : t σ H fun c H1 => if c = true then te σ H1 Q else tb σ H1 Q) : tIf t te tb σ H Q := q
theorem x_ifS (q : t σ H fun b H1 => if b = true then ts D σ H1 else us D σ H1) : tIfS t ts us D σ H := q
theorem x_seq (q : ts ⟨us D, D.rt, D.bk, D.ct⟩ σ H) : tSeq ts us D σ H := q
theorem x_next (q : D.nx σ H) : tNext D σ H := q
theorem x_brk (q : D.bk σ H) : tBreak D σ H := q
theorem x_cont (q : D.ct σ H) : tCont D σ H := q
theorem x_nx {f : L2.St → Hp → Prop} {r : VK} {b c : L2.St → Hp → Prop} (q : f σ H) : Ends.nx ⟨f, r, b, c⟩ σ H := q
theorem x_rt {f : VK} {n b c : L2.St → Hp → Prop} (q : f v H) : Ends.rt ⟨n, f, b, c⟩ v H := q
theorem x_bk {f : L2.St → Hp → Prop} {r : VK} {n c : L2.St → Hp → Prop} (q : f σ H) : Ends.bk ⟨n, r, f, c⟩ σ H := q
theorem x_ct {f : L2.St → Hp → Prop} {r : VK} {n b : L2.St → Hp → Prop} (q : f σ H) : Ends.ct ⟨n, r, b, f⟩ σ H := q
theorem x_drop (q : te σ H fun _ H1 => D.nx σ H1) : tDrop te D σ H := q
theorem x_ret (q : te σ H fun x H1 => D.rt x H1) : tRet te D σ H := q
theorem x_retN (q : D.rt .non H) : tRetN D σ H := q
theorem x_asg (q : te σ H fun x H1 => g x σ H1 D.nx) : tAsg te g D σ H := q
theorem x_nil (q : QL [] H) : tNil σ H QL := q
theorem x_cons (q : te σ H fun x H1 => ta σ H1 fun xs H2 => QL (x :: xs) H2) : tCons te ta σ H QL := q
theorem x_call {sp : Sp} {dvs : List V} {E : XK} (q : ta σ H fun vs H1 => sp (vs ++ dvs) H1 Q E) : tCall sp dvs E ta σ H Q := q
theorem x_cb {r : List V → Hp → VK → Prop} (q : ta σ H fun vs H1 => r vs H1 Q) : tCB r ta σ H Q := q
theorem x_bm {T : String} {r : V → List V → Hp → VK → Prop} (q : te σ H fun x H1 => tyV K T x H1 ∧ ta σ H1 fun xs H2 => r x xs H2 Q) : tBM K T r te ta σ H Q := q
theorem x_sl {r : V → Option Int → Option Int → Hp → VK → Prop} {tl th : TO} (q : te σ H fun x H1 => tl σ H1 fun l H2 => th σ H2 fun u H3 => r x l u H3 Q) : tSl r te tl th σ H Q := q
theorem x_np (q : QO none H) : tNoPart σ H QO := q
theorem x_pt (q : te σ H fun x H1 => ∃ i, x = .int i ∧ QO (some i) H1) : tPart te σ H QO := q
theorem x_exI {P : Int → Prop} {i : Int} (q : P i) : ∃ k, V.int i = V.int k ∧ P k := ⟨_, rfl, q⟩
theorem x_exB {P : Bool → Prop} {b : Bool} (q : P b) : ∃ k, V.bl b = V.bl k ∧ P k := ⟨_, rfl, q⟩
theorem x_I0 {f : Int → Int → V} {i j : Int} (q : Q (f i j) H) : rI0 f (.int i) (.int j) H Q := ⟨_, _, rfl, rfl, q⟩
theorem x_eqI {i j : Int} (q : Q (.bl (decide (i = j))) H) : rEq (.int i) (.int j) H Q := ⟨rfl, by rw [My.dec_int]; exact q⟩
theorem x_neI {i j : Int} (q : Q (.bl (!decide (i = j))) H) : rNe (.int i) (.int j) H Q := ⟨rfl, by rw [My.dec_int]; exact q⟩
theorem x_eqS {i j : Str} (q : Q (.bl (decide (i = j))) H) : rEq (.str i) (.str j) H Q := ⟨rfl, by
  have e : decide (V.str i = V.str j) = decide (i = j) := by
    by_cases h : i = j
    · rw [decide_eq_true h, decide_eq_true (congrArg V.str h)]
    · rw [decide_eq_false h, decide_eq_false (fun z => h (V.str.inj z))]
  rw [e]; exact q⟩
theorem x_neS {i j : Str} (q : Q (.bl (!decide (i = j))) H) : rNe (.str i) (.str j) H Q := ⟨rfl, by
  have e : decide (V.str i = V.str j) = decide (i = j) := by
    by_cases h : i = j
    · rw [decide_eq_true h, decide_eq_true (congrArg V.str h)]
    · rw [decide_eq_false h, decide_eq_false (fun z => h (V.str.inj z))]
  rw [e]; exact q⟩
def brB (b : Bool) (p q : Prop) : Prop := (b = true → p) ∧ (b = false → q)
theorem x_ite {b : Bool} {p q : Prop} (h : brB b p q) : if b = true then p else q := by
  cases b with
  | true => rw [if_pos rfl]; exact h.1 rfl
  | false => rw [if_neg Bool.false_ne_true]; exact h.2 rfl
theorem x_brT {p q : Prop} (h : p) : brB true p q := ⟨fun _ => h, fun z => nomatch z⟩
theorem x_brF {p q : Prop} (h : q) : brB false p q := ⟨fun z => (nomatch z), fun _ => h⟩
theorem x_brN {b : Bool} {p q : Prop} (h : brB b q p) : brB (!b) p q := by
  cases b with
  | true => exact x_brF (h.1 rfl)
  | false => exact x_brT (h.2 rfl)
theorem br2 {b : Bool} {p q : Prop} (h1 : b = true → p) (h2 : b = false → q) : brB b p q := ⟨h1, h2⟩
theorem brD {c : Prop} [Decidable c] {p q : Prop} (h1 : c → p) (h2 : ¬ c → q) : brB (decide c) p q := ⟨fun h => h1 (of_decide_eq_true h), fun h => h2 (of_decide_eq_false h)⟩
theorem brT {b : Bool} {p q : Prop} (e : b = true) (h : p) : brB b p q := ⟨fun _ => h, fun z => by rw [e] at z; cases z⟩
theorem brF {b : Bool} {p q : Prop} (e : b = false) (h : q) : brB b p q := ⟨fun z => (by rw [e] at z; cases z), fun _ => h⟩
theorem brDT {c : Prop} [Decidable c] {p q : Prop} (e : c) (h : p) : brB (decide c) p q := brT (decide_eq_true e) h
theorem brDF {c : Prop} [Decidable c] {p q : Prop} (e : ¬ c) (h : q) : brB (decide c) p q := brF (decide_eq_false e) h
theorem x_ixL {a : Addr} {xs : List V} {i : Int} (h : H a = some (.lst xs)) (hi : atI xs i = some v) (q : Q v H) : rIxL K (.ref a) (.int i) H Q := ⟨_, _, _, _, rfl, rfl, SqL.of h, hi, q⟩
theorem x_ixT {a : Addr} {xs : List V} {i : Int} (h : H a = some (.tup xs)) (hi : atI xs i = some v) (q : Q v H) : rIxT K (.ref a) (.int i) H Q := ⟨_, _, _, _, rfl, rfl, SqT.of h, hi, q⟩
def rNewL (xs : List V) (H : Hp) (Q : VK) : Prop := xs.length ≤ sizeLine ∧ ∀ p, H p = none → Q (.ref p) (L2.upd H p (.lst xs))
def rNewT (xs : List V) (H : Hp) (Q : VK) : Prop := xs.length ≤ sizeLine ∧ ∀ p, H p = none → Q (.ref p) (L2.upd H p (.tup xs))
theorem x_lst (q : ta σ H fun xs H1 => rNewL xs H1 Q) : tLst ta σ H Q := q
theorem x_tup (q : ta σ H fun xs H1 => rNewT xs H1 Q) : tTup ta σ H Q := q
theorem x_new {n : Nat} {P : Prop} (h : n ≤ 100000) (q : P) : n ≤ sizeLine ∧ P := ⟨Nat.le_trans h (by decide), q⟩
theorem x_sFld {f : Str} (q : tb σ H fun y H1 => te σ H1 fun x H2 => ∃ a C dx fs, x = .ref a ∧ H2 a = some (.ins C dx fs) ∧ Cls K C ∧ NoAttr K C f ∧ fs.length < 1000 ∧ D.nx σ (L2.upd H2 a (.ins C dx (putF f y fs)))) : sFld K te tb f D σ H := q
theorem x_fld {f : Str} (q : te σ H fun x H1 => ∃ a C dx fs v, x = .ref a ∧ H1 a = some (.ins C dx fs) ∧ Cls K C ∧ NoAttr K C f ∧ fs.lookup f = some v ∧ Q v H1) : tFld K te f σ H Q := q
/-- a field is stored -/
theorem fstore {f : Str} {y : V} {p C dx : Addr} {fs fs' : List (Str × V)} {P : Hp → Prop} (h : H p = some (.ins C dx fs)) (c : Cls K C) (n : NoAttr K C f) (l : fs.length < 1000) (e : putF f y fs = fs') (q : ∀ H', SameX p H H' → H' p = some (.ins C dx fs') → P H') :
    ∃ a C dx fs, V.ref p = .ref a ∧ H a = some (.ins C dx fs) ∧ Cls K C ∧ NoAttr K C f ∧ fs.length < 1000 ∧ P (L2.upd H a (.ins C dx (putF f y fs))) := ⟨p, C, dx, fs, rfl, h, c, n, l, q _ SameX.upd (by rw [e]; exact upd_same)⟩
/-- a field is read -/
theorem fget {f : Str} {v : V} {p C dx : Addr} {fs : List (Str × V)} {P : V → Prop} (h : H p = some (.ins C dx fs)) (c : Cls K C) (n : NoAttr K C f) (e : fs.lookup f = some v) (q : P v) :
    ∃ a C dx fs v, V.ref p = .ref a ∧ H a = some (.ins C dx fs) ∧ Cls K C ∧ NoAttr K C f ∧ fs.lookup f = some v ∧ P v := ⟨p, C, dx, fs, v, rfl, h, c, n, e, q⟩
/-- tuple(seq) -/
theorem tupleOf {a : Addr} {xs : List V} (h : SeqA K H a xs) (q : ∀ l H', Same H H' → SqT K H' l xs → Q (.ref l) H') :
    rTupOf K [.ref a] H Q :=
  ⟨a, xs, rfl, h.elim (fun h => .inl ⟨h, fun l hl => q l _ (Same.new hl) (SqT.of upd_same)⟩) fun h => .inr ⟨h, q a H (Same.refl H) h⟩⟩
/-- list(seq) -/
theorem listOf {a : Addr} {xs : List V} (h : SeqA K H a xs) (q : ∀ l H', H l = none → Same H H' → H' l = some (.lst xs) → Q (.ref l) H') :
    rLstOf K [.ref a] H Q := ⟨a, xs, rfl, h, fun l hl => q l _ hl (Same.new hl) upd_same⟩
/-- new lists, new tuples, sums of lists, appends, by what stands afterwards -/
theorem newList {xs : List V} (h : xs.length ≤ 100000) (q : ∀ l H', H l = none → Same H H' → H' l = some (.lst xs) → Q (.ref l) H') : rNewL xs H Q := ⟨Nat.le_trans h (by decide), fun l hl => q l _ hl (Same.new hl) upd_same⟩
theorem newTup {xs : List V} (h : xs.length ≤ 100000) (q : ∀ l H', H l = none → Same H H' → H' l = some (.tup xs) → Q (.ref l) H') : rNewT xs H Q := ⟨Nat.le_trans h (by decide), fun l hl => q l _ hl (Same.new hl) upd_same⟩
theorem catList {a b : Addr} {xs zs : List V} (ha : H a = some (.lst xs)) (hb : H b = some (.lst zs)) (h : xs.length + zs.length ≤ 100000) (q : ∀ l H', H l = none → Same H H' → H' l = some (.lst (xs ++ zs)) → Q (.ref l) H') : rCat (.ref a) (.ref b) H Q :=
  ⟨a, b, xs, zs, rfl, rfl, ha, hb, Nat.le_trans h (by decide), fun l hl => q l _ hl (Same.new hl) upd_same⟩
theorem appList {a : Addr} {xs : List V} {y : V} (ha : H a = some (.lst xs)) (h : xs.length < 100000) (q : ∀ H', SameX a H H' → H' a = some (.lst (xs ++ [y])) → Q .non H') : rAppend (.ref a) [y] H Q := ⟨a, xs, y, rfl, rfl, ha, Nat.lt_of_lt_of_le h (by decide), q _ SameX.upd upd_same⟩
theorem isList {a : Addr} {xs : List V} (ha : H a = some (.lst xs)) : tyV K "list" (.ref a) H := .inl ⟨rfl, xs, SqL.of ha⟩
theorem ixL {a : Addr} {xs : List V} {i : Nat} (ha : H a = some (.lst xs)) (hi : xs[i]? = some v) (q : Q v H) : rIxL K (.ref a) (.int (i : Int)) H Q := ⟨a, xs, i, v, rfl, rfl, SqL.of ha, atI_nat hi, q⟩
theorem ixT {a : Addr} {xs : List V} {i : Nat} (ha : SqT K H a xs) (hi : xs[i]? = some v) (q : Q v H) : rIxT K (.ref a) (.int (i : Int)) H Q := ⟨a, xs, i, v, rfl, rfl, ha, atI_nat hi, q⟩
theorem setL {a : Addr} {xs : List V} {i : Nat} {P : Hp → Prop} (ha : H a = some (.lst xs)) (hi : i < xs.length) (q : ∀ H', SameX a H H' → H' a = some (.lst (xs.set i v)) → P H') : rSetL (.ref a) (.int (i : Int)) v H P := ⟨a, xs, i, i, rfl, rfl, ha, ixN_nat rfl hi, q _ SameX.upd upd_same⟩
theorem lenA {a : Addr} {xs : List V} (h : SeqA K H a xs) (q : Q (.int (xs.length : Int)) H) : rLenOf K [.ref a] H Q := ⟨a, xs, rfl, h, q⟩
/-- what a for asks once its turns are known -/
def forK (J : It) (g : TG) (tb : TS) (D : Ends) (σ : L2.St) (H : Hp) : Prop := ∃ W : Nat → Nat → L2.St → Hp → Prop, (∃ m, W 0 m σ H) ∧ ∀ i m σ H, W i m σ H →
  (J.stop i H ∧ D.nx σ H) ∨ (J.go i H ∧ ∃ N : L2.St → Hp → Prop, (∀ σ' H', N σ' H' → ∃ m', m' < m ∧ W (i + 1) m' σ' H') ∧ ∀ x H', J.yld i H x H' → g x σ H' fun σ2 H2 => tb { D with nx := N, ct := N, bk := D.nx } σ2 H2)
def forI (g : TG) (tb : TS) (D : Ends) (σ : L2.St) (n : Int) (H : Hp) : Prop := ∃ j : Int, [V.int n] = [.int j] ∧ -(2 ^ 62) ≤ j ∧ j < 2 ^ 62 ∧ forK (Itr 0 j.toNat) g tb D σ H
theorem x_for1 (q : ta σ H fun vs H1 => ∃ j : Int, vs = [.int j] ∧ -(2 ^ 62) ≤ j ∧ j < 2 ^ 62 ∧ forK (Itr 0 j.toNat) g ts D σ H1) : tFor (iRng1 ta) g ts D σ H := q
theorem x_forL (q : te σ H fun x H1 => ∃ a, x = .ref a ∧ (∃ xs, SqL K H1 a xs) ∧ forK (Itl K a) g ts D σ H1) : tFor (iList K te) g ts D σ H := q
theorem x_forT (q : te σ H fun x H1 => ∃ a, x = .ref a ∧ (∃ xs, SqT K H1 a xs) ∧ forK (Itt K a) g ts D σ H1) : tFor (iTup K te) g ts D σ H := q
theorem rng1 {n : Int} (h0 : -100000 ≤ n) (h1 : n ≤ 100000) (q : forK (Itr 0 n.toNat) g ts D σ H) : ∃ j : Int, [V.int n] = [.int j] ∧ -(2 ^ 62) ≤ j ∧ j < 2 ^ 62 ∧ forK (Itr 0 j.toNat) g ts D σ H := ⟨n, rfl, by omega, by omega, q⟩
theorem overL {a : Addr} {xs : List V} (h : SqL K H a xs) (q : forK (Itl K a) g ts D σ H) : ∃ b, V.ref a = .ref b ∧ (∃ xs, SqL K H b xs) ∧ forK (Itl K b) g ts D σ H := ⟨a, rfl, ⟨_, h⟩, q⟩
theorem overT {a : Addr} {xs : List V} (h : SqT K H a xs) (q : forK (Itt K a) g ts D σ H) : ∃ b, V.ref a = .ref b ∧ (∃ xs, SqT K H b xs) ∧ forK (Itt K b) g ts D σ H := ⟨a, rfl, ⟨_, h⟩, q⟩
end
/-! ### steps: more readings by their form -/
theorem pe_fldK {X : Cx} {K : PySem.W.Frag} {e : Expr} {f : Str} {pos : Pos} {ta : TE} (eK : X.K = K) (he : PE X e ta) (hb : attributeBase e f X.env (eval e X.env) = eval e X.env) : PE X (.Attribute e f pos) (tFld K ta f) := eK ▸ pe_fld he hb
section
variable {K : PySem.W.Frag} {σ : L2.St} {H : Hp} {Q : VK} {QS : L2.St → Hp → Prop} {v : V} {te tb ti : TE} {tt : TT} {D : Ends}
theorem x_gsub {to ti : TE} {t : TSet} (q : to σ H fun o H1 => ti σ H1 fun i H2 => t o i v H2 fun H3 => QS σ H3) : gSub to ti t v σ H QS := q
theorem x_int1 {P : Int → Prop} {R : Prop} {i : Int} (q : P i) : (∃ k, [V.int i] = [V.int k] ∧ P k) ∨ R := .inl ⟨i, rfl, q⟩
theorem x_exL {P : Int → Prop} {i : Int} (q : P i) : ∃ k, [V.int i] = [V.int k] ∧ P k := ⟨i, rfl, q⟩
theorem min_if (i j : Int) : (if j < i then j else i) = min i j := by rw [Int.min_def]; split <;> split <;> omega
theorem max_if (i j : Int) : (if j > i then j else i) = max i j := by rw [Int.max_def]; split <;> split <;> omega
def rMin2 : List V → Hp → VK → Prop := fun xs H Q => ∃ i j, xs = [.int i, .int j] ∧ Q (.int (min i j)) H
def rMax2 : List V → Hp → VK → Prop := fun xs H Q => ∃ i j, xs = [.int i, .int j] ∧ Q (.int (max i j)) H
def ab (x : Int) : Int := if x < 0 then -x else x
def rAbs : List V → Hp → VK → Prop := fun xs H Q => ∃ i, xs = [.int i] ∧ Q (.int (ab i)) H
theorem call_min2K {X : Cx} (hc : X.calm = true) : CallR X (.builtin "min") rMin2 := by
  intro pins s σ H xs us Q I r h
  obtain ⟨i, j, e, q⟩ := h
  exact call_min2 hc pins s σ H xs us Q I r ⟨i, j, e, by rw [min_if]; exact q⟩
theorem call_max2K {X : Cx} (hc : X.calm = true) : CallR X (.builtin "max") rMax2 := by
  intro pins s σ H xs us Q I r h
  obtain ⟨i, j, e, q⟩ := h
  exact call_max2 hc pins s σ H xs us Q I r ⟨i, j, e, by rw [max_if]; exact q⟩
theorem call_absK {X : Cx} : CallR X (.builtin "abs") rAbs := call_abs
theorem x_min2 {i j : Int} (q : Q (.int (min i j)) H) : rMin2 [.int i, .int j] H Q := ⟨i, j, rfl, q⟩
theorem x_max2 {i j : Int} (q : Q (.int (max i j)) H) : rMax2 [.int i, .int j] H Q := ⟨i, j, rfl, q⟩
theorem x_abs {i : Int} (q : Q (.int (ab i)) H) : rAbs [.int i] H Q := ⟨i, rfl, q⟩
theorem x_brTT {p q : Prop} (h : p) : brB (true && true) p q := x_brT h
theorem x_mod {i j : Int} (h : 0 < j) (q : Q (.int (i % j)) H) : rI (fun _ j => 0 < j) (fun i j => .int (i % j)) (.int i) (.int j) H Q := ⟨i, j, rfl, rfl, h, q⟩
theorem x_mulR {i j : Int} (h : -(2 ^ 64) < j ∧ j < 2 ^ 64) (q : Q (.int (i * j)) H) : rI CMul (fun i j => .int (i * j)) (.int i) (.int j) H Q := ⟨i, j, rfl, rfl, .inr h, q⟩
theorem x_mulL {i j : Int} (h : -(2 ^ 64) < i ∧ i < 2 ^ 64) (q : Q (.int (i * j)) H) : rI CMul (fun i j => .int (i * j)) (.int i) (.int j) H Q := ⟨i, j, rfl, rfl, .inl h, q⟩
theorem x_div {i j : Int} (h : 0 < j ∧ j < 1073741824) (q : Q (.int (i / j)) H) : rI CDiv (fun i j => .int (i / j)) (.int i) (.int j) H Q := ⟨i, j, rfl, rfl, h, q⟩
theorem x_divW {i j : Int} (h0 : 0 < j) (h : j < 2 ^ 62) (q : Q (.int (i / j)) H) : rI CDivW (fun i j => .int (i / j)) (.int i) (.int j) H Q := ⟨i, j, rfl, rfl, ⟨h0, Nat.lt_trans (PySem.Flt.log2_lt_of (k := 62) (by decide) (by omega)) (by decide)⟩, q⟩
theorem x_pow {i j : Int} (h : 0 ≤ j ∧ j ≤ 1000000 ∧ i.natAbs < 2 ^ 64) (q : Q (.int (i ^ j.toNat)) H) : rI CPow (fun i j => .int (i ^ j.toNat)) (.int i) (.int j) H Q := ⟨i, j, rfl, rfl, h, q⟩
theorem x_nN {P : Prop} (q : P) : V.non = V.non ∧ P := ⟨rfl, q⟩
theorem x_chain {r r' : R2} {tc : TE} (q : te σ H fun x H1 => tb σ H1 fun y H2 => r x y H2 fun z H3 => ∃ k, z = .bl k ∧ brB k (tc σ H3 fun w' H4 => r' y w' H4 Q) (Q (.bl false) H3)) : tChain r r' te tb tc σ H Q := by
  refine cast (congrArg (fun z => te σ H z) ?_) q
  funext x H1
  refine congrArg (fun z => tb σ H1 z) ?_
  funext y H2
  refine congrArg (fun z => r x y H2 z) ?_
  funext z H3
  refine congrArg Exists ?_
  funext k
  refine congrArg (fun p => z = .bl k ∧ p) ?_
  exact propext ⟨fun h => x_ite h, fun h => by cases k with
    | true => exact x_brT (by rw [if_pos rfl] at h; exact h)
    | false => exact x_brF (by rw [if_neg Bool.false_ne_true] at h; exact h)⟩
theorem x_meth {C : Addr} {m : Str} {sp : Sp} {dvs : List V} {E : XK} {ta : TE} {t : TA} (q : ta σ H fun x H1 => ∃ a dx fs, x = .ref a ∧ H1 a = some (.ins C dx fs) ∧ fs.lookup m = none ∧ t σ H1 fun vs H2 => sp (x :: (vs ++ dvs)) H2 Q E) : tMeth C m sp dvs E ta t σ H Q := q
theorem x_prop {C : Addr} {sp : Sp} {dvs : List V} {E : XK} {ta : TE} (q : ta σ H fun x H1 => ∃ a dx fs, x = .ref a ∧ H1 a = some (.ins C dx fs) ∧ sp (.ref a :: dvs) H1 Q E) : tProp C sp dvs E ta σ H Q := q
theorem x_make {C : Addr} {sp : Sp} {dvs : List V} {E : XK} {t : TA} (q : t σ H fun vs H1 => ∀ x dx, H1 x = none → H1 dx = none → dx ≠ x → sp (.ref x :: (vs ++ dvs)) (upd (upd H1 dx (.own x)) x (.ins C dx [])) (fun v H2 => v = .non ∧ Q (.ref x) H2) E) : tMake C sp dvs E t σ H Q := q
theorem x_fldaug {rd : V → V → Hp → VK → Prop} {f : Str} (q : te σ H fun x H1 => ∃ a C dx fs v, x = .ref a ∧ H1 a = some (.ins C dx fs) ∧ Cls K C ∧ NoAttr K C f ∧ fs.lookup f = some v ∧ tb σ H1 fun y H2 => rd v y H2 fun z H3 => ∃ dx' fs', H3 a = some (.ins C dx' fs') ∧ fs'.length < 1000 ∧ D.nx σ (L2.upd H3 a (.ins C dx' (putF f z fs')))) : sFldAug K te tb rd f D σ H := q
theorem x_rAdd {i j : Int} (q : Q (.int (i + j)) H) : rAdd (.int i) (.int j) H Q := ⟨i, j, rfl, rfl, q⟩
theorem x_ipI {f : Int → Int → Int} {i j : Int} (q : Q (.int (f i j)) H) : ipI f (.int i) (.int j) H Q := ⟨i, j, rfl, rfl, q⟩
theorem x_rSub {i j : Int} (q : Q (.int (i - j)) H) : rSub (.int i) (.int j) H Q := ⟨i, j, rfl, rfl, q⟩
theorem rngF {n : Int} {g : TG} {ts : TS} (h0 : -100000 ≤ n) (h1 : n ≤ 100000) (q : forK (Itr 0 n.toNat) g ts D σ H) : -(2 ^ 62) ≤ n ∧ n < 2 ^ 62 ∧ forK (Itr 0 n.toNat) g ts D σ H := ⟨by omega, by omega, q⟩
/-- a field is raised -/
theorem fraise {f : Str} {p C dx : Addr} {fs : List (Str × V)} {P : Hp → Prop} {T : V → V → Hp → VK → Prop} {tv : TE} {σ : L2.St} (h : H p = some (.ins C dx fs)) (c : Cls K C) (n : NoAttr K C f) (l : fs.length < 1000) (e : fs.lookup f = some v)
    (q : tv σ H fun y H2 => T v y H2 fun z H3 => ∃ dx' fs', H3 p = some (.ins C dx' fs') ∧ fs'.length < 1000 ∧ P (L2.upd H3 p (.ins C dx' (putF f z fs')))) :
    ∃ a C dx fs v, V.ref p = .ref a ∧ H a = some (.ins C dx fs) ∧ Cls K C ∧ NoAttr K C f ∧ fs.lookup f = some v ∧ tv σ H fun y H2 => T v y H2 fun z H3 => ∃ dx' fs', H3 a = some (.ins C dx' fs') ∧ fs'.length < 1000 ∧ P (L2.upd H3 a (.ins C dx' (putF f z fs'))) := ⟨p, C, dx, fs, v, rfl, h, c, n, e, q⟩
theorem fput {f : Str} {z : V} {p C dx : Addr} {fs fs' : List (Str × V)} {P : Hp → Prop} (h : H p = some (.ins C dx fs)) (l : fs.length < 1000) (e : putF f z fs = fs') (q : ∀ H', SameX p H H' → H' p = some (.ins C dx fs') → P H') :
    ∃ dx' fs', H p = some (.ins C dx' fs') ∧ fs'.length < 1000 ∧ P (L2.upd H p (.ins C dx' (putF f z fs'))) := ⟨dx, fs, h, l, q _ SameX.upd (by rw [e]; exact upd_same)⟩
end
/-! ### o[i] op= e, o a list -/
theorem pget_list {X : Cx} : PGet X (rIxL X.K) := by
  intro pins s σ H o i ov iv Q I ro ri h
  obtain ⟨p, xs, k, z, rfl, rfl, hq, he, q⟩ := h
  cases ro
  obtain ⟨t, rfl⟩ := ri
  obtain ⟨its, r, pl, hz⟩ := I.list hq
  obtain ⟨j, h1, h2, h3, h4, h5⟩ := atI_get he
  obtain ⟨w, ew, rw'⟩ := r.get h2
  have hl := r.length
  have hn := line63
  have fin : EP X pins σ Q w s := ⟨z, H, I, rw', q⟩
  by_cases h0 : 0 ≤ k
  · have hj : k.toNat = j := by
      rw [seqIndex_of h0 h5] at h1
      exact Option.some.inj h1
    exact wpAny_getItem_list pl.isList h0 (by omega) (by rw [hj]; simpa using ew) fin
  · have hj : (k + (its.toArray.size : Int)).toNat = j := by
      rw [seqIndex_neg (by omega) h4] at h1
      rw [List.size_toArray, ← hl]
      exact Option.some.inj h1
    exact wpAny_getItem_list_neg pl.isList (by omega) (by rw [List.size_toArray] <;> omega) (by omega) (by rw [hj]; simpa using ew) fin
theorem x_augS {to ti te : TE} {tget : V → V → Hp → VK → Prop} {tip : TIp} {tset : TSet} {D : Ends} {σ : L2.St} {H : Hp} (q : to σ H fun o H1 => ti σ H1 fun i H2 => tget o i H2 fun x H3 => te σ H3 fun y H4 => tip x y H4 fun z H5 => tset o i z H5 fun H6 => D.nx σ H6) : tAugS to ti te tget tip tset D σ H := q
theorem x_negU {i : Int} {H : Hp} {Q : VK} (q : Q (.int (-i)) H) : rU (fun i => .int (-i)) (.int i) H Q := ⟨i, rfl, q⟩
/-- for_range, by its name -/
theorem for_rangeK {lo : Int} {n : Nat} {g : TG} {ts : TS} {D : Ends} {σ : L2.St} {H : Hp} (Pv : Nat → L2.St → Hp → Prop) (h0 : Pv 0 σ H)
    (hs : ∀ i σ H, i < n → Pv i σ H → g (.int (lo + i)) σ H fun σ2 H2 => ts { D with nx := Pv (i + 1), ct := Pv (i + 1), bk := D.nx } σ2 H2) (hd : ∀ σ H, Pv n σ H → D.nx σ H) : forK (Itr lo n) g ts D σ H := for_range Pv h0 hs hd
local macro_rules
  | `(tactic| w_up) => `(tactic| with_reducible first
    | refine x_seq ?_ | refine x_asg ?_ | refine x_op ?_ | refine x_c ?_
    | refine x_v0 ?_ | refine x_v1 ?_ | refine x_v2 ?_ | refine x_v3 ?_ | refine x_v4 ?_ | refine x_v5 ?_ | refine x_v6 ?_ | refine x_v7 ?_ | refine x_v8 ?_ | refine x_v9 ?_ | refine x_v10 ?_ | refine x_v11 ?_ | refine x_v12 ?_ | refine x_v13 ?_ | refine x_v14 ?_ | refine x_v15 ?_ | refine x_v16 ?_ | refine x_v17 ?_ | refine x_v18 ?_ | refine x_v19 ?_
    | refine x_g0 ?_ | refine x_g1 ?_ | refine x_g2 ?_ | refine x_g3 ?_ | refine x_g4 ?_ | refine x_g5 ?_ | refine x_g6 ?_ | refine x_g7 ?_ | refine x_g8 ?_ | refine x_g9 ?_ | refine x_g10 ?_ | refine x_g11 ?_ | refine x_g12 ?_ | refine x_g13 ?_ | refine x_g14 ?_ | refine x_g15 ?_ | refine x_g16 ?_ | refine x_g17 ?_ | refine x_g18 ?_ | refine x_g19 ?_
    | refine x_cons ?_ | refine x_nil ?_ | refine x_I0 ?_ | refine x_exI ?_ | refine x_exB ?_ | refine x_eqI ?_ | refine x_neI ?_ | refine x_eqS ?_ | refine x_neS ?_
    | refine x_test ?_ | refine x_tB ?_ | refine x_ifS ?_ | refine x_if ?_ | refine x_and ?_ | refine x_or ?_ | refine x_not ?_ | refine x_andV ?_ | refine x_orV ?_ | refine x_notV ?_
    | refine x_ite ?_ | refine x_brT ?_ | refine x_brF ?_ | refine x_brN ?_
    | refine x_call ?_ | refine x_for1 ?_ | refine x_forL ?_ | refine x_forT ?_ | refine x_sFld ?_ | refine x_fld ?_ | refine x_cb ?_ | refine x_bm ?_ | refine x_un ?_ | refine x_sl ?_ | refine x_np ?_ | refine x_pt ?_
    | refine x_next ?_ | refine x_ret ?_ | refine x_retN ?_ | refine x_drop ?_ | refine x_brk ?_ | refine x_cont ?_ | refine x_lst ?_ | refine x_tup ?_ | dsimp only | dsimp only [List.set_cons_succ, List.set_cons_zero])
local macro_rules
  | `(tactic| o_args) => `(tactic| repeat w_up)
local macro_rules
  | `(tactic| w_up) => `(tactic| first
    | with_reducible refine x_augS ?_ | with_reducible refine x_negU ?_ | with_reducible refine x_gsub ?_ | with_reducible refine x_int1 ?_ | with_reducible refine x_exL ?_ | with_reducible refine x_min2 ?_ | with_reducible refine x_max2 ?_ | with_reducible refine x_abs ?_ | with_reducible refine x_brTT ?_
    | with_reducible refine x_mod (by decide) ?_ | with_reducible refine x_mulR ⟨by decide, by decide⟩ ?_ | with_reducible refine x_mulL ⟨by decide, by decide⟩ ?_ | with_reducible refine x_div ⟨by decide, by decide⟩ ?_
    | with_reducible refine x_pow ⟨by decide, by decide, by decide⟩ ?_
    | with_reducible refine x_nN ?_ | with_reducible refine x_chain ?_ | with_reducible refine x_meth ?_ | with_reducible refine x_prop ?_ | with_reducible refine x_make ?_ | with_reducible refine x_fldaug ?_ | with_reducible refine x_ipI ?_ | with_reducible refine x_rAdd ?_ | with_reducible refine x_rSub ?_
    | with_reducible refine brDT (by decide) ?_ | with_reducible refine brDF (by decide) ?_
    | with_reducible refine x_ixT (by assumption) (by with_unfolding_all exact rfl) ?_
    | with_reducible refine x_ixL (by assumption) (by with_unfolding_all exact rfl) ?_)
/-! ### general words -/
theorem Same.ofX {D : Addr} {H H' : Hp} (hD : H D = none) (s : SameX D H H') : Same H H' := fun b o e => s b o (ne_of_none e hD) e
theorem getq_lt {α : Type} {xs : List α} {i : Nat} {x : α} (h : xs[i]? = some x) : i < xs.length := (List.getElem?_eq_some_iff.mp h).1
theorem getq_app {α : Type} {vs : List α} {v w : α} {k : Nat} (h : (vs ++ [v])[k]? = some w) : (k < vs.length ∧ vs[k]? = some w) ∨ (k = vs.length ∧ w = v) := by
  have hk := getq_lt h
  rw [List.length_append] at hk
  have hk : k < vs.length + 1 := hk
  by_cases q : k < vs.length
  · rw [List.getElem?_append_left q] at h
    exact .inl ⟨q, h⟩
  · have e : k = vs.length := by omega
    subst e
    rw [List.getElem?_append_right (Nat.le_refl _), Nat.sub_self] at h
    exact .inr ⟨rfl, (Option.some.inj h).symm⟩
theorem none_back {p l : Addr} {H H' : Hp} (s : SameX p H H') (n : l ≠ p) (h : H' l = none) : H l = none := by
  cases q : H l with
  | none => rfl
  | some o => rw [s _ _ n q] at h; cases h
theorem none_of {H H' : Hp} {l : Addr} (s : Same H H') (h : H' l = none) : H l = none := by
  cases q : H l with
  | none => rfl
  | some o => rw [s _ _ q] at h; cases h
/-- only lists change -/
def LS (H H' : Hp) : Prop := ∀ a o, (∀ xs, o ≠ .lst xs) → H a = some o → H' a = some o
theorem LS.refl (H : Hp) : LS H H := fun _ _ _ h => h
theorem LS.trans {H H1 H2 : Hp} (x : LS H H1) (y : LS H1 H2) : LS H H2 := fun a o n h => y a o n (x a o n h)
theorem LS.of {H H' : Hp} (s : Same H H') : LS H H' := fun a o _ h => s a o h
theorem LS.ofX {H H' : Hp} {p : Addr} {xs : List V} (hp : H p = some (.lst xs)) (s : SameX p H H') : LS H H' := fun a o n h => s a o (fun e => by subst e; rw [hp] at h; cases h; exact n _ rfl) h
theorem LS.sqT {K : PySem.W.Frag} {H H' : Hp} {a : Addr} {xs : List V} (s : LS H H') (h : SqT K H a xs) : SqT K H' a xs := by
  rcases h with (h | ⟨o, h⟩) | h
  · exact .inl (.inl (s _ _ (fun _ z => nomatch z) h))
  · exact .inl (.inr ⟨o, s _ _ (fun _ z => nomatch z) h⟩)
  · exact .inr h
theorem sliceL {K : PySem.W.Frag} {H : Hp} {Q : VK} {a : Addr} {xs : List V} {lo hi : Option Int} (h : SqL K H a xs) (q : ∀ l H', H l = none → Same H H' → H' l = some (.lst (cutV xs lo hi)) → Q (.ref l) H') : rSlL K (.ref a) lo hi H Q := ⟨a, xs, rfl, h, fun l hl => q l _ hl (Same.new hl) upd_same⟩
theorem cut_to (xs : List V) (i : Nat) : cutV xs none (some (i : Int)) = xs.take i := by
  have e1 : HT.sIx xs.length 0 none = 0 := rfl
  have e2 : HT.sIx xs.length xs.length (some (i : Int)) = min i xs.length := by
    unfold HT.sIx
    simp
    intro h
    omega
  unfold cutV
  rw [e1, e2, List.drop_zero, Nat.sub_zero, List.take_eq_take_iff]
  omega
theorem cut_from (xs : List V) (i : Nat) : cutV xs (some (i : Int)) none = xs.drop i := by
  have e1 : HT.sIx xs.length xs.length none = xs.length := rfl
  have e2 : HT.sIx xs.length 0 (some (i : Int)) = min i xs.length := HT.sIx_nat _ _ _
  unfold cutV
  rw [e1, e2]
  by_cases h : i ≤ xs.length
  · rw [Nat.min_eq_left h, List.take_of_length_le (by rw [List.length_drop]; exact Nat.le_refl _)]
  · rw [Nat.min_eq_right (by omega), Nat.sub_self, List.take_zero, List.drop_of_length_le (by omega)]
theorem dp_ints {K : PySem.W.Frag} {H : Hp} : ∀ ns : List Int, DpAll K H (ns.map V.int) (ns.map PyData.int)
  | [] => .nil
  | n :: r => .cons (.int n) (dp_ints r)
theorem lay_all : ∀ ns : List Int, PyData.canLayAll0 (ns.map PyData.int) = true ∧ PyData.depthAll (ns.map PyData.int) = 0
  | [] => ⟨by simp only [List.map_nil, PyData.canLayAll0], by simp only [List.map_nil, PyData.depthAll]⟩
  | n :: r => by
    obtain ⟨h1, h2⟩ := lay_all r
    exact ⟨by simp only [List.map_cons, PyData.canLayAll0, PyData.canLay0, h1, Bool.and_self], by simp only [List.map_cons, PyData.depthAll, PyData.depth, h2, Nat.max_self]⟩
theorem lay_ints (ns : List Int) : PySem.SeqAt.shaped (.list (ns.map PyData.int)) = true := by
  obtain ⟨h1, h2⟩ := lay_all ns
  unfold PySem.SeqAt.shaped
  simp only [PyData.canLay0, PyData.depth, h1, h2]
  decide
theorem eqv_all : ∀ xs ys : List Int, PyData.eqvAll (xs.map PyData.int) (ys.map PyData.int) = decide (xs = ys)
  | [], [] => by simp [PyData.eqvAll]
  | [], y :: ys => by simp [PyData.eqvAll]
  | x :: xs, [] => by simp [PyData.eqvAll]
  | x :: xs, y :: ys => by
    have e := eqv_all xs ys
    simp only [List.map_cons, PyData.eqvAll, e, PyData.eqv]
    by_cases h : x = y <;> by_cases g : xs = ys <;> simp [h, g]
theorem eqv_ints (xs ys : List Int) : PyData.eqv (.list (xs.map PyData.int)) (.list (ys.map PyData.int)) = decide (xs = ys) := by
  simp only [PyData.eqv]
  exact eqv_all xs ys
/-- two lists of ints compared -/
theorem eqLL {K : PySem.W.Frag} {H : Hp} {Q : VK} {a b : Addr} {xs ys : List Int} (ha : SqL K H a (xs.map V.int)) (hb : SqL K H b (ys.map V.int)) (q : Q (.bl (decide (xs = ys))) H) : rEqD K (.ref a) (.ref b) H Q :=
  ⟨_, _, .lst ha (dp_ints xs), .lst hb (dp_ints ys), lay_ints xs, lay_ints ys, by rw [eqv_ints]; exact q⟩
theorem neLL {K : PySem.W.Frag} {H : Hp} {Q : VK} {a b : Addr} {xs ys : List Int} (ha : SqL K H a (xs.map V.int)) (hb : SqL K H b (ys.map V.int)) (q : Q (.bl (!decide (xs = ys))) H) : rNeD K (.ref a) (.ref b) H Q :=
  ⟨_, _, .lst ha (dp_ints xs), .lst hb (dp_ints ys), lay_ints xs, lay_ints ys, by rw [eqv_ints]; exact q⟩
/-- a comprehension over a list of ints, filtered, its items ints -/
theorem lc_ints {K : PySem.W.Frag} {a : Addr} {ns : List Int} {te tel : TE} {tt : TT} {σ : L2.St} {H : Hp} {Q : VK} {j : Nat} (p : Int → Bool) (f : Int → Int) (hte : ∀ R' : VK, R' (.ref a) H → te σ H R') (hS : SqL K H a (ns.map V.int)) (hz : ns.length < 100000)
    (ht : ∀ x ∈ ns, ∀ H', Same H H' → ∀ Qt : Bool → Hp → Prop, Qt (p x) H' → tt ((σ.set j none).set j (some (.int x))) H' Qt)
    (he : ∀ x ∈ ns, p x = true → ∀ H', Same H H' → ∀ Qe : VK, Qe (.int (f x)) H' → tel ((σ.set j none).set j (some (.int x))) H' Qe)
    (hd : ∀ D H', H D = none → Same H H' → H' D = some (.lst (((ns.filter p).map f).map V.int)) → Q (.ref D) H') : tLc (iList K te) (gName j) tt tel [j] σ H Q := by
  refine hte _ ⟨a, rfl, ⟨_, hS⟩, fun D hD => lc_list (K := K) (a := a) (xs := ns.map V.int) (fun i H' => H' D = some (.lst ((((ns.take i).filter p).map f).map V.int)) ∧ SameX D H H') ⟨upd_same, SameX.upd⟩ (fun i H' _ h => (Same.ofX hD h.2).seq hS) ?_ ?_⟩
  · rintro i x H' hi ⟨h1, h2⟩
    rw [List.getElem?_map] at hi
    cases e : ns[i]? with
    | none => rw [e] at hi; cases hi
    | some u =>
      rw [e] at hi
      cases hi
      have hil := getq_lt e
      have mem : u ∈ ns := List.mem_of_getElem? e
      refine ⟨?_, ?_⟩
      · show ((((σ.set j none).set j (some (.int u))).set j none) = σ.set j none)
        rw [List.set_set, List.set_set]
      have e2 : ns.take (i + 1) = ns.take i ++ [u] := by
        rw [List.take_succ, e]
        rfl
      refine ht u mem H' (Same.ofX hD h2) _ ?_
      cases hp : p u with
      | false =>
        rw [if_neg Bool.false_ne_true]
        refine ⟨?_, h2⟩
        rw [e2, List.filter_append]
        simp only [List.filter, hp, List.append_nil]
        exact h1
      | true =>
        rw [if_pos rfl]
        refine he u mem hp H' (Same.ofX hD h2) _ ⟨_, h1, ?_, ?_, h2.upd'⟩
        · rw [List.length_map, List.length_map]
          have := List.length_filter_le p (ns.take i)
          rw [List.length_take] at this
          exact Nat.lt_of_lt_of_le (show _ < 100000 by omega) (by decide)
        · rw [e2, List.filter_append]
          simp only [List.filter, hp, List.map_append, List.map_cons, List.map_nil]
          exact upd_same
  · rintro H' ⟨h1, h2⟩
    rw [List.length_map, List.take_length] at h1
    exact hd D H' hD (Same.ofX hD h2) h1
/-- a comprehension over a list, its items new -/
theorem lc_lstN {K : PySem.W.Frag} {a : Addr} {xs : List V} {te tel : TE} {σ : L2.St} {H : Hp} {Q : VK} {j : Nat} (P : Nat → List V → Hp → Prop) (hte : ∀ R' : VK, R' (.ref a) H → te σ H R') (hS : SqL K H a xs) (hz : xs.length < 100000) (h0 : ∀ H', Same H H' → P 0 [] H')
    (hm : ∀ i vs H1 H2, Same H1 H2 → P i vs H1 → P i vs H2) (hw : ∀ D H1 H2 i vs, H D = none → SameX D H1 H2 → Same H H1 → (∃ acc, H1 D = some (.lst acc)) → P i vs H1 → P i vs H2)
    (hs : ∀ D i x vs H', xs[i]? = some x → Same H H' → P i vs H' → vs.length = i → H D = none → (∃ o, H' D = some o) → ∀ Qe : VK, (∀ v H'', Same H' H'' → P (i + 1) (vs ++ [v]) H'' → Qe v H'') → tel ((σ.set j none).set j (some x)) H' Qe)
    (hd : ∀ D vs H', H D = none → vs.length = xs.length → P xs.length vs H' → H' D = some (.lst vs) → Same H H' → Q (.ref D) H') : tLc (iList K te) (gName j) tYes tel [j] σ H Q := by
  refine hte _ ⟨a, rfl, ⟨_, hS⟩, fun D hD => lc_list (K := K) (a := a) (xs := xs) (fun i H' => ∃ vs : List V, vs.length = i ∧ P i vs H' ∧ H' D = some (.lst vs) ∧ SameX D H H') ⟨[], rfl, h0 _ (Same.new hD), upd_same, SameX.upd⟩ (fun i H' _ ⟨_, _, _, _, h⟩ => (Same.ofX hD h).seq hS) ?_ ?_⟩
  · rintro i x H' hi ⟨vs, hl, hr, h1, h2⟩
    refine ⟨?_, ?_⟩
    · show ((((σ.set j none).set j (some x)).set j none) = σ.set j none)
      rw [List.set_set, List.set_set]
    dsimp only [tYes]
    rw [if_pos rfl]
    have S0 := Same.ofX hD h2
    refine hs D i x vs H' hi S0 hr hl hD ⟨_, h1⟩ _ fun v H'' s2 r => ⟨vs, s2 _ _ h1, ?_, vs ++ [v], ?_, hw D H'' _ _ _ hD SameX.upd (S0.trans s2) ⟨vs, s2 _ _ h1⟩ r, upd_same, (h2.trans (SameX.of s2)).upd'⟩
    · have := getq_lt hi
      exact Nat.lt_of_lt_of_le (show vs.length < 100000 by omega) (by decide)
    · rw [List.length_append, hl]; rfl
  · rintro H' ⟨vs, hl, hr, h1, h2⟩
    exact hd D vs H' hD hl hr h1 (Same.ofX hD h2)
theorem all_rep (n : Nat) : (List.replicate n true).all id = true := by simp
theorem Same.ofX2 {H H1 H2 : Hp} {l : Addr} (hl : H l = none) (s1 : Same H H1) (s2 : SameX l H1 H2) : Same H H2 := fun b o e => s2 b o (ne_of_none e hl) (s1 b o e)
/-! ### the bag -/
structure Bag (a : Addr) (F : List Addr) (H : Hp) : Prop where
  ex : ∃ (g c : Addr) (gs cs : List Int) (n z : Int), H a = some (.lst [.ref g, .ref c, .int n, .int z]) ∧ H g = some (.lst (gs.map V.int)) ∧ H c = some (.lst (cs.map V.int)) ∧ gs.length ≤ 63 ∧ cs.length ≤ 63 ∧ g ≠ a ∧ c ≠ a ∧ g ∉ F ∧ c ∉ F ∧ a ∉ F ∧ ∀ b ∈ F, ∃ o, H b = some o
theorem Bag.same {a : Addr} {F : List Addr} {H H' : Hp} (B : Bag a F H) (s : Same H H') : Bag a F H' := by
  obtain ⟨g, c, gs, cs, n, z, h1, h2, h3, l1, l2, n1, n2, n3, n4, n5, hF⟩ := B.ex
  exact ⟨g, c, gs, cs, n, z, s _ _ h1, s _ _ h2, s _ _ h3, l1, l2, n1, n2, n3, n4, n5, fun b hb => (hF b hb).elim fun o e => ⟨o, s _ _ e⟩⟩
/-- a new thing of one's own -/
theorem Bag.own {a b : Addr} {F : List Addr} {H H' : Hp} (B : Bag a F H) (hb : H b = none) (s : Same H H') (ho : ∃ o, H' b = some o) : Bag a (b :: F) H' := by
  obtain ⟨g, c, gs, cs, n, z, h1, h2, h3, l1, l2, n1, n2, n3, n4, n5, hF⟩ := B.ex
  refine ⟨g, c, gs, cs, n, z, s _ _ h1, s _ _ h2, s _ _ h3, l1, l2, n1, n2, fun h => ?_, fun h => ?_, fun h => ?_, fun x hx => ?_⟩
  · rcases List.mem_cons.mp h with e | e
    · exact ne_of_none h2 hb e
    · exact n3 e
  · rcases List.mem_cons.mp h with e | e
    · exact ne_of_none h3 hb e
    · exact n4 e
  · rcases List.mem_cons.mp h with e | e
    · exact ne_of_none h1 hb e
    · exact n5 e
  · rcases List.mem_cons.mp hx with e | e
    · rw [e]; exact ho
    · exact (hF x e).elim fun o e => ⟨o, s _ _ e⟩
/-- new things of one's own -/
theorem Bag.owns {a : Addr} {F G : List Addr} {H H' : Hp} (B : Bag a F H) (hG : ∀ b ∈ G, H b = none ∧ ∃ o, H' b = some o) (s : Same H H') : Bag a (G ++ F) H' := by
  obtain ⟨g, c, gs, cs, n, z, h1, h2, h3, l1, l2, n1, n2, n3, n4, n5, hF⟩ := B.ex
  refine ⟨g, c, gs, cs, n, z, s _ _ h1, s _ _ h2, s _ _ h3, l1, l2, n1, n2, fun h => ?_, fun h => ?_, fun h => ?_, fun x hx => ?_⟩
  · rcases List.mem_append.mp h with e | e
    · exact ne_of_none h2 (hG _ e).1 rfl
    · exact n3 e
  · rcases List.mem_append.mp h with e | e
    · exact ne_of_none h3 (hG _ e).1 rfl
    · exact n4 e
  · rcases List.mem_append.mp h with e | e
    · exact ne_of_none h1 (hG _ e).1 rfl
    · exact n5 e
  · rcases List.mem_append.mp hx with e | e
    · exact (hG _ e).2
    · exact (hF x e).elim fun o e => ⟨o, s _ _ e⟩
/-- a thing of one's own changes -/
theorem Bag.on {a b : Addr} {F : List Addr} {H H' : Hp} (B : Bag a F H) (hb : b ∈ F) (s : SameX b H H') (ho : ∃ o, H' b = some o) : Bag a F H' := by
  obtain ⟨g, c, gs, cs, n, z, h1, h2, h3, l1, l2, n1, n2, n3, n4, n5, hF⟩ := B.ex
  refine ⟨g, c, gs, cs, n, z, s _ _ (fun e => n5 (e ▸ hb)) h1, s _ _ (fun e => n3 (e ▸ hb)) h2, s _ _ (fun e => n4 (e ▸ hb)) h3, l1, l2, n1, n2, n3, n4, n5, fun x hx => ?_⟩
  by_cases e : x = b
  · rw [e]; exact ho
  · exact (hF x hx).elim fun o h => ⟨o, s _ _ e h⟩
theorem Bag.ne {a b : Addr} {F : List Addr} {H : Hp} (B : Bag a F H) (hb : b ∈ F) : b ≠ a := by
  obtain ⟨_, _, _, _, _, _, _, _, _, _, _, _, _, _, _, n5, _⟩ := B.ex
  exact fun e => n5 (e ▸ hb)
theorem Bag.new {a b : Addr} {F : List Addr} {H : Hp} (B : Bag a F H) (hb : H b = none) : b ≠ a := by
  obtain ⟨_, _, _, _, _, _, h1, _⟩ := B.ex
  exact fun e => by rw [e, h1] at hb; cases hb
theorem Bag.less {a : Addr} {F G : List Addr} {H : Hp} (B : Bag a F H) (h : ∀ b ∈ G, b ∈ F) : Bag a G H := by
  obtain ⟨g, c, gs, cs, n, z, h1, h2, h3, l1, l2, n1, n2, n3, n4, n5, hF⟩ := B.ex
  exact ⟨g, c, gs, cs, n, z, h1, h2, h3, l1, l2, n1, n2, fun e => n3 (h _ e), fun e => n4 (h _ e), fun e => n5 (h _ e), fun b hb => hF b (h _ hb)⟩
theorem Bag.drop {a l : Addr} {F : List Addr} {H : Hp} (B : Bag a (l :: F) H) : Bag a F H := B.less fun _ h => List.mem_cons_of_mem _ h
def sp__law_bag (K : PySem.W.Frag) : Sp := fun vs H Q _ => ∃ (a : Addr) (ns : List Int), vs = [.ref a] ∧ SqL K H a (ns.map V.int) ∧ ns.length ≤ 63 ∧ ∀ b H', H b = none → Same H H' → Bag b [] H' → Q (.ref b) H'
theorem ok__law_bag (T : Txt K mg) : FnOk P w K mg base CX0 1 T.a__law_bag T.fd__law_bag ["script"] (sp__law_bag K) := by
  have S := sc__law_bag
  refine T.F__law_bag.ok S (fun vs H Q E h => ?_) (fun cdv A outer s H vs Q E hr h => ?_)
  · obtain ⟨a, ns, rfl, _⟩ := h
    rfl
  · obtain ⟨a, ns, rfl, hS, hl, k⟩ := h
    refine ⟨_, (pss_cons (ps_setLc (i := 1) (own := [("cell", 3)]) (g := gName 3) rfl S.nd rfl rfl (sw_true rfl rfl rfl (by decide +kernel)) (pi_list (pv 0)) (blkOk_by (N := ["script", "great", "cells", "cell"]) (sc := defScope s__law_bag) (by decide +kernel)) (fun _ _ _ _ _ => pg_name (i := 3) S.nd rfl (Or.inl rfl)) (fun _ _ _ _ _ => pts_one (pt_cmpR op_ge (pe_callB (id := "abs") call_absK (by rfl) T.b_abs (by decide +kernel) (pa_cons (pv 3) pa_nil)) (pe_op op_pow pe_int pe_int) (nomark _))) (fun _ _ _ _ _ => (pe_callB (id := "abs") call_absK (by rfl) T.b_abs (by decide +kernel) (pa_cons (pv 3) pa_nil))))
      (pss_cons (ps_setLc (i := 2) (own := [("cell", 3)]) (g := gName 3) (tt := tYes) rfl S.nd rfl rfl (sw_true rfl rfl rfl (by decide +kernel)) (pi_list (pv 0)) (blkOk_by (N := ["script", "great", "cells", "cell"]) (sc := defScope s__law_bag) (by decide +kernel)) (fun _ _ _ _ _ => pg_name (i := 3) S.nd rfl (Or.inl rfl)) (fun _ _ _ _ _ => pts_nil) (fun _ _ _ _ _ => (pe_op op_mod (pe_callTy (T := "int") call_int1 (by rfl) T.b_int (by decide +kernel) (pa_cons (pv 3) pa_nil)) pe_int)))
      (pss_one (ps_ret (pe_lst (pa_cons (pv 1) (pa_cons (pv 2) (pa_cons pe_int (pa_cons (pe_op op_mod (pe_callTy (T := "int") call_int1 (by rfl) T.b_int (by decide +kernel) (pa_cons (pe_callB (id := "sum") (cr_sum rfl) (by rfl) T.b_sum (by decide +kernel) (pa_cons (pv 2) pa_nil)) pa_nil)) pe_int) pa_nil))))))))), ?_⟩
    refine st__law_bag ?_
    o_args
    refine lc_ints (K := K) (a := a) (ns := ns) (fun x => decide (1000000000000000000 ≤ (ab x))) (fun x => ab x) (fun R q => ⟨_, rfl, q⟩) hS (by omega) (fun x _ H' s Qt q => ?_) (fun x _ _ H' s Qe q => ?_) (fun g H1 hg s1 h1 => ?_)
    · o_args
      exact q
    · o_args
      exact q
    o_args
    refine lc_ints (K := K) (a := a) (ns := ns) (fun _ => true) (fun x => x % 2147483647) (fun R q => ⟨_, rfl, q⟩) (s1.seq hS) (by omega) (fun x _ H' s Qt q => q) (fun x _ _ H' s Qe q => ?_) (fun c H2 hc s2 h2 => ?_)
    · o_args
      exact q
    o_args
    refine ⟨_, _, rfl, SqL.of h2, ?_⟩
    o_args
    have h1' := s2 _ _ h1
    refine newList (by simp) fun b H3 hb s3 h3 => ?_
    o_args
    refine k b H3 (none_of (s1.trans s2) hb) ((s1.trans s2).trans s3) ⟨g, c, _, _, _, _, h3, s3 _ _ h1', s3 _ _ h2, ?_, ?_, ne_of_none h1' hb, ne_of_none h2 hb, List.not_mem_nil, List.not_mem_nil, List.not_mem_nil, fun x hx => absurd hx List.not_mem_nil⟩
    · rw [List.length_map]
      exact Nat.le_trans (List.length_filter_le _ _) hl
    · rw [List.length_map]
      exact Nat.le_trans (List.length_filter_le _ _) hl
/-- a draw below m -/
def sp__law_take : Sp := fun vs H Q _ => ∃ (a : Addr) (m : Int) (F : List Addr), vs = [.ref a, .int m] ∧ Bag a F H ∧ 0 < m ∧ m < 2 ^ 62 ∧ ∀ d H', 0 ≤ d → d < m → Bag a F H' → SameX a H H' → Q (.int d) H'
theorem ok__law_take (T : Txt K mg) : FnOk P w K mg base CX0 1 T.a__law_take T.fd__law_take ["bag", "many"] (sp__law_take) := by
  have S := sc__law_take
  refine T.F__law_take.ok S (fun vs H Q E h => ?_) (fun cdv A outer s H vs Q E hr h => ?_)
  · obtain ⟨a, m, F, rfl, _⟩ := h
    rfl
  · obtain ⟨a, m, F, rfl, ⟨g, c, gs, cs, n, z, hA, hG, hC, lg, lc, ga, ca, gF, cF, aF, hF⟩, m0, m1, k⟩ := h
    have m0' : m ≠ 0 := by omega
    refine ⟨_, (pss_cons (ps_asg (pe_op op_add (pe_ix ix_list (pv 0) pe_int (fun _ _ => rfl)) pe_int) (pg_sub (pv 0) pe_int set_list))
      (pss_cons (ps_if (pt_cmpR (op_neD hr.units) (pe_ix ix_list (pv 0) pe_int (fun _ _ => rfl)) (pe_lst pa_nil) (nomark _)) (pss_cons (ps_set (i := 2) S.nd rfl (Or.inl rfl) (pe_ix ix_list (pe_ix ix_list (pv 0) pe_int (fun _ _ => rfl)) pe_int (fun _ _ => rfl)))
      (pss_cons (ps_if (pt_cmpR op_ge (pv 2) (pv 1) (nomark _)) (pss_one (ps_asg (pe_op op_cat (pe_lst (pa_cons (pe_op op_fdivW (pv 2) (pv 1)) pa_nil)) (pe_slice sl_list (pe_ix ix_list (pv 0) pe_int (fun _ _ => rfl)) (po_some pe_int) po_none)) (pg_sub (pv 0) pe_int set_list))) (pss_one (ps_asg (pe_slice sl_list (pe_ix ix_list (pv 0) pe_int (fun _ _ => rfl)) (po_some pe_int) po_none) (pg_sub (pv 0) pe_int set_list))))
      (pss_one (ps_ret (pe_op op_mod (pe_callTy (T := "int") call_int1 (by rfl) T.b_int (by decide +kernel) (pa_cons (pv 2) pa_nil)) (pv 1)))))) pss_nil)
      (pss_cons (ps_if (pt_cmpR (op_eqD hr.units) (pe_ix ix_list (pv 0) pe_int (fun _ _ => rfl)) (pe_lst pa_nil) (nomark _)) (pss_one (ps_ret (pe_op op_mod (pe_callTy (T := "int") call_int1 (by rfl) T.b_int (by decide +kernel) (pa_cons (pe_ix ix_list (pv 0) pe_int (fun _ _ => rfl)) pa_nil)) (pv 1)))) pss_nil)
      (pss_cons (ps_set (i := 3) S.nd rfl (Or.inl rfl) (pe_ix ix_list (pe_ix ix_list (pv 0) pe_int (fun _ _ => rfl)) (pe_op op_mod (pe_callTy (T := "int") call_int1 (by rfl) T.b_int (by decide +kernel) (pa_cons (pe_ix ix_list (pv 0) pe_int (fun _ _ => rfl)) pa_nil)) (pe_callB (id := "len") (call_lenK (K := K) rfl) (by rfl) T.b_len (by decide +kernel) (pa_cons (pe_ix ix_list (pv 0) pe_int (fun _ _ => rfl)) pa_nil))) (fun _ _ => rfl)))
      (pss_cons (ps_set (i := 4) S.nd rfl (Or.inl rfl) (pe_op op_mod (pe_callTy (T := "int") call_int1 (by rfl) T.b_int (by decide +kernel) (pa_cons (pe_op op_add (pe_op op_add (pe_op op_add (pe_op op_mul (pv 3) pe_int) (pe_op op_mul (pe_ix ix_list (pv 0) pe_int (fun _ _ => rfl)) pe_int)) (pe_op op_mul (pe_ix ix_list (pv 0) pe_int (fun _ _ => rfl)) pe_int)) pe_int) pa_nil)) pe_int))
      (pss_cons (ps_set (i := 5) S.nd rfl (Or.inl rfl) (pe_op op_mod (pe_callTy (T := "int") call_int1 (by rfl) T.b_int (by decide +kernel) (pa_cons (pe_op op_add (pe_op op_add (pe_op op_fdiv (pe_op op_mul (pv 4) (pv 4)) pe_int) (pe_op op_mul (pv 4) pe_int)) (pe_op op_mul (pe_ix ix_list (pv 0) pe_int (fun _ _ => rfl)) pe_int)) pa_nil)) pe_int))
      (pss_one (ps_ret (pe_op op_mod (pe_callTy (T := "int") call_int1 (by rfl) T.b_int (by decide +kernel) (pa_cons (pe_op op_fdiv (pe_op op_add (pe_op op_mul (pv 4) pe_int) (pv 5)) pe_int) pa_nil)) (pv 1)))))))))), ?_⟩
    refine st__law_take ?_
    o_args
    refine setL (i := 2) hA (by simp) fun H1 s1 h1 => ?_
    have h1 : H1 a = some (.lst [.ref g, .ref c, .int (n + 1), .int z]) := h1
    have hG1 := s1 _ _ ga hG
    have hC1 := s1 _ _ ca hC
    have hF1 : ∀ b ∈ F, ∃ o, H1 b = some o := fun b hb => (hF b hb).elim fun o e => ⟨o, s1 _ _ (fun z => aF (z ▸ hb)) e⟩
    o_args
    refine newList (by simp) fun l H2 hl s2 hl2 => ?_
    have h2 := s2 _ _ h1
    have hG2 := s2 _ _ hG1
    have hC2 := s2 _ _ hC1
    have gh1 : SameX a H H2 := s1.trans (SameX.of s2)
    have hF2 : ∀ b ∈ F, ∃ o, H2 b = some o := fun b hb => (hF1 b hb).elim fun o e => ⟨o, s2 _ _ e⟩
    refine neLL (xs := gs) (ys := []) (SqL.of hG2) (SqL.of hl2) ?_
    o_args
    refine brD (fun q => ?_) (fun q => ?_)
    · subst q
      o_args
      refine newList (by simp) fun l' H3 hl' s3 hl3 => ?_
      have h3 := s3 _ _ h2
      have hC3 := s3 _ _ hC2
      refine eqLL (xs := cs) (ys := []) (SqL.of hC3) (SqL.of hl3) ?_
      o_args
      have gh3 : SameX a H H3 := gh1.trans (SameX.of s3)
      have B3 : Bag a F H3 := ⟨g, c, [], cs, _, _, h3, s3 _ _ hG2, hC3, lg, lc, ga, ca, gF, cF, aF, fun b hb => (hF2 b hb).elim fun o e => ⟨o, s3 _ _ e⟩⟩
      refine brD (fun q => ?_) (fun q => ?_)
      · o_args
        refine ⟨_, _, rfl, rfl, m0, ?_⟩
        o_args
        exact k _ _ (Int.emod_nonneg _ m0') (Int.emod_lt_of_pos _ m0) B3 gh3
      o_args
      refine lenA (SeqA.lst hC3) ?_
      rw [List.length_map]
      have cl : 0 < cs.length := List.length_pos_iff.mpr q
      refine ⟨_, _, rfl, rfl, by omega, ?_⟩
      dsimp only
      have i0 : 0 ≤ (n + 1) % (cs.length : Int) := Int.emod_nonneg _ (by omega)
      have i1 : (n + 1) % (cs.length : Int) < (cs.length : Int) := Int.emod_lt_of_pos _ (by omega)
      generalize (n + 1) % (cs.length : Int) = i at i0 i1
      obtain ⟨i, rfl⟩ : ∃ j : Nat, i = j := ⟨i.toNat, by omega⟩
      have hx : (cs.map V.int)[i]? = some (.int (cs[i]'(by omega))) := by rw [List.getElem?_map, List.getElem?_eq_getElem]; rfl
      refine ixL hC3 hx ?_
      o_args
      refine x_mulL ?_ ?_
      · have a0 := Int.emod_nonneg (cs[i] * 48271 + z * 16807 + (n + 1) * 69621 + 11) (show (2147483647 : Int) ≠ 0 by decide)
        have a1 := Int.emod_lt_of_pos (cs[i] * 48271 + z * 16807 + (n + 1) * 69621 + 11) (show (0 : Int) < 2147483647 by decide)
        constructor <;> omega
      o_args
      refine ⟨_, _, rfl, rfl, m0, ?_⟩
      o_args
      exact k _ _ (Int.emod_nonneg _ m0') (Int.emod_lt_of_pos _ m0) B3 gh3
    · o_args
      obtain ⟨x, gs, rfl⟩ : ∃ x r, gs = x :: r := by
        cases gs with
        | nil => exact absurd rfl q
        | cons x r => exact ⟨x, r, rfl⟩
      refine ixL (i := 0) hG2 rfl ?_
      o_args
      have fin : ∀ (g' : Addr) (gs' : List Int) (H' : Hp), SameX a H2 H' → H' a = some (.lst [.ref g', .ref c, .int (n + 1), .int z]) → H' g' = some (.lst (gs'.map V.int)) → gs'.length ≤ 63 → H2 g' = none → Q (.int (x % m)) H' := fun g' gs' H' s e1 e2 e3 e4 =>
        k _ _ (Int.emod_nonneg _ m0') (Int.emod_lt_of_pos _ m0) ⟨g', c, gs', cs, _, _, e1, e2, s _ _ ca hC2, e3, lc, (fun e => by rw [e, h2] at e4; cases e4), ca, (fun hm => by obtain ⟨o, eo⟩ := hF2 _ hm; rw [eo] at e4; cases e4), cF, aF, fun b hb => (hF2 b hb).elim fun o e => ⟨o, s _ _ (fun z => aF (z ▸ hb)) e⟩⟩ (gh1.trans s)
      have lg' : gs.length + 1 ≤ 63 := lg
      refine brD (fun q => ?_) (fun q => ?_)
      · o_args
        refine x_divW m0 m1 ?_
        o_args
        refine newList (by simp) fun l1 H3 hl1 s3 hl3 => ?_
        have h3 := s3 _ _ h2
        o_args
        refine sliceL (SqL.of (s3 _ _ hG2)) fun l2 H4 hl2 s4 hl4 => ?_
        have hl4 : H4 l2 = some (.lst (cutV ((x :: gs).map V.int) (some ((1 : Nat) : Int)) none)) := hl4
        rw [cut_from] at hl4
        o_args
        refine catList (s4 _ _ hl3) hl4 (by simp; omega) fun l3 H5 hl5 s5 h5 => ?_
        have h5a := s5 _ _ (s4 _ _ h3)
        o_args
        refine setL (i := 0) h5a (by simp) fun H6 s6 h6 => ?_
        o_args
        refine ⟨_, _, rfl, rfl, m0, ?_⟩
        have e3 : H2 l3 = none := none_of (s3.trans s4) hl5
        have n3 : l3 ≠ a := fun e => by rw [e, h2] at e3; cases e3
        exact fin l3 (x / m :: gs) H6 ((SameX.of ((s3.trans s4).trans s5)).trans s6) h6 (s6 _ _ n3 h5) (by simp; omega) e3
      · o_args
        refine sliceL (SqL.of hG2) fun l2 H4 hl2 s4 hl4 => ?_
        have hl4 : H4 l2 = some (.lst (cutV ((x :: gs).map V.int) (some ((1 : Nat) : Int)) none)) := hl4
        rw [cut_from] at hl4
        have h5a := s4 _ _ h2
        o_args
        refine setL (i := 0) h5a (by simp) fun H6 s6 h6 => ?_
        o_args
        refine ⟨_, _, rfl, rfl, m0, ?_⟩
        have n3 : l2 ≠ a := fun e => by rw [e, h2] at hl2; cases hl2
        exact fin l2 gs H6 ((SameX.of s4).trans s6) h6 (s6 _ _ n3 hl4) (by omega) hl2
/-! ### small defs over the bag -/
def sp__law_whole (K : PySem.W.Frag) : Sp := fun vs H Q _ => ∃ (x : V) (r : Bool), vs = [x] ∧ IntK K H x r ∧ Q (.bl r) H
theorem ok__law_whole (T : Txt K mg) : FnOk P w K mg base CX0 1 T.a__law_whole T.fd__law_whole ["value"] (sp__law_whole K) := by
  have S := sc__law_whole
  refine T.F__law_whole.ok S (fun vs H Q E h => ?_) (fun cdv A outer s H vs Q E hr h => ?_)
  · obtain ⟨x, r, rfl, _⟩ := h
    rfl
  · obtain ⟨x, r, rfl, ⟨t, i, b, ty, hi, hb, rfl⟩, k⟩ := h
    refine ⟨_, (pss_one (ps_ret (pe_and (pe_callB (id := "isinstance") call_isi (by rfl) T.b_isinstance (by decide +kernel) (pa_cons (pv 0) (pa_cons (pe_bltn (v := .ty "int") (u := .type "int") (by rfl) T.b_int (by decide +kernel) rfl) pa_nil))) (pe_one (pe_not (pe_callB (id := "isinstance") call_isi (by rfl) T.b_isinstance (by decide +kernel) (pa_cons (pv 0) (pa_cons (pe_bltn (v := .ty "bool") (u := .type "bool") (by rfl) T.b_bool (by decide +kernel) rfl) pa_nil)))))))), ?_⟩
    refine ⟨_, rfl, _, _, _, _, i, rfl, .ty _, ty, hi, i, rfl, ?_⟩
    cases i with
    | false => exact iteF k
    | true => exact iteT ⟨_, rfl, _, _, _, _, b, rfl, .ty _, ty, hb, b, rfl, k⟩
def sp__law_lesser : Sp := fun vs H Q _ => ∃ (a b : Int), vs = [.int a, .int b] ∧ Q (.int (min a b)) H
theorem ok__law_lesser (T : Txt K mg) : FnOk P w K mg base CX0 1 T.a__law_lesser T.fd__law_lesser ["one", "two"] (sp__law_lesser) := by
  have S := sc__law_lesser
  refine T.F__law_lesser.ok S (fun vs H Q E h => ?_) (fun cdv A outer s H vs Q E hr h => ?_)
  · obtain ⟨a, b, rfl, _⟩ := h
    rfl
  · obtain ⟨a, b, rfl, k⟩ := h
    refine ⟨_, (pss_cons (ps_if (pt_cmpR op_lt (pv 0) (pv 1) (nomark _)) (pss_one (ps_ret (pv 0))) pss_nil)
      (pss_one (ps_ret (pv 1)))), ?_⟩
    refine st__law_lesser ?_
    o_args
    refine brD (fun q => ?_) (fun q => ?_)
    · o_args
      rw [show min a b = a by omega] at k
      exact k
    · o_args
      rw [show min a b = b by omega] at k
      exact k
def sp__law_greater : Sp := fun vs H Q _ => ∃ (a b : Int), vs = [.int a, .int b] ∧ Q (.int (max a b)) H
theorem ok__law_greater (T : Txt K mg) : FnOk P w K mg base CX0 1 T.a__law_greater T.fd__law_greater ["one", "two"] (sp__law_greater) := by
  have S := sc__law_greater
  refine T.F__law_greater.ok S (fun vs H Q E h => ?_) (fun cdv A outer s H vs Q E hr h => ?_)
  · obtain ⟨a, b, rfl, _⟩ := h
    rfl
  · obtain ⟨a, b, rfl, k⟩ := h
    refine ⟨_, (pss_cons (ps_if (pt_cmpR op_gt (pv 0) (pv 1) (nomark _)) (pss_one (ps_ret (pv 0))) pss_nil)
      (pss_one (ps_ret (pv 1)))), ?_⟩
    refine st__law_greater ?_
    o_args
    refine brD (fun q => ?_) (fun q => ?_)
    · o_args
      rw [show max a b = a by omega] at k
      exact k
    · o_args
      rw [show max a b = b by omega] at k
      exact k
/-! ### the bounds -/
def sp__law_bounds : Sp := fun vs H Q _ => ∃ (a : Addr) (F : List Addr), vs = [.ref a] ∧ Bag a F H ∧ ∀ l H' lo hi, H l = none → l ≠ a → H' l = some (.lst [.int lo, .int hi]) → 1 ≤ lo → lo ≤ hi → hi ≤ 100000 → Bag a (l :: F) H' → SameX a H H' → Q (.ref l) H'
theorem ok__law_bounds (T : Txt K mg) : FnOk P w K mg base CX0 2 T.a__law_bounds T.fd__law_bounds ["bag"] (sp__law_bounds) := by
  have S := sc__law_bounds
  refine T.F__law_bounds.ok S (fun vs H Q E h => ?_) (fun cdv A outer s H vs Q E hr h => ?_)
  · obtain ⟨a, F, rfl, _⟩ := h
    rfl
  · obtain ⟨a, F, rfl, B0, k⟩ := h
    refine ⟨_, (pss_cons (ps_set (i := 1) S.nd rfl (Or.inl rfl) (pe_op op_add pe_int (pe_call (ok__law_take T) (hr.mono (by decide)) rfl T.g__law_take T.F__law_take.kp T.B__law_take .nil pass0 (pa_cons (pv 0) (pa_cons pe_int pa_nil)))))
      (C8.pss_cut (ps_if (pt_cmpR op_eq (pe_call (ok__law_take T) (hr.mono (by decide)) rfl T.g__law_take T.F__law_take.kp T.B__law_take .nil pass0 (pa_cons (pv 0) (pa_cons pe_int pa_nil))) pe_int (nomark _)) (pss_one (ps_set (i := 1) S.nd rfl (Or.inl rfl) (pe_op op_add pe_int (pe_call (ok__law_take T) (hr.mono (by decide)) rfl T.g__law_take T.F__law_take.kp T.B__law_take .nil pass0 (pa_cons (pv 0) (pa_cons pe_int pa_nil)))))) pss_nil)
      (pss_cons (ps_set (i := 2) S.nd rfl (Or.inl rfl) (pe_call (ok__law_take T) (hr.mono (by decide)) rfl T.g__law_take T.F__law_take.kp T.B__law_take .nil pass0 (pa_cons (pv 0) (pa_cons pe_int pa_nil))))
      (pss_cons (ps_set (i := 3) S.nd rfl (Or.inl rfl) (pv 1))
      (C8.pss_cut (ps_if (pt_cmpR op_eq (pv 2) pe_int (nomark _)) (pss_one (ps_set (i := 3) S.nd rfl (Or.inl rfl) (pe_call (ok__law_lesser T) (hr.mono (by decide)) rfl T.g__law_lesser T.F__law_lesser.kp T.B__law_lesser .nil pass0 (pa_cons pe_int (pa_cons (pe_op op_add (pe_op op_add (pv 1) pe_int) (pe_call (ok__law_take T) (hr.mono (by decide)) rfl T.g__law_take T.F__law_take.kp T.B__law_take .nil pass0 (pa_cons (pv 0) (pa_cons pe_int pa_nil)))) pa_nil))))) (pss_one (ps_if (pt_cmpR op_eq (pv 2) pe_int (nomark _)) (pss_one (ps_set (i := 3) S.nd rfl (Or.inl rfl) pe_int)) (pss_one (ps_if (pt_cmpR op_eq (pv 2) pe_int (nomark _)) (pss_one (ps_set (i := 3) S.nd rfl (Or.inl rfl) (pe_op op_add (pv 1) (pe_call (ok__law_take T) (hr.mono (by decide)) rfl T.g__law_take T.F__law_take.kp T.B__law_take .nil pass0 (pa_cons (pv 0) (pa_cons (pe_op op_sub pe_int (pv 1)) pa_nil)))))) pss_nil)))))
      (pss_one (ps_ret (pe_lst (pa_cons (pv 1) (pa_cons (pv 3) pa_nil)))))))))), ?_⟩
    refine st__law_bounds ?_
    o_args
    refine ⟨a, 20, F, rfl, B0, by decide, by decide, fun d H1 a1 b1 B1 s1 => ?_⟩
    o_args
    refine ⟨fun σ H' => ∃ f : Int, σ = [some (.ref a), some (.int f), none, none] ∧ 1 ≤ f ∧ f ≤ 100000 ∧ Bag a F H' ∧ SameX a H H', ?_, ?_⟩
    · o_args
      refine ⟨a, 2, F, rfl, B1, by decide, by decide, fun e H2 a2 b2 B2 s2 => ?_⟩
      o_args
      refine brD (fun q => ?_) (fun q => ?_)
      · o_args
        refine ⟨a, _, F, rfl, B2, by decide, by decide, fun f H3 a3 b3 B3 s3 => ?_⟩
        o_args
        exact ⟨_, rfl, by omega, by omega, B3, (s1.trans s2).trans s3⟩
      · o_args
        exact ⟨_, rfl, by omega, by omega, B2, s1.trans s2⟩
    rintro σ H3 ⟨f, rfl, f1, f2, B3, s3⟩
    o_args
    refine ⟨a, 4, F, rfl, B3, by decide, by decide, fun way H4 a4 b4 B4 s4 => ?_⟩
    o_args
    refine ⟨fun σ H' => ∃ r : Int, σ = [some (.ref a), some (.int f), some (.int way), some (.int r)] ∧ f ≤ r ∧ r ≤ 100000 ∧ Bag a F H' ∧ SameX a H H', ?_, ?_⟩
    · o_args
      refine brD (fun q => ?_) (fun q => ?_)
      · o_args
        refine ⟨a, _, F, rfl, B4, by decide, by decide, fun e H5 a5 b5 B5 s5 => ?_⟩
        o_args
        refine ⟨_, _, rfl, ?_⟩
        o_args
        exact ⟨_, rfl, by omega, by omega, B5, (s3.trans s4).trans s5⟩
      · o_args
        refine brD (fun q => ?_) (fun q => ?_)
        · o_args
          exact ⟨_, rfl, by omega, by omega, B4, s3.trans s4⟩
        · o_args
          refine brD (fun q => ?_) (fun q => ?_)
          · o_args
            refine ⟨a, _, F, rfl, B4, by omega, by omega, fun e H5 a5 b5 B5 s5 => ?_⟩
            o_args
            exact ⟨_, rfl, by omega, by omega, B5, (s3.trans s4).trans s5⟩
          · o_args
            exact ⟨_, rfl, by omega, by omega, B4, s3.trans s4⟩
    rintro σ H5 ⟨r, rfl, r1, r2, B5, s5⟩
    o_args
    refine newList (by simp) fun l H6 hl s6 h6 => ?_
    o_args
    have na := B5.new hl
    exact k l H6 f r (none_back s5 na hl) na h6 f1 r1 r2 (B5.own hl s6 ⟨_, h6⟩) (s5.trans (SameX.of s6))
/-! ### estimates -/
structure Es where
  lo : Int
  hi : Int
  sm : Int
  sp : Int
  n : Int
  le : Int
  gr : Int
  la : Int
def Es.row (x : Es) : List V := [.int x.lo, .int x.hi, .int x.sm, .int x.sp, .int x.n, .int x.le, .int x.gr, .int x.la]
def EstAt (C : Addr) (H : Hp) (e : Addr) (x : Es) : Prop := ∃ dx, H e = some (.ins C dx [("low", .int x.lo), ("high", .int x.hi), ("smooth", .int x.sm), ("spread", .int x.sp), ("samples", .int x.n)])
def Es.ok (x : Es) : Prop := 1 ≤ x.lo ∧ x.lo ≤ x.hi ∧ x.hi ≤ 100000 ∧ 0 ≤ x.n ∧ 0 ≤ x.la ∧ 0 ≤ x.sm ∧ (x.n ≠ 0 → 0 ≤ x.le ∧ 8 * x.le ≤ x.sm ∧ x.sm ≤ 8 * x.gr)
def Es.next (x : Es) (t : Int) : Es :=
  if x.n = 0 then { x with sm := 8 * t, sp := 2 * t, n := x.n + 1, le := t, gr := t, la := t }
  else { x with sm := x.sm + (t - x.sm / 8), sp := x.sp + (ab (t - x.sm / 8) - x.sp / 4), n := x.n + 1, le := min x.le t, gr := max x.gr t, la := t }
def Es.tmo (x : Es) : Int := if x.n = 0 then min x.hi (4 * x.lo) else min x.hi (max x.lo (x.sm / 8 + max 1 x.sp))
def Es.new (lo hi : Int) : Es := ⟨lo, hi, 0, 0, 0, 0, 0, 0⟩
theorem Es.next_ok {x : Es} {t : Int} (h : x.ok) (ht : 0 ≤ t) : (x.next t).ok := by
  obtain ⟨h1, h2, h3, h4, h5, h6, h7⟩ := h
  unfold Es.next
  split
  · exact ⟨h1, h2, h3, by show 0 ≤ x.n + 1; omega, ht, by show 0 ≤ 8 * t; omega, fun _ => ⟨ht, Int.le_refl _, Int.le_refl _⟩⟩
  · rename_i hn
    obtain ⟨a, b, c⟩ := h7 hn
    refine ⟨h1, h2, h3, by show 0 ≤ x.n + 1; omega, ht, ?_, fun _ => ⟨?_, ?_, ?_⟩⟩
    · show 0 ≤ x.sm + (t - x.sm / 8)
      omega
    · show 0 ≤ min x.le t
      omega
    · show 8 * min x.le t ≤ x.sm + (t - x.sm / 8)
      omega
    · show x.sm + (t - x.sm / 8) ≤ 8 * max x.gr t
      omega
theorem Es.tmo_in {x : Es} (h : x.ok) : x.lo ≤ x.tmo ∧ x.tmo ≤ x.hi := by
  obtain ⟨h1, h2, h3, h4, h5, h6, h7⟩ := h
  unfold Es.tmo
  split <;> omega
theorem Es.new_ok {lo hi : Int} (h1 : 1 ≤ lo) (h2 : lo ≤ hi) (h3 : hi ≤ 100000) : (Es.new lo hi).ok := ⟨h1, h2, h3, Int.le_refl _, Int.le_refl _, Int.le_refl _, fun h => absurd rfl h⟩
theorem EstAt.same {C : Addr} {H H' : Hp} {e : Addr} {x : Es} (h : EstAt C H e x) (s : Same H H') : EstAt C H' e x := h.elim fun dx h => ⟨dx, s _ _ h⟩
theorem EstAt.on {C : Addr} {H H' : Hp} {e b : Addr} {x : Es} (h : EstAt C H e x) (s : SameX b H H') (n : e ≠ b) : EstAt C H' e x := h.elim fun dx h => ⟨dx, s _ _ n h⟩
def sp_Estimate_timeout (C : Addr) : Sp := fun vs H Q _ => ∃ (e : Addr) (x : Es), vs = [.ref e] ∧ EstAt C H e x ∧ Q (.int x.tmo) H
theorem ok_Estimate_timeout (T : Txt K mg) : FnOk P w K mg base CX0 1 T.a_Estimate_timeout T.fd_Estimate_timeout ["self"] (sp_Estimate_timeout T.c_Estimate) := by
  have S := sc_Estimate_timeout
  refine T.F_Estimate_timeout.ok S (fun vs H Q E h => ?_) (fun cdv A outer s H vs Q E hr h => ?_)
  · obtain ⟨e, x, rfl, _⟩ := h
    rfl
  · obtain ⟨e, x, rfl, ⟨dx, he⟩, k⟩ := h
    refine ⟨_, (pss_cons (ps_if (pt_cmpR op_eq (pe_fld (pv 0) rfl) pe_int (nomark _)) (pss_one (ps_ret (pe_callB (id := "min") (call_min2K rfl) (by rfl) T.b_min (by decide +kernel) (pa_cons (pe_fld (pv 0) rfl) (pa_cons (pe_op op_mul pe_int (pe_fld (pv 0) rfl)) pa_nil))))) pss_nil)
      (pss_one (ps_ret (pe_callB (id := "min") (call_min2K rfl) (by rfl) T.b_min (by decide +kernel) (pa_cons (pe_fld (pv 0) rfl) (pa_cons (pe_callB (id := "max") (call_max2K rfl) (by rfl) T.b_max (by decide +kernel) (pa_cons (pe_fld (pv 0) rfl) (pa_cons (pe_op op_add (pe_op op_fdiv (pe_fld (pv 0) rfl) pe_int) (pe_callB (id := "max") (call_max2K rfl) (by rfl) T.b_max (by decide +kernel) (pa_cons pe_int (pa_cons (pe_fld (pv 0) rfl) pa_nil)))) pa_nil))) pa_nil)))))), ?_⟩
    refine st_Estimate_timeout ?_
    o_args
    refine fget he T.cl_Estimate T.n_Estimate_samples rfl ?_
    o_args
    refine brD (fun q => ?_) (fun q => ?_)
    · o_args
      refine fget he T.cl_Estimate T.n_Estimate_high rfl ?_
      o_args
      refine fget he T.cl_Estimate T.n_Estimate_low rfl ?_
      o_args
      unfold Es.tmo at k
      rw [if_pos q] at k
      exact k
    · o_args
      refine fget he T.cl_Estimate T.n_Estimate_high rfl ?_
      o_args
      refine fget he T.cl_Estimate T.n_Estimate_low rfl ?_
      o_args
      refine fget he T.cl_Estimate T.n_Estimate_smooth rfl ?_
      o_args
      refine fget he T.cl_Estimate T.n_Estimate_spread rfl ?_
      o_args
      unfold Es.tmo at k
      rw [if_neg q] at k
      exact k
/-! ### estimates made -/
def sp_is_at_least (K : PySem.W.Frag) : Sp := fun vs H Q _ => ∃ (x : V) (lo : Int), vs = [x, .int lo] ∧ ((∃ n, x = .int n ∧ Q (.bl (decide (lo ≤ n))) H) ∨ (IntK K H x false ∧ Q (.bl false) H))
theorem ok_is_at_least (T : Txt K mg) : FnOk P w K mg base CX0 2 T.a_is_at_least T.fd_is_at_least ["value", "low"] (sp_is_at_least K) := by
  have S := sc_is_at_least
  refine T.F_is_at_least.ok S (fun vs H Q E h => ?_) (fun cdv A outer s H vs Q E hr h => ?_)
  · obtain ⟨x, lo, rfl, _⟩ := h
    rfl
  · obtain ⟨x, lo, rfl, h⟩ := h
    refine ⟨_, (pss_one (ps_ret (pe_and (pe_call (ok_is_integer T) (hr.mono (by decide)) rfl T.g_is_integer T.F_is_integer.kp T.B_is_integer .nil pass0 (pa_cons (pv 0) pa_nil)) (pe_one (pe_cmpR op_le (pv 1) (pv 0) (nomark _)))))), ?_⟩
    refine st_is_at_least ?_
    o_args
    rcases h with ⟨n, rfl, k⟩ | ⟨hk, k⟩
    · refine ⟨_, true, rfl, intK_int n, ?_⟩
      o_args
      exact k
    · refine ⟨_, false, rfl, hk, ?_⟩
      o_args
      exact k
def sp_Estimate_init_ (C : Addr) : Sp := fun vs H Q _ => ∃ (p dx : Addr) (lo hi : Int), vs = [.ref p, .int lo, .int hi] ∧ H p = some (.ins C dx []) ∧ 1 ≤ lo ∧ lo ≤ hi ∧ hi ≤ 100000 ∧ ∀ H', SameX p H H' → EstAt C H' p (Es.new lo hi) → Q .non H'
theorem ok_Estimate_init_ (T : Txt K mg) : FnOk P w K mg base CX0 3 T.a_Estimate_init_ T.fd_Estimate_init_ ["self", "low", "high"] (sp_Estimate_init_ T.c_Estimate) := by
  have S := sc_Estimate_init_
  refine T.F_Estimate_init_.ok S (fun vs H Q E h => ?_) (fun cdv A outer s H vs Q E hr h => ?_)
  · obtain ⟨p, dx, lo, hi, rfl, _⟩ := h
    rfl
  · obtain ⟨p, dx, lo, hi, rfl, hp, h1, h2, h3, k⟩ := h
    refine ⟨_, (pss_cons (ps_if (pt_not (pt_val (pe_call (ok_is_between T) (hr.mono (by decide)) rfl T.g_is_between T.F_is_between.kp T.B_is_between .nil pass0 (pa_cons (pv 1) (pa_cons pe_int (pa_cons (pe_glob rfl T.g_GREATEST_TIME T.r_GREATEST_TIME) pa_nil)))))) (pss_one ps_never) pss_nil)
      (pss_cons (ps_if (pt_not (pt_val (pe_call (ok_is_between T) (hr.mono (by decide)) rfl T.g_is_between T.F_is_between.kp T.B_is_between .nil pass0 (pa_cons (pv 2) (pa_cons (pv 1) (pa_cons (pe_glob rfl T.g_GREATEST_TIME T.r_GREATEST_TIME) pa_nil)))))) (pss_one ps_never) pss_nil)
      (pss_cons (ps_fld (pv 0) (pv 1) rfl)
      (pss_cons (ps_fld (pv 0) (pv 2) rfl)
      (pss_cons (ps_fld (pv 0) pe_int rfl)
      (pss_cons (ps_fld (pv 0) pe_int rfl)
      (pss_one (ps_fld (pv 0) pe_int rfl)))))))), ?_⟩
    refine st_Estimate_init_ ?_
    o_args
    refine ⟨_, 1, 100000, rfl, .inl ⟨lo, rfl, ?_⟩⟩
    rw [decide_eq_true h1, decide_eq_true (Int.le_trans h2 h3)]
    o_args
    refine ⟨_, lo, 100000, rfl, .inl ⟨hi, rfl, ?_⟩⟩
    rw [decide_eq_true h2, decide_eq_true h3]
    o_args
    refine fstore hp T.cl_Estimate T.n_Estimate_low (Nat.le_of_ble_eq_true rfl) rfl fun H1 s1 h1 => ?_
    o_args
    refine fstore h1 T.cl_Estimate T.n_Estimate_high (Nat.le_of_ble_eq_true rfl) rfl fun H2 s2 h2 => ?_
    o_args
    refine fstore h2 T.cl_Estimate T.n_Estimate_smooth (Nat.le_of_ble_eq_true rfl) rfl fun H3 s3 h3 => ?_
    o_args
    refine fstore h3 T.cl_Estimate T.n_Estimate_spread (Nat.le_of_ble_eq_true rfl) rfl fun H4 s4 h4 => ?_
    o_args
    refine fstore h4 T.cl_Estimate T.n_Estimate_samples (Nat.le_of_ble_eq_true rfl) rfl fun H5 s5 h5 => ?_
    o_args
    exact k H5 ((((s1.trans s2).trans s3).trans s4).trans s5) ⟨dx, h5⟩
def sp_Estimate_sample (C : Addr) : Sp := fun vs H Q _ => ∃ (e : Addr) (t : Int) (x : Es), vs = [.ref e, .int t] ∧ EstAt C H e x ∧ 0 ≤ t ∧ ∀ H', SameX e H H' → EstAt C H' e (x.next t) → Q .non H'
theorem ok_Estimate_sample (T : Txt K mg) : FnOk P w K mg base CX0 3 T.a_Estimate_sample T.fd_Estimate_sample ["self", "ticks"] (sp_Estimate_sample T.c_Estimate) := by
  have S := sc_Estimate_sample
  refine T.F_Estimate_sample.ok S (fun vs H Q E h => ?_) (fun cdv A outer s H vs Q E hr h => ?_)
  · obtain ⟨e, t, x, rfl, _⟩ := h
    rfl
  · obtain ⟨e, t, x, rfl, ⟨dx, he⟩, t0, k⟩ := h
    refine ⟨_, (pss_cons (ps_if (pt_not (pt_val (pe_call (ok_is_at_least T) (hr.mono (by decide)) rfl T.g_is_at_least T.F_is_at_least.kp T.B_is_at_least .nil pass0 (pa_cons (pv 1) (pa_cons pe_int pa_nil))))) (pss_one ps_never) pss_nil)
      (pss_cons (ps_if (pt_cmpR op_eq (pe_fld (pv 0) rfl) pe_int (nomark _)) (pss_cons (ps_fld (pv 0) (pe_op op_mul pe_int (pv 1)) rfl)
      (pss_one (ps_fld (pv 0) (pe_op op_mul pe_int (pv 1)) rfl))) (pss_cons (ps_set (i := 2) S.nd rfl (Or.inl rfl) (pe_op op_sub (pv 1) (pe_op op_fdiv (pe_fld (pv 0) rfl) pe_int)))
      (pss_cons (ps_fldaug (pv 0) (pv 2) ip_add)
      (pss_one (ps_fldaug (pv 0) (pe_op op_sub (pe_callB (id := "abs") call_absK (by rfl) T.b_abs (by decide +kernel) (pa_cons (pv 2) pa_nil)) (pe_op op_fdiv (pe_fld (pv 0) rfl) pe_int)) ip_add)))))
      (pss_one (ps_fldaug (pv 0) pe_int ip_add)))), ?_⟩
    refine st_Estimate_sample ?_
    o_args
    refine ⟨_, 0, rfl, .inl ⟨t, rfl, ?_⟩⟩
    rw [decide_eq_true t0]
    o_args
    refine fget he T.cl_Estimate T.n_Estimate_samples rfl ?_
    o_args
    refine brD (fun q => ?_) (fun q => ?_)
    · o_args
      refine fstore he T.cl_Estimate T.n_Estimate_smooth (Nat.le_of_ble_eq_true rfl) rfl fun H1 s1 h1 => ?_
      o_args
      refine fstore h1 T.cl_Estimate T.n_Estimate_spread (Nat.le_of_ble_eq_true rfl) rfl fun H2 s2 h2 => ?_
      o_args
      refine fraise h2 T.cl_Estimate T.n_Estimate_samples (Nat.le_of_ble_eq_true rfl) rfl ?_
      o_args
      refine fput h2 (Nat.le_of_ble_eq_true rfl) rfl fun H3 s3 h3 => ?_
      o_args
      refine k H3 ((s1.trans s2).trans s3) ⟨dx, ?_⟩
      unfold Es.next
      rw [if_pos q]
      exact h3
    · o_args
      refine fget he T.cl_Estimate T.n_Estimate_smooth rfl ?_
      o_args
      refine fraise he T.cl_Estimate T.n_Estimate_smooth (Nat.le_of_ble_eq_true rfl) rfl ?_
      o_args
      refine fput he (Nat.le_of_ble_eq_true rfl) rfl fun H1 s1 h1 => ?_
      o_args
      refine fraise h1 T.cl_Estimate T.n_Estimate_spread (Nat.le_of_ble_eq_true rfl) rfl ?_
      o_args
      refine fget h1 T.cl_Estimate T.n_Estimate_spread rfl ?_
      o_args
      refine fput h1 (Nat.le_of_ble_eq_true rfl) rfl fun H2 s2 h2 => ?_
      o_args
      refine fraise h2 T.cl_Estimate T.n_Estimate_samples (Nat.le_of_ble_eq_true rfl) rfl ?_
      o_args
      refine fput h2 (Nat.le_of_ble_eq_true rfl) rfl fun H3 s3 h3 => ?_
      o_args
      refine k H3 ((s1.trans s2).trans s3) ⟨dx, ?_⟩
      unfold Es.next
      rw [if_neg q]
      exact h3
/-! ### the law's rows -/
def sp__law_row : Sp := fun vs H Q _ => ∃ (p : Addr) (lo hi : Int), vs = [.ref p] ∧ H p = some (.lst [.int lo, .int hi]) ∧ ∀ l H', H l = none → H' l = some (.lst (Es.new lo hi).row) → Same H H' → Q (.ref l) H'
theorem ok__law_row (T : Txt K mg) : FnOk P w K mg base CX0 1 T.a__law_row T.fd__law_row ["pair"] (sp__law_row) := by
  have S := sc__law_row
  refine T.F__law_row.ok S (fun vs H Q E h => ?_) (fun cdv A outer s H vs Q E hr h => ?_)
  · obtain ⟨p, lo, hi, rfl, _⟩ := h
    rfl
  · obtain ⟨p, lo, hi, rfl, hp, k⟩ := h
    refine ⟨_, (pss_one (ps_ret (pe_lst (pa_cons (pe_ix ix_list (pv 0) pe_int (fun _ _ => rfl)) (pa_cons (pe_ix ix_list (pv 0) pe_int (fun _ _ => rfl)) (pa_cons pe_int (pa_cons pe_int (pa_cons pe_int (pa_cons pe_int (pa_cons pe_int (pa_cons pe_int pa_nil))))))))))), ?_⟩
    refine st__law_row ?_
    o_args
    refine newList (by simp) fun l H6 hl s6 h6 => ?_
    o_args
    exact k l H6 hl h6 s6
def sp__law_enter : Sp := fun vs H Q _ => ∃ (r : Addr) (t : Int) (x : Es), vs = [.ref r, .int t] ∧ H r = some (.lst x.row) ∧ ∀ H', SameX r H H' → H' r = some (.lst (x.next t).row) → Q .non H'
theorem ok__law_enter (T : Txt K mg) : FnOk P w K mg base CX0 2 T.a__law_enter T.fd__law_enter ["row", "ticks"] (sp__law_enter) := by
  have S := sc__law_enter
  refine T.F__law_enter.ok S (fun vs H Q E h => ?_) (fun cdv A outer s H vs Q E hr h => ?_)
  · obtain ⟨r, t, x, rfl, _⟩ := h
    rfl
  · obtain ⟨r, t, x, rfl, hw, k⟩ := h
    refine ⟨_, (pss_cons (ps_if (pt_cmpR op_eq (pe_ix ix_list (pv 0) pe_int (fun _ _ => rfl)) pe_int (nomark _)) (pss_cons (ps_asg (pe_op op_mul pe_int (pv 1)) (pg_sub (pv 0) pe_int set_list))
      (pss_cons (ps_asg (pe_op op_mul pe_int (pv 1)) (pg_sub (pv 0) pe_int set_list))
      (pss_cons (ps_asg (pv 1) (pg_sub (pv 0) pe_int set_list))
      (pss_one (ps_asg (pv 1) (pg_sub (pv 0) pe_int set_list)))))) (pss_cons (ps_set (i := 2) S.nd rfl (Or.inl rfl) (pe_op op_sub (pv 1) (pe_op op_fdiv (pe_ix ix_list (pv 0) pe_int (fun _ _ => rfl)) pe_int)))
      (pss_cons (ps_asg (pe_op op_add (pe_ix ix_list (pv 0) pe_int (fun _ _ => rfl)) (pv 2)) (pg_sub (pv 0) pe_int set_list))
      (pss_cons (ps_asg (pe_op op_sub (pe_op op_add (pe_ix ix_list (pv 0) pe_int (fun _ _ => rfl)) (pe_callB (id := "abs") call_absK (by rfl) T.b_abs (by decide +kernel) (pa_cons (pv 2) pa_nil))) (pe_op op_fdiv (pe_ix ix_list (pv 0) pe_int (fun _ _ => rfl)) pe_int)) (pg_sub (pv 0) pe_int set_list))
      (pss_cons (ps_asg (pe_call (ok__law_lesser T) (hr.mono (by decide)) rfl T.g__law_lesser T.F__law_lesser.kp T.B__law_lesser .nil pass0 (pa_cons (pe_ix ix_list (pv 0) pe_int (fun _ _ => rfl)) (pa_cons (pv 1) pa_nil))) (pg_sub (pv 0) pe_int set_list))
      (pss_one (ps_asg (pe_call (ok__law_greater T) (hr.mono (by decide)) rfl T.g__law_greater T.F__law_greater.kp T.B__law_greater .nil pass0 (pa_cons (pe_ix ix_list (pv 0) pe_int (fun _ _ => rfl)) (pa_cons (pv 1) pa_nil))) (pg_sub (pv 0) pe_int set_list))))))))
      (pss_cons (ps_asg (pe_op op_add (pe_ix ix_list (pv 0) pe_int (fun _ _ => rfl)) pe_int) (pg_sub (pv 0) pe_int set_list))
      (pss_one (ps_asg (pv 1) (pg_sub (pv 0) pe_int set_list))))), ?_⟩
    refine st__law_enter ?_
    o_args
    refine brD (fun q => ?_) (fun q => ?_)
    · o_args
      refine setL (i := 2) hw (by show 2 < 8; decide) fun H1 s1 h1 => ?_
      o_args
      refine setL (i := 3) h1 (by show 3 < 8; decide) fun H2 s2 h2 => ?_
      o_args
      refine setL (i := 5) h2 (by show 5 < 8; decide) fun H3 s3 h3 => ?_
      o_args
      refine setL (i := 6) h3 (by show 6 < 8; decide) fun H4 s4 h4 => ?_
      o_args
      refine setL (i := 4) h4 (by show 4 < 8; decide) fun H5 s5 h5 => ?_
      o_args
      refine setL (i := 7) h5 (by show 7 < 8; decide) fun H6 s6 h6 => ?_
      o_args
      refine k H6 (((((s1.trans s2).trans s3).trans s4).trans s5).trans s6) ?_
      rw [h6]
      unfold Es.next
      rw [if_pos q]
      rfl
    · o_args
      refine setL (i := 2) hw (by show 2 < 8; decide) fun H1 s1 h1 => ?_
      o_args
      refine setL (i := 3) h1 (by show 3 < 8; decide) fun H2 s2 h2 => ?_
      o_args
      refine ⟨_, _, rfl, ?_⟩
      o_args
      refine setL (i := 5) h2 (by show 5 < 8; decide) fun H3 s3 h3 => ?_
      o_args
      refine ⟨_, _, rfl, ?_⟩
      o_args
      refine setL (i := 6) h3 (by show 6 < 8; decide) fun H4 s4 h4 => ?_
      o_args
      refine setL (i := 4) h4 (by show 4 < 8; decide) fun H5 s5 h5 => ?_
      o_args
      refine setL (i := 7) h5 (by show 7 < 8; decide) fun H6 s6 h6 => ?_
      o_args
      refine k H6 (((((s1.trans s2).trans s3).trans s4).trans s5).trans s6) ?_
      rw [h6]
      unfold Es.next
      rw [if_neg q, show x.sp + (ab (t - x.sm / 8) - x.sp / 4) = x.sp + ab (t - x.sm / 8) - x.sp / 4 by omega]
      rfl
def sp__law_wait : Sp := fun vs H Q _ => ∃ (r : Addr) (x : Es), vs = [.ref r] ∧ H r = some (.lst x.row) ∧ Q (.int x.tmo) H
theorem ok__law_wait (T : Txt K mg) : FnOk P w K mg base CX0 2 T.a__law_wait T.fd__law_wait ["row"] (sp__law_wait) := by
  have S := sc__law_wait
  refine T.F__law_wait.ok S (fun vs H Q E h => ?_) (fun cdv A outer s H vs Q E hr h => ?_)
  · obtain ⟨r, x, rfl, _⟩ := h
    rfl
  · obtain ⟨r, x, rfl, hw, k⟩ := h
    refine ⟨_, (pss_cons (ps_if (pt_cmpR op_eq (pe_ix ix_list (pv 0) pe_int (fun _ _ => rfl)) pe_int (nomark _)) (pss_one (ps_ret (pe_call (ok__law_lesser T) (hr.mono (by decide)) rfl T.g__law_lesser T.F__law_lesser.kp T.B__law_lesser .nil pass0 (pa_cons (pe_ix ix_list (pv 0) pe_int (fun _ _ => rfl)) (pa_cons (pe_op op_mul pe_int (pe_ix ix_list (pv 0) pe_int (fun _ _ => rfl))) pa_nil))))) pss_nil)
      (pss_one (ps_ret (pe_call (ok__law_lesser T) (hr.mono (by decide)) rfl T.g__law_lesser T.F__law_lesser.kp T.B__law_lesser .nil pass0 (pa_cons (pe_ix ix_list (pv 0) pe_int (fun _ _ => rfl)) (pa_cons (pe_call (ok__law_greater T) (hr.mono (by decide)) rfl T.g__law_greater T.F__law_greater.kp T.B__law_greater .nil pass0 (pa_cons (pe_ix ix_list (pv 0) pe_int (fun _ _ => rfl)) (pa_cons (pe_op op_add (pe_op op_fdiv (pe_ix ix_list (pv 0) pe_int (fun _ _ => rfl)) pe_int) (pe_call (ok__law_greater T) (hr.mono (by decide)) rfl T.g__law_greater T.F__law_greater.kp T.B__law_greater .nil pass0 (pa_cons pe_int (pa_cons (pe_ix ix_list (pv 0) pe_int (fun _ _ => rfl)) pa_nil)))) pa_nil))) pa_nil)))))), ?_⟩
    refine st__law_wait ?_
    o_args
    unfold Es.tmo at k
    refine brD (fun q => ?_) (fun q => ?_)
    · rw [if_pos q] at k
      o_args
      refine ⟨_, _, rfl, ?_⟩
      o_args
      exact k
    · rw [if_neg q] at k
      o_args
      refine ⟨_, _, rfl, ?_⟩
      o_args
      refine ⟨_, _, rfl, ?_⟩
      o_args
      refine ⟨_, _, rfl, ?_⟩
      o_args
      exact k
def sp__law_ticks : Sp := fun vs H Q _ => ∃ (a r : Addr) (F : List Addr) (x : Es), vs = [.ref a, .ref r] ∧ Bag a F H ∧ r ≠ a ∧ H r = some (.lst x.row) ∧ x.ok ∧ ∀ t H', 0 ≤ t → Bag a F H' → SameX a H H' → Q (.int t) H'
theorem ok__law_ticks (T : Txt K mg) : FnOk P w K mg base CX0 2 T.a__law_ticks T.fd__law_ticks ["bag", "row"] (sp__law_ticks) := by
  have S := sc__law_ticks
  refine T.F__law_ticks.ok S (fun vs H Q E h => ?_) (fun cdv A outer s H vs Q E hr h => ?_)
  · obtain ⟨a, r, F, x, rfl, _⟩ := h
    rfl
  · obtain ⟨a, r, F, x, rfl, B0, nra, hw, ⟨_, _, _, _, la0, sm0, _⟩, k⟩ := h
    refine ⟨_, (pss_cons (ps_set (i := 2) S.nd rfl (Or.inl rfl) (pe_call (ok__law_take T) (hr.mono (by decide)) rfl T.g__law_take T.F__law_take.kp T.B__law_take .nil pass0 (pa_cons (pv 0) (pa_cons pe_int pa_nil))))
      (pss_cons (ps_if (pt_cmpR op_eq (pv 2) pe_int (nomark _)) (pss_one (ps_ret (pe_call (ok__law_take T) (hr.mono (by decide)) rfl T.g__law_take T.F__law_take.kp T.B__law_take .nil pass0 (pa_cons (pv 0) (pa_cons pe_int pa_nil))))) pss_nil)
      (pss_cons (ps_if (pt_cmpR op_eq (pv 2) pe_int (nomark _)) (pss_one (ps_ret (pe_ix ix_list (pv 1) pe_int (fun _ _ => rfl)))) pss_nil)
      (pss_cons (ps_if (pt_cmpR op_eq (pv 2) pe_int (nomark _)) (pss_one (ps_ret (pe_call (ok__law_greater T) (hr.mono (by decide)) rfl T.g__law_greater T.F__law_greater.kp T.B__law_greater .nil pass0 (pa_cons pe_int (pa_cons (pe_op op_sub (pe_op op_add (pe_op op_fdiv (pe_ix ix_list (pv 1) pe_int (fun _ _ => rfl)) pe_int) (pe_call (ok__law_take T) (hr.mono (by decide)) rfl T.g__law_take T.F__law_take.kp T.B__law_take .nil pass0 (pa_cons (pv 0) (pa_cons pe_int pa_nil)))) pe_int) pa_nil))))) pss_nil)
      (pss_cons (ps_if (pt_cmpR op_eq (pv 2) pe_int (nomark _)) (pss_one (ps_ret (pe_call (ok__law_take T) (hr.mono (by decide)) rfl T.g__law_take T.F__law_take.kp T.B__law_take .nil pass0 (pa_cons (pv 0) (pa_cons pe_int pa_nil))))) pss_nil)
      (pss_cons (ps_if (pt_cmpR op_eq (pv 2) pe_int (nomark _)) (pss_one (ps_ret (pe_call (ok__law_take T) (hr.mono (by decide)) rfl T.g__law_take T.F__law_take.kp T.B__law_take .nil pass0 (pa_cons (pv 0) (pa_cons (pe_op op_pow pe_int pe_int) pa_nil))))) pss_nil)
      (pss_one (ps_ret pe_int)))))))), ?_⟩
    refine st__law_ticks ?_
    o_args
    refine ⟨a, 6, F, rfl, B0, by decide, by decide, fun way H1 a1 b1 B1 s1 => ?_⟩
    have hw1 := s1 _ _ nra hw
    o_args
    refine brD (fun q => ?_) (fun q => ?_)
    · o_args
      exact ⟨a, 41, F, rfl, B1, by decide, by decide, fun t H2 a2 b2 B2 s2 => k t H2 a2 B2 (s1.trans s2)⟩
    o_args
    refine brD (fun q => ?_) (fun q => ?_)
    · o_args
      exact k _ _ la0 B1 s1
    o_args
    refine brD (fun q => ?_) (fun q => ?_)
    · o_args
      refine ⟨a, 3, F, rfl, B1, by decide, by decide, fun t H2 a2 b2 B2 s2 => ?_⟩
      o_args
      exact ⟨_, _, rfl, k _ _ (by omega) B2 (s1.trans s2)⟩
    o_args
    refine brD (fun q => ?_) (fun q => ?_)
    · o_args
      exact ⟨a, 100001, F, rfl, B1, by decide, by decide, fun t H2 a2 b2 B2 s2 => k t H2 a2 B2 (s1.trans s2)⟩
    o_args
    refine brD (fun q => ?_) (fun q => ?_)
    · o_args
      exact ⟨a, _, F, rfl, B1, by decide, by decide, fun t H2 a2 b2 B2 s2 => k t H2 a2 B2 (s1.trans s2)⟩
    o_args
    exact k _ _ (Int.le_refl _) B1 s1
/-! ### the law's comparisons -/
def sp__law_agrees (K : PySem.W.Frag) (C : Addr) : Sp := fun vs H Q _ => ∃ (e r : Addr) (x : Es), vs = [.ref e, .ref r] ∧ EstAt C H e x ∧ H r = some (.lst x.row) ∧ x.ok ∧ ∀ H', Same H H' → Q (.bl true) H'
theorem ok__law_agrees (T : Txt K mg) : FnOk P w K mg base CX0 3 T.a__law_agrees T.fd__law_agrees ["estimate", "row"] (sp__law_agrees K T.c_Estimate) := by
  have S := sc__law_agrees
  refine T.F__law_agrees.ok S (fun vs H Q E h => ?_) (fun cdv A outer s H vs Q E hr h => ?_)
  · obtain ⟨e, r, x, rfl, _⟩ := h
    rfl
  · obtain ⟨e, r, x, rfl, hE, hw, ok, k⟩ := h
    obtain ⟨dx, he⟩ := id hE
    refine ⟨_, (pss_cons (ps_set (i := 2) S.nd rfl (Or.inl rfl) (pe_lst (pa_cons (pe_fld (pv 0) rfl) (pa_cons (pe_fld (pv 0) rfl) (pa_cons (pe_fld (pv 0) rfl) (pa_cons (pe_fld (pv 0) rfl) (pa_cons (pe_fld (pv 0) rfl) (pa_cons (pe_prop (pv 0) T.cl_Estimate T.PR_Estimate_timeout (ok_Estimate_timeout T) (hr.mono (by decide)) T.B_Estimate_timeout .nil pass0 rfl) pa_nil))))))))
      (pss_cons (ps_if (pt_not (pt_val (pe_callB (id := "all") (cr_all rfl) (by rfl) T.b_all (by decide +kernel) (pa_cons (pe_lc (own := [("one", 3)]) (g := gName 3) (tt := tYes) rfl S.nd (pi_list (pv 2)) (blkOk_by (N := ["estimate", "row", "told", "one"]) (sc := defScope s__law_agrees) (by decide +kernel)) (fun _ _ _ _ _ => pg_name (i := 3) S.nd rfl (Or.inl rfl)) (fun _ _ _ _ _ => pts_nil) (fun _ _ _ _ _ => (pe_call (ok__law_whole T) (hr.mono (by decide)) rfl T.g__law_whole T.F__law_whole.kp T.B__law_whole .nil pass0 (pa_cons (pv 3) pa_nil)))) pa_nil)))) (pss_one (ps_ret pe_bl)) pss_nil)
      (pss_cons (ps_if (PW.pt (pw_or (pt_cmpR (op_neD hr.units) (pv 2) (pe_op op_cat (pe_slice sl_list (pv 1) po_none (po_some pe_int)) (pe_lst (pa_cons (pe_call (ok__law_wait T) (hr.mono (by decide)) rfl T.g__law_wait T.F__law_wait.kp T.B__law_wait .nil pass0 (pa_cons (pv 1) pa_nil)) pa_nil))) (nomark _)) (pw_or1 (pt_cmpR op_ne (pe_ix ix_list (pv 2) pe_int (fun _ _ => rfl)) (pe_prop (pv 0) T.cl_Estimate T.PR_Estimate_timeout (ok_Estimate_timeout T) (hr.mono (by decide)) T.B_Estimate_timeout .nil pass0 rfl) (nomark _))))) (pss_one (ps_ret pe_bl)) pss_nil)
      (pss_cons (ps_if (PW.pt (pw_or (pt_cmpR op_lt (pe_ix ix_list (pv 2) pe_int (fun _ _ => rfl)) (pe_ix ix_list (pv 1) pe_int (fun _ _ => rfl)) (nomark _)) (pw_or1 (pt_cmpR op_gt (pe_ix ix_list (pv 2) pe_int (fun _ _ => rfl)) (pe_ix ix_list (pv 1) pe_int (fun _ _ => rfl)) (nomark _))))) (pss_one (ps_ret pe_bl)) pss_nil)
      (pss_one (ps_ret (pe_or (pe_cmpR op_eq (pe_ix ix_list (pv 1) pe_int (fun _ _ => rfl)) pe_int (nomark _)) (pe_one (pe_chain op_le op_le (pe_op op_mul pe_int (pe_ix ix_list (pv 1) pe_int (fun _ _ => rfl))) (pe_ix ix_list (pv 2) pe_int (fun _ _ => rfl)) (pe_op op_mul pe_int (pe_ix ix_list (pv 1) pe_int (fun _ _ => rfl)))))))))))), ?_⟩
    refine st__law_agrees ?_
    o_args
    refine fget he T.cl_Estimate T.n_Estimate_low rfl ?_
    o_args
    refine fget he T.cl_Estimate T.n_Estimate_high rfl ?_
    o_args
    refine fget he T.cl_Estimate T.n_Estimate_smooth rfl ?_
    o_args
    refine fget he T.cl_Estimate T.n_Estimate_spread rfl ?_
    o_args
    refine fget he T.cl_Estimate T.n_Estimate_samples rfl ?_
    o_args
    refine ⟨e, dx, _, rfl, he, e, x, rfl, hE, ?_⟩
    o_args
    refine newList (by simp) fun D H1 hD s1 h1 => ?_
    have hw1 := s1 _ _ hw
    o_args
    refine lc_lstN (K := K) (fun i vs _ => vs = List.replicate i (.bl true)) (fun R q => ⟨_, rfl, q⟩) (SqL.of h1) (by simp) (fun _ _ => rfl) (fun _ _ _ _ _ h => h) (fun _ _ _ _ _ _ _ _ _ h => h) (fun B i v vs H' hi s hv _ _ _ Qe q => ?_) (fun B vs H2 hB hl hv h2 s2 => ?_)
    · have : ∃ z, v = V.int z := by
        have hm := List.mem_of_getElem? hi
        simp only [List.mem_cons, List.not_mem_nil, or_false] at hm
        rcases hm with h | h | h | h | h | h <;> exact ⟨_, h⟩
      obtain ⟨z, rfl⟩ := this
      o_args
      refine ⟨_, true, rfl, intK_int z, q _ _ (Same.refl _) ?_⟩
      rw [hv]
      exact (List.replicate_succ' ..).symm
    subst hv
    o_args
    refine ⟨B, List.replicate 6 true, rfl, SqL.of (by rw [h2]; rfl), ?_⟩
    rw [all_rep]
    o_args
    have h12 := s2 _ _ h1
    have hw2 := s2 _ _ hw1
    refine sliceL (SqL.of hw2) fun L H3 hL s3 h3 => ?_
    have h3 : H3 L = some (.lst (cutV x.row none (some ((5 : Nat) : Int)))) := h3
    rw [cut_to] at h3
    have hw3 := s3 _ _ hw2
    o_args
    refine ⟨r, x, rfl, hw3, ?_⟩
    o_args
    refine newList (by simp) fun N H4 hN s4 h4 => ?_
    o_args
    refine catList (s4 _ _ h3) h4 (by simp [Es.row]) fun M H5 hM s5 h5 => ?_
    have S5 : Same H1 H5 := ((s2.trans s3).trans s4).trans s5
    refine neLL (K := K) (xs := [x.lo, x.hi, x.sm, x.sp, x.n, x.tmo]) (ys := [x.lo, x.hi, x.sm, x.sp, x.n, x.tmo]) (SqL.of (by rw [S5 _ _ h1]; rfl)) (SqL.of (by rw [h5]; rfl)) ?_
    rw [decide_eq_true rfl]
    have h15 := S5 _ _ h1
    have hw5 := S5 _ _ hw1
    have he5 := S5 _ _ (s1 _ _ he)
    o_args
    refine ⟨e, dx, _, rfl, he5, e, x, rfl, ⟨dx, he5⟩, ?_⟩
    obtain ⟨t0, t1⟩ := Es.tmo_in ok
    o_args
    refine brDT rfl ?_
    o_args
    refine brDF (by omega) ?_
    o_args
    refine brDF (by omega) ?_
    o_args
    have fin := k H5 (s1.trans S5)
    refine brD (fun q => ?_) (fun q => ?_)
    · o_args
      exact fin
    obtain ⟨_, _, _, _, _, _, h7⟩ := ok
    obtain ⟨c0, c1, c2⟩ := h7 q
    o_args
    refine brDT c1 ?_
    o_args
    rw [decide_eq_true c2]
    exact fin
/-- the two clocks that hear the same -/
def Twin (x y : Es) : Prop := y.lo = 1 ∧ y.hi = 100000 ∧ y.sm = x.sm ∧ y.sp = x.sp ∧ y.n = x.n
theorem Twin.next {x y : Es} (h : Twin x y) (t : Int) : Twin (x.next t) (y.next t) := by
  obtain ⟨h1, h2, h3, h4, h5⟩ := h
  unfold Es.next
  rw [h5]
  by_cases q : x.n = 0
  · rw [if_pos q, if_pos q]
    exact ⟨h1, h2, rfl, rfl, rfl⟩
  · rw [if_neg q, if_neg q]
    refine ⟨h1, h2, ?_, ?_, rfl⟩
    · show y.sm + (t - y.sm / 8) = x.sm + (t - x.sm / 8)
      rw [h3]
    · show y.sp + (ab (t - y.sm / 8) - y.sp / 4) = x.sp + (ab (t - x.sm / 8) - x.sp / 4)
      rw [h3, h4]
def sp__law_share (C : Addr) : Sp := fun vs H Q _ => ∃ (e f r : Addr) (x y : Es), vs = [.ref e, .ref f, .ref r] ∧ EstAt C H e x ∧ EstAt C H f y ∧ H r = some (.lst x.row) ∧ x.ok ∧ Twin x y ∧ Q (.bl true) H
theorem ok__law_share (T : Txt K mg) : FnOk P w K mg base CX0 3 T.a__law_share T.fd__law_share ["narrow", "wide", "row"] (sp__law_share T.c_Estimate) := by
  have S := sc__law_share
  refine T.F__law_share.ok S (fun vs H Q E h => ?_) (fun cdv A outer s H vs Q E hr h => ?_)
  · obtain ⟨e, f, r, x, y, rfl, _⟩ := h
    rfl
  · obtain ⟨e, f, r, x, y, rfl, hE, hF, hw, ok, tw, k⟩ := h
    obtain ⟨dx, he⟩ := id hE
    obtain ⟨dy, hf⟩ := id hF
    obtain ⟨y1, y2, y3, y4, y5⟩ := tw
    refine ⟨_, (pss_cons (ps_if (PW.pt (pw_or (pt_cmpR op_ne (pe_fld (pv 0) rfl) (pe_fld (pv 1) rfl) (nomark _)) (pw_or (pt_cmpR op_ne (pe_fld (pv 0) rfl) (pe_fld (pv 1) rfl) (nomark _)) (pw_or1 (pt_cmpR op_ne (pe_fld (pv 0) rfl) (pe_fld (pv 1) rfl) (nomark _)))))) (pss_one (ps_ret pe_bl)) pss_nil)
      (pss_cons (ps_if (pt_cmpR op_eq (pe_ix ix_list (pv 2) pe_int (fun _ _ => rfl)) pe_int (nomark _)) (pss_one (ps_ret pe_bl)) pss_nil)
      (pss_one (ps_ret (pe_cmpR op_eq (pe_prop (pv 0) T.cl_Estimate T.PR_Estimate_timeout (ok_Estimate_timeout T) (hr.mono (by decide)) T.B_Estimate_timeout .nil pass0 rfl) (pe_call (ok__law_lesser T) (hr.mono (by decide)) rfl T.g__law_lesser T.F__law_lesser.kp T.B__law_lesser .nil pass0 (pa_cons (pe_ix ix_list (pv 2) pe_int (fun _ _ => rfl)) (pa_cons (pe_call (ok__law_greater T) (hr.mono (by decide)) rfl T.g__law_greater T.F__law_greater.kp T.B__law_greater .nil pass0 (pa_cons (pe_ix ix_list (pv 2) pe_int (fun _ _ => rfl)) (pa_cons (pe_prop (pv 1) T.cl_Estimate T.PR_Estimate_timeout (ok_Estimate_timeout T) (hr.mono (by decide)) T.B_Estimate_timeout .nil pass0 rfl) pa_nil))) pa_nil))) (nomark _)))))), ?_⟩
    refine st__law_share ?_
    o_args
    refine fget he T.cl_Estimate T.n_Estimate_smooth rfl ?_
    o_args
    refine fget hf T.cl_Estimate T.n_Estimate_smooth rfl ?_
    o_args
    refine brDT y3.symm ?_
    o_args
    refine fget he T.cl_Estimate T.n_Estimate_spread rfl ?_
    o_args
    refine fget hf T.cl_Estimate T.n_Estimate_spread rfl ?_
    o_args
    refine brDT y4.symm ?_
    o_args
    refine fget he T.cl_Estimate T.n_Estimate_samples rfl ?_
    o_args
    refine fget hf T.cl_Estimate T.n_Estimate_samples rfl ?_
    o_args
    refine brDT y5.symm ?_
    o_args
    refine brD (fun q => ?_) (fun q => ?_)
    · o_args
      exact k
    o_args
    refine ⟨e, dx, _, rfl, he, e, x, rfl, hE, ?_⟩
    o_args
    refine ⟨f, dy, _, rfl, hf, f, y, rfl, hF, ?_⟩
    o_args
    refine ⟨_, _, rfl, ?_⟩
    o_args
    refine ⟨_, _, rfl, ?_⟩
    o_args
    have : x.tmo = min x.hi (max x.lo y.tmo) := by
      unfold Es.tmo
      rw [y5, if_neg q, if_neg q, y1, y2, y3, y4]
      obtain ⟨h1, h2, h3, h4, h5, h6, h7⟩ := ok
      omega
    rw [decide_eq_true this]
    exact k
/-! ### the law's world -/
theorem nd_inj {l : List Addr} (h : l.Nodup) : ∀ {i j : Nat} {x : Addr}, l[i]? = some x → l[j]? = some x → i = j := by
  induction l with
  | nil => intro i j x h1; cases h1
  | cons b l ih =>
    intro i j x h1 h2
    have hb := (List.nodup_cons.mp h).1
    have hn := (List.nodup_cons.mp h).2
    cases i with
    | zero => cases j with
      | zero => rfl
      | succ j => cases h1; exact absurd (List.mem_of_getElem? (show l[j]? = some b from h2)) hb
    | succ i => cases j with
      | zero => cases h2; exact absurd (List.mem_of_getElem? (show l[i]? = some b from h1)) hb
      | succ j => rw [ih hn h1 h2]
structure Wd (C a R L : Addr) (rs es : List Addr) (xs ys : List Es) (H : Hp) : Prop where
  hR : H R = some (.lst (rs.map V.ref))
  hL : H L = some (.lst (es.map V.ref))
  rows : ∀ (i : Nat) r y, rs[i]? = some r → ys[i]? = some y → H r = some (.lst y.row)
  ests : ∀ (i : Nat) e x, es[i]? = some e → xs[i]? = some x → EstAt C H e x
  bag : Bag a (R :: L :: (rs ++ es)) H
  nd : (R :: L :: (rs ++ es)).Nodup
  len : rs.length = 3 ∧ es.length = 3 ∧ xs.length = 3 ∧ ys.length = 3
section
variable {C a R L : Addr} {rs es : List Addr} {xs ys : List Es} {H H' : Hp}
theorem Wd.apart (W : Wd C a R L rs es xs ys H) : R ≠ L ∧ R ∉ rs ∧ R ∉ es ∧ L ∉ rs ∧ L ∉ es ∧ rs.Nodup ∧ es.Nodup ∧ ∀ r ∈ rs, ∀ e ∈ es, r ≠ e := by
  have h1 := List.nodup_cons.mp W.nd
  have h2 := List.nodup_cons.mp h1.2
  have h3 := List.nodup_append.mp h2.2
  refine ⟨fun e => h1.1 (by rw [e]; exact List.mem_cons_self ..), fun h => h1.1 (List.mem_cons_of_mem _ (List.mem_append_left _ h)), fun h => h1.1 (List.mem_cons_of_mem _ (List.mem_append_right _ h)), fun h => h2.1 (List.mem_append_left _ h), fun h => h2.1 (List.mem_append_right _ h), h3.1, h3.2.1, fun r hr e he => h3.2.2 r hr e he⟩
theorem Wd.inF {i : Nat} {r : Addr} (h : rs[i]? = some r) : r ∈ R :: L :: (rs ++ es) := List.mem_cons_of_mem _ (List.mem_cons_of_mem _ (List.mem_append_left _ (List.mem_of_getElem? h)))
theorem Wd.inF' {i : Nat} {e : Addr} (h : es[i]? = some e) : e ∈ R :: L :: (rs ++ es) := List.mem_cons_of_mem _ (List.mem_cons_of_mem _ (List.mem_append_right _ (List.mem_of_getElem? h)))
theorem Wd.take (W : Wd C a R L rs es xs ys H) (B : Bag a (R :: L :: (rs ++ es)) H') (s : SameX a H H') : Wd C a R L rs es xs ys H' :=
  ⟨s _ _ (B.ne (List.mem_cons_self ..)) W.hR, s _ _ (B.ne (List.mem_cons_of_mem _ (List.mem_cons_self ..))) W.hL, fun i r y h1 h2 => s _ _ (B.ne (Wd.inF h1)) (W.rows i r y h1 h2), fun i e x h1 h2 => (W.ests i e x h1 h2).on s (B.ne (Wd.inF' h1)), B, W.nd, W.len⟩
theorem Wd.same (W : Wd C a R L rs es xs ys H) (s : Same H H') : Wd C a R L rs es xs ys H' :=
  ⟨s _ _ W.hR, s _ _ W.hL, fun i r y h1 h2 => s _ _ (W.rows i r y h1 h2), fun i e x h1 h2 => (W.ests i e x h1 h2).same s, W.bag.same s, W.nd, W.len⟩
theorem set_at {α : Type} {l : List α} {i j : Nat} {x y : α} (h : (l.set i x)[j]? = some y) : (j = i ∧ y = x) ∨ (j ≠ i ∧ l[j]? = some y) := by
  by_cases q : i = j
  · subst q
    rw [List.getElem?_set] at h
    split at h
    · split at h
      · exact .inl ⟨rfl, (Option.some.inj h).symm⟩
      · cases h
    · exact absurd rfl ‹_›
  · rw [List.getElem?_set_ne q] at h
    exact .inr ⟨fun e => q e.symm, h⟩
theorem Wd.setE {i : Nat} {e : Addr} {x' : Es} (W : Wd C a R L rs es xs ys H) (hi : es[i]? = some e) (s : SameX e H H') (h : EstAt C H' e x') : Wd C a R L rs es (xs.set i x') ys H' := by
  obtain ⟨_, _, n3, _, n5, _, n7, n8⟩ := W.apart
  have me := List.mem_of_getElem? hi
  refine ⟨s _ _ (fun z => n3 (z ▸ me)) W.hR, s _ _ (fun z => n5 (z ▸ me)) W.hL, fun j r y h1 h2 => s _ _ (n8 r (List.mem_of_getElem? h1) e me) (W.rows j r y h1 h2), fun j f x h1 h2 => ?_, W.bag.on (Wd.inF' hi) s (h.elim fun dx h => ⟨_, h⟩), W.nd, ?_⟩
  · rcases set_at h2 with ⟨rfl, rfl⟩ | ⟨q, h2⟩
    · rw [hi] at h1
      cases h1
      exact h
    · exact (W.ests j f x h1 h2).on s fun z => q (nd_inj n7 (z ▸ h1) hi)
  · obtain ⟨l1, l2, l3, l4⟩ := W.len
    exact ⟨l1, l2, by rw [List.length_set]; exact l3, l4⟩
theorem Wd.setR {i : Nat} {r : Addr} {y' : Es} (W : Wd C a R L rs es xs ys H) (hi : rs[i]? = some r) (s : SameX r H H') (h : H' r = some (.lst y'.row)) : Wd C a R L rs es xs (ys.set i y') H' := by
  obtain ⟨_, n2, _, n4, _, n6, _, n8⟩ := W.apart
  have me := List.mem_of_getElem? hi
  refine ⟨s _ _ (fun z => n2 (z ▸ me)) W.hR, s _ _ (fun z => n4 (z ▸ me)) W.hL, fun j f y h1 h2 => ?_, fun j f x h1 h2 => (W.ests j f x h1 h2).on s (fun z => n8 r me f (List.mem_of_getElem? h1) z.symm), W.bag.on (Wd.inF hi) s ⟨_, h⟩, W.nd, ?_⟩
  · rcases set_at h2 with ⟨rfl, rfl⟩ | ⟨q, h2⟩
    · rw [hi] at h1
      cases h1
      exact h
    · exact s _ _ (fun z => q (nd_inj n6 (z ▸ h1) hi)) (W.rows j f y h1 h2)
  · obtain ⟨l1, l2, l3, l4⟩ := W.len
    exact ⟨l1, l2, l3, by rw [List.length_set]; exact l4⟩
theorem ref_at {l : List Addr} {i : Nat} {x : Addr} (h : l[i]? = some x) : (l.map V.ref)[i]? = some (V.ref x) := by rw [List.getElem?_map, h]; rfl
theorem some_at {α : Type} {l : List α} {i : Nat} (h : i < l.length) : ∃ x, l[i]? = some x := ⟨l[i], List.getElem?_eq_getElem h⟩
end
/-- all is right between the samples -/
def Right (xs : List Es) : Prop := (∀ x ∈ xs, x.ok) ∧ ∀ x y, xs[0]? = some x → xs[2]? = some y → Twin x y
theorem Right.one {xs : List Es} {x : Es} {t : Int} (h : Right xs) (hx : xs[1]? = some x) (t0 : 0 ≤ t) : Right (xs.set 1 (x.next t)) := by
  refine ⟨fun z hz => ?_, fun z y h1 h2 => ?_⟩
  · obtain ⟨j, hj⟩ := List.mem_iff_getElem?.mp hz
    rcases set_at hj with ⟨_, rfl⟩ | ⟨_, hj⟩
    · exact Es.next_ok (h.1 x (List.mem_of_getElem? hx)) t0
    · exact h.1 z (List.mem_of_getElem? hj)
  · rw [List.getElem?_set_ne (by decide)] at h1 h2
    exact h.2 z y h1 h2
theorem Right.two {xs : List Es} {x y : Es} {t : Int} (h : Right xs) (hx : xs[0]? = some x) (hy : xs[2]? = some y) (t0 : 0 ≤ t) : Right ((xs.set 0 (x.next t)).set 2 (y.next t)) := by
  refine ⟨fun z hz => ?_, fun z u h1 h2 => ?_⟩
  · obtain ⟨j, hj⟩ := List.mem_iff_getElem?.mp hz
    rcases set_at hj with ⟨_, rfl⟩ | ⟨_, hj⟩
    · exact Es.next_ok (h.1 y (List.mem_of_getElem? hy)) t0
    · rcases set_at hj with ⟨_, rfl⟩ | ⟨_, hj⟩
      · exact Es.next_ok (h.1 x (List.mem_of_getElem? hx)) t0
      · exact h.1 z (List.mem_of_getElem? hj)
  · rcases set_at h2 with ⟨_, rfl⟩ | ⟨q, _⟩
    · rw [List.getElem?_set_ne (by decide)] at h1
      rcases set_at h1 with ⟨_, rfl⟩ | ⟨q, _⟩
      · exact (h.2 x y hx hy).next t
      · exact absurd rfl q
    · exact absurd rfl q
def sp__law_all_agree (C : Addr) : Sp := fun vs H Q _ => ∃ (a R L : Addr) (rs es : List Addr) (xs : List Es), vs = [.ref L, .ref R] ∧ Wd C a R L rs es xs xs H ∧ Right xs ∧ ∀ H', Same H H' → Q (.bl true) H'
theorem ok__law_all_agree (T : Txt K mg) : FnOk P w K mg base CX0 4 T.a__law_all_agree T.fd__law_all_agree ["clocks", "rows"] (sp__law_all_agree T.c_Estimate) := by
  have S := sc__law_all_agree
  refine T.F__law_all_agree.ok S (fun vs H Q E h => ?_) (fun cdv A outer s H vs Q E hr h => ?_)
  · obtain ⟨a, R, L, rs, es, xs, rfl, _⟩ := h
    rfl
  · obtain ⟨a, R, L, rs, es, xs, rfl, W, rt, k⟩ := h
    obtain ⟨l1, l2, l3, _⟩ := W.len
    refine ⟨_, (pss_cons (ps_for PassesOwn.never rfl (pi_range1 (by rfl) T.b_range (pa_cons pe_int pa_nil)) (pg_name (i := 2) S.nd rfl (Or.inl rfl)) (pss_one (ps_if (pt_not (pt_val (pe_call (ok__law_agrees T) (hr.mono (by decide)) rfl T.g__law_agrees T.F__law_agrees.kp T.B__law_agrees .nil pass0 (pa_cons (pe_ix ix_list (pv 0) (pv 2) (fun _ _ => rfl)) (pa_cons (pe_ix ix_list (pv 1) (pv 2) (fun _ _ => rfl)) pa_nil))))) (pss_one (ps_ret pe_bl)) pss_nil)))
      (pss_one (ps_ret (pe_call (ok__law_share T) (hr.mono (by decide)) rfl T.g__law_share T.F__law_share.kp T.B__law_share .nil pass0 (pa_cons (pe_ix ix_list (pv 0) pe_int (fun _ _ => rfl)) (pa_cons (pe_ix ix_list (pv 0) pe_int (fun _ _ => rfl)) (pa_cons (pe_ix ix_list (pv 1) pe_int (fun _ _ => rfl)) pa_nil))))))), ?_⟩
    refine st__law_all_agree ?_
    o_args
    refine rngF (n := 3) (by decide) (by decide) (for_range (lo := 0) (n := (3 : Int).toNat) (fun i σ H' => ∃ v, σ = [some (.ref L), some (.ref R), v] ∧ Same H H') ⟨none, rfl, Same.refl H⟩ ?_ ?_)
    · rintro i σ H1 hi ⟨v, rfl, s1⟩
      have hi : i < 3 := hi
      rw [show (0 : Int) + (i : Int) = i from Int.zero_add _]
      have W1 := W.same s1
      obtain ⟨e, he⟩ := some_at (l := es) (i := i) (by omega)
      obtain ⟨r, hw⟩ := some_at (l := rs) (i := i) (by omega)
      obtain ⟨x, hx⟩ := some_at (l := xs) (i := i) (by omega)
      o_args
      refine ixL W1.hL (ref_at he) ?_
      o_args
      refine ixL W1.hR (ref_at hw) ?_
      o_args
      refine ⟨e, r, x, rfl, W1.ests i e x he hx, W1.rows i r x hw hx, rt.1 x (List.mem_of_getElem? hx), fun H2 s2 => ?_⟩
      o_args
      exact ⟨_, rfl, s1.trans s2⟩
    · rintro σ H1 ⟨v, rfl, s1⟩
      have W1 := W.same s1
      obtain ⟨e, he⟩ := some_at (l := es) (i := 0) (by omega)
      obtain ⟨f, hf⟩ := some_at (l := es) (i := 2) (by omega)
      obtain ⟨r, hw⟩ := some_at (l := rs) (i := 0) (by omega)
      obtain ⟨x, hx⟩ := some_at (l := xs) (i := 0) (by omega)
      obtain ⟨y, hy⟩ := some_at (l := xs) (i := 2) (by omega)
      o_args
      refine ixL (i := 0) W1.hL (ref_at he) ?_
      o_args
      refine ixL (i := 2) W1.hL (ref_at hf) ?_
      o_args
      refine ixL (i := 0) W1.hR (ref_at hw) ?_
      o_args
      exact ⟨e, f, r, x, y, rfl, W1.ests 0 e x he hx, W1.ests 2 f y hf hy, W1.rows 0 r x hw hx, rt.1 x (List.mem_of_getElem? hx), rt.2 x y hx hy, k H1 s1⟩
/-! ### the law -/
def sp_law (K : PySem.W.Frag) : Sp := fun vs H Q _ => ∃ (a : Addr) (ns : List Int), vs = [.ref a] ∧ SqL K H a (ns.map V.int) ∧ ns.length ≤ 63 ∧ ∀ H', Q (.bl true) H'
theorem ok_law (T : Txt K mg) : FnOk P w K mg base CX0 5 T.a_law T.fd_law ["script"] (sp_law K) := by
  have S := sc_law
  refine T.F_law.ok S (fun vs H Q E h => ?_) (fun cdv A outer s H vs Q E hr h => ?_)
  · obtain ⟨a, ns, rfl, _⟩ := h
    rfl
  · obtain ⟨a, ns, rfl, hS, hl, k⟩ := h
    refine ⟨_, (pss_cons (ps_set (i := 1) S.nd rfl (Or.inl rfl) (pe_call (ok__law_bag T) (hr.mono (by decide)) rfl T.g__law_bag T.F__law_bag.kp T.B__law_bag .nil pass0 (pa_cons (pv 0) pa_nil)))
      (pss_cons (ps_set (i := 2) S.nd rfl (Or.inl rfl) (pe_op op_add pe_int (pe_call (ok__law_take T) (hr.mono (by decide)) rfl T.g__law_take T.F__law_take.kp T.B__law_take .nil pass0 (pa_cons (pv 1) (pa_cons pe_int pa_nil)))))
      (pss_cons (ps_set (i := 3) S.nd rfl (Or.inl rfl) (pe_lst (pa_cons (pe_call (ok__law_row T) (hr.mono (by decide)) rfl T.g__law_row T.F__law_row.kp T.B__law_row .nil pass0 (pa_cons (pe_call (ok__law_bounds T) (hr.mono (by decide)) rfl T.g__law_bounds T.F__law_bounds.kp T.B__law_bounds .nil pass0 (pa_cons (pv 1) pa_nil)) pa_nil)) (pa_cons (pe_call (ok__law_row T) (hr.mono (by decide)) rfl T.g__law_row T.F__law_row.kp T.B__law_row .nil pass0 (pa_cons (pe_call (ok__law_bounds T) (hr.mono (by decide)) rfl T.g__law_bounds T.F__law_bounds.kp T.B__law_bounds .nil pass0 (pa_cons (pv 1) pa_nil)) pa_nil)) (pa_cons (pe_call (ok__law_row T) (hr.mono (by decide)) rfl T.g__law_row T.F__law_row.kp T.B__law_row .nil pass0 (pa_cons (pe_lst (pa_cons pe_int (pa_cons pe_int pa_nil))) pa_nil)) pa_nil)))))
      (pss_cons (ps_setLc (i := 4) (own := [("row", 8)]) (g := gName 8) (tt := tYes) rfl S.nd rfl rfl (sw_true rfl rfl rfl (by decide +kernel)) (pi_list (pv 3)) (blkOk_by (N := ["script", "bag", "turns", "rows", "clocks", "turn", "side", "ticks", "row"]) (sc := defScope s_law) (by decide +kernel)) (fun _ _ _ _ _ => pg_name (i := 8) S.nd rfl (Or.inl rfl)) (fun _ _ _ _ _ => pts_nil) (fun _ _ _ _ _ => (pe_make T.M_Estimate (ok_Estimate_init_ T) (hr.mono (by decide)) rfl T.g_Estimate T.B_Estimate_init_ .nil pass0 (pa_cons (pe_ix (show IxR _ (rIxL K) from ix_list) (pv 8) pe_int (fun _ _ => rfl)) (pa_cons (pe_ix (show IxR _ (rIxL K) from ix_list) (pv 8) pe_int (fun _ _ => rfl)) pa_nil)))))
      (pss_cons (ps_if (pt_not (pt_val (pe_call (ok__law_all_agree T) (hr.mono (by decide)) rfl T.g__law_all_agree T.F__law_all_agree.kp T.B__law_all_agree .nil pass0 (pa_cons (pv 4) (pa_cons (pv 3) pa_nil))))) (pss_one (ps_ret pe_bl)) pss_nil)
      (pss_cons (ps_for PassesOwn.never rfl (pi_range1 (by rfl) T.b_range (pa_cons (pv 2) pa_nil)) (pg_name (i := 5) S.nd rfl (Or.inl rfl)) (pss_cons (ps_set (i := 6) S.nd rfl (Or.inl rfl) (pe_op op_fdiv (pe_call (ok__law_take T) (hr.mono (by decide)) rfl T.g__law_take T.F__law_take.kp T.B__law_take .nil pass0 (pa_cons (pv 1) (pa_cons pe_int pa_nil))) pe_int))
      (pss_cons (ps_set (i := 7) S.nd rfl (Or.inl rfl) (pe_call (ok__law_ticks T) (hr.mono (by decide)) rfl T.g__law_ticks T.F__law_ticks.kp T.B__law_ticks .nil pass0 (pa_cons (pv 1) (pa_cons (pe_ix ix_list (pv 3) (pv 6) (fun _ _ => rfl)) pa_nil))))
      (pss_cons (ps_if (pt_cmpR op_notN (pe_meth (pe_ix ix_list (pv 4) (pv 6) (fun _ _ => rfl)) T.cl_Estimate T.m_Estimate_sample (ok_Estimate_sample T) (hr.mono (by decide)) T.B_Estimate_sample .nil pass0 (pa_cons (pv 7) pa_nil)) pe_non (nomark _)) (pss_one (ps_ret pe_bl)) pss_nil)
      (pss_cons (ps_expr (pe_call (ok__law_enter T) (hr.mono (by decide)) rfl T.g__law_enter T.F__law_enter.kp T.B__law_enter .nil pass0 (pa_cons (pe_ix ix_list (pv 3) (pv 6) (fun _ _ => rfl)) (pa_cons (pv 7) pa_nil))))
      (C8.pss_cut (ps_if (pt_cmpR op_eq (pv 6) pe_int (nomark _)) (pss_cons (ps_if (pt_cmpR op_notN (pe_meth (pe_ix ix_list (pv 4) pe_int (fun _ _ => rfl)) T.cl_Estimate T.m_Estimate_sample (ok_Estimate_sample T) (hr.mono (by decide)) T.B_Estimate_sample .nil pass0 (pa_cons (pv 7) pa_nil)) pe_non (nomark _)) (pss_one (ps_ret pe_bl)) pss_nil)
      (pss_one (ps_expr (pe_call (ok__law_enter T) (hr.mono (by decide)) rfl T.g__law_enter T.F__law_enter.kp T.B__law_enter .nil pass0 (pa_cons (pe_ix ix_list (pv 3) pe_int (fun _ _ => rfl)) (pa_cons (pv 7) pa_nil)))))) pss_nil)
      (pss_one (ps_if (PW.pt (pw_and (pt_cmpR op_gt (pe_call (ok__law_take T) (hr.mono (by decide)) rfl T.g__law_take T.F__law_take.kp T.B__law_take .nil pass0 (pa_cons (pv 1) (pa_cons pe_int pa_nil))) pe_int (nomark _)) (pw_and1 (pt_not (pt_val (pe_call (ok__law_all_agree T) (hr.mono (by decide)) rfl T.g__law_all_agree T.F__law_all_agree.kp T.B__law_all_agree .nil pass0 (pa_cons (pv 4) (pa_cons (pv 3) pa_nil)))))))) (pss_one (ps_ret pe_bl)) pss_nil))))))))
      (pss_one (ps_ret (pe_call (ok__law_all_agree T) (hr.mono (by decide)) rfl T.g__law_all_agree T.F__law_all_agree.kp T.B__law_all_agree .nil pass0 (pa_cons (pv 4) (pa_cons (pv 3) pa_nil))))))))))), ?_⟩
    refine st_law ?_
    o_args
    refine ⟨a, ns, rfl, hS, hl, fun b H1 nb s1 B1 => ?_⟩
    o_args
    refine ⟨b, 24, [], rfl, B1, by decide, by decide, fun tn H2 a2 b2 B2 s2 => ?_⟩
    o_args
    refine ⟨b, [], rfl, B2, fun p0 H3 lo0 hi0 n3 np0 hp0 l0a l0b l0c B3 s3 => ?_⟩
    o_args
    have B3 := B3.drop
    refine ⟨p0, lo0, hi0, rfl, hp0, fun r0 H4 n4 h4 s4 => ?_⟩
    have B4 := B3.own n4 s4 ⟨_, h4⟩
    o_args
    refine ⟨b, [r0], rfl, B4, fun p1 H5 lo1 hi1 n5 np1 hp1 l1a l1b l1c B5 s5 => ?_⟩
    o_args
    have B5 := B5.drop
    refine ⟨p1, lo1, hi1, rfl, hp1, fun r1 H6 n6 h6 s6 => ?_⟩
    have B6 := B5.own n6 s6 ⟨_, h6⟩
    o_args
    refine newList (by simp) fun p2 H7 n7 s7 h7 => ?_
    o_args
    refine ⟨p2, 1, 100000, rfl, h7, fun r2 H8 n8 h8 s8 => ?_⟩
    have B8 := (B6.same s7).own n8 s8 ⟨_, h8⟩
    o_args
    refine newList (by simp) fun R H9 n9 s9 h9 => ?_
    have B9 := B8.own n9 s9 ⟨_, h9⟩
    have k0 : H9 r0 = some (.lst (Es.new lo0 hi0).row) := s9 _ _ (s8 _ _ (s7 _ _ (s6 _ _ (s5 _ _ (B4.ne (List.mem_cons_self ..)) h4))))
    have k1 : H9 r1 = some (.lst (Es.new lo1 hi1).row) := s9 _ _ (s8 _ _ (s7 _ _ h6))
    have k2 : H9 r2 = some (.lst (Es.new 1 100000).row) := s9 _ _ h8
    have d01 : r0 ≠ r1 := fun e => by
      have := s5 _ _ (B4.ne (List.mem_cons_self ..)) h4
      rw [e, n6] at this
      cases this
    have d02 : r0 ≠ r2 := fun e => by
      have := s7 _ _ (s6 _ _ (s5 _ _ (B4.ne (List.mem_cons_self ..)) h4))
      rw [e, n8] at this
      cases this
    have d12 : r1 ≠ r2 := fun e => by
      have := s7 _ _ h6
      rw [e, n8] at this
      cases this
    have dR : R ≠ r0 ∧ R ≠ r1 ∧ R ≠ r2 := by
      have e0 := s8 _ _ (s7 _ _ (s6 _ _ (s5 _ _ (B4.ne (List.mem_cons_self ..)) h4)))
      have e1 := s8 _ _ (s7 _ _ h6)
      exact ⟨(ne_of_none e0 n9).symm, (ne_of_none e1 n9).symm, (ne_of_none h8 n9).symm⟩
    obtain ⟨X, hX⟩ : ∃ X, X = [Es.new lo0 hi0, Es.new lo1 hi1, Es.new 1 100000] := ⟨_, rfl⟩
    have menu : ∀ (i : Nat) x, [V.ref r0, .ref r1, .ref r2][i]? = some x → ∃ r lo hi, x = .ref r ∧ H9 r = some (.lst (Es.new lo hi).row) ∧ X[i]? = some (Es.new lo hi) ∧ 1 ≤ lo ∧ lo ≤ hi ∧ hi ≤ 100000 := by
      intro i x hi
      rw [hX]
      have : i < 3 := getq_lt hi
      have : i = 0 ∨ i = 1 ∨ i = 2 := by omega
      rcases this with rfl | rfl | rfl <;> cases hi
      · exact ⟨r0, lo0, hi0, rfl, k0, rfl, l0a, l0b, l0c⟩
      · exact ⟨r1, lo1, hi1, rfl, k1, rfl, l1a, l1b, l1c⟩
      · exact ⟨r2, 1, 100000, rfl, k2, rfl, by decide, by decide, by decide⟩
    clear s1 s2 s3 s4 s5 s6 s7 s8 s9 h4 h6 h7 h8 n3 n4 n5 n6 n7 n8 n9 B1 B2 B3 B4 B5 B6 B8 hp0 hp1 np0 np1
    o_args
    refine lc_lstN (K := K) (fun i vs H' => ∃ es : List Addr, vs = es.map V.ref ∧ es.length = i ∧ es.Nodup ∧ (∀ e ∈ es, H9 e = none) ∧ ∀ (j : Nat) e x, es[j]? = some e → X[j]? = some x → EstAt T.c_Estimate H' e x) (fun R q => ⟨_, rfl, q⟩) (SqL.of h9) (by simp)
      (fun H' _ => ⟨[], rfl, rfl, List.nodup_nil, fun e he => absurd he List.not_mem_nil, fun j e x he => by cases he⟩)
      (fun i vs H1 H2 s ⟨es, e1, e2, e3, e4, e5⟩ => ⟨es, e1, e2, e3, e4, fun j e x h1 h2 => (e5 j e x h1 h2).same s⟩)
      (fun D H1 H2 i vs hD s _ ⟨acc, hacc⟩ ⟨es, e1, e2, e3, e4, e5⟩ => ⟨es, e1, e2, e3, e4, fun j e x h1 h2 => (e5 j e x h1 h2).on s fun z => by
        obtain ⟨dx, h⟩ := e5 j e x h1 h2
        rw [z, hacc] at h
        cases h⟩)
      (fun D i x vs H' hi s hv hvl hD _ Qe q => ?_) (fun L vs H10 nL hl hv hL s10 => ?_)
    · obtain ⟨r, lo, hi', rfl, hw, hXi, c1, c2, c3⟩ := menu i x hi
      obtain ⟨es, rfl, e2, e3, e4, e5⟩ := hv
      have hw' := s _ _ hw
      o_args
      intro e dx he hdx ne
      refine ⟨e, dx, lo, hi', rfl, upd_same, c1, c2, c3, fun H2 s2 h2 => ⟨rfl, ?_⟩⟩
      have S2 : Same H' H2 := fun b o eb => s2 b o (ne_of_none eb he) (by rw [upd_ne (ne_of_none eb he), upd_ne (ne_of_none eb hdx)]; exact eb)
      refine q _ _ S2 ⟨es ++ [e], by simp, by simp [e2], ?_, ?_, ?_⟩
      · refine List.nodup_append.mpr ⟨e3, by simp, fun f hf g hg => ?_⟩
        rw [List.mem_singleton.mp hg]
        obtain ⟨j, hj⟩ := List.mem_iff_getElem?.mp hf
        have : j < 3 := by
          have h1 := getq_lt hj
          have h2 : i < 3 := getq_lt hi
          omega
        obtain ⟨y, hy⟩ := some_at (l := X) (i := j) (by rw [hX]; exact this)
        obtain ⟨dy, h⟩ := e5 j f y hj hy
        exact ne_of_none h he
      · intro f hf
        rcases List.mem_append.mp hf with h | h
        · exact e4 f h
        · rw [List.mem_singleton.mp h]
          exact none_of s he
      · intro j f y h1 h3
        rcases getq_app h1 with ⟨_, h⟩ | ⟨rfl, rfl⟩
        · exact (e5 j f y h h3).same S2
        · rw [e2, hXi] at h3
          cases h3
          exact h2
    obtain ⟨es, rfl, e2, e3, e4, e5⟩ := hv
    have e2 : es.length = 3 := e2
    have lX : X.length = 3 := by rw [hX]; rfl
    have W0 : Wd T.c_Estimate b R L [r0, r1, r2] es X X H10 := by
      refine ⟨s10 _ _ h9, hL, fun i r y h1 h2 => ?_, e5, ?_, ?_, rfl, e2, lX, lX⟩
      · obtain ⟨r', lo, hi', e, hw, hXi, _⟩ := menu i (.ref r) (by show ([r0, r1, r2].map V.ref)[i]? = _; exact ref_at h1)
        cases e
        rw [hXi] at h2
        cases h2
        exact s10 _ _ hw
      · refine (B9.owns (G := L :: es) (fun c hc => ?_) s10).less fun c hc => ?_
        · rcases List.mem_cons.mp hc with h | h
          · rw [h]; exact ⟨nL, _, hL⟩
          · obtain ⟨j, hj⟩ := List.mem_iff_getElem?.mp h
            obtain ⟨y, hy⟩ := some_at (l := X) (i := j) (by have := getq_lt hj; omega)
            obtain ⟨dy, h'⟩ := e5 j c y hj hy
            exact ⟨e4 c h, _, h'⟩
        · simp only [List.mem_cons, List.mem_append, List.not_mem_nil, or_false] at hc ⊢
          rcases hc with h | h | (h | h | h) | h <;> simp [h]
      · have x0 : ∀ e ∈ es, R ≠ e ∧ r0 ≠ e ∧ r1 ≠ e ∧ r2 ≠ e := fun e he => ⟨ne_of_none h9 (e4 e he), ne_of_none k0 (e4 e he), ne_of_none k1 (e4 e he), ne_of_none k2 (e4 e he)⟩
        have xL : L ∉ es := fun he => by
          obtain ⟨j, hj⟩ := List.mem_iff_getElem?.mp he
          obtain ⟨y, hy⟩ := some_at (l := X) (i := j) (by have := getq_lt hj; omega)
          obtain ⟨dy, h'⟩ := e5 j L y hj hy
          rw [hL] at h'
          cases h'
        have l0 := ne_of_none h9 nL
        have l1 := (ne_of_none k0 nL).symm
        have l2 := (ne_of_none k1 nL).symm
        have l3 := (ne_of_none k2 nL).symm
        have nR : R ∉ es := fun he => (x0 R he).1 rfl
        have q0 : r0 ∉ es := fun he => (x0 r0 he).2.1 rfl
        have q1 : r1 ∉ es := fun he => (x0 r1 he).2.2.1 rfl
        have q2 : r2 ∉ es := fun he => (x0 r2 he).2.2.2 rfl
        show (R :: L :: r0 :: r1 :: r2 :: es).Nodup
        simp only [List.nodup_cons, List.mem_cons, not_or]
        exact ⟨⟨l0, dR.1, dR.2.1, dR.2.2, nR⟩, ⟨l1, l2, l3, xL⟩, ⟨d01, d02, q0⟩, ⟨d12, q1⟩, q2, e3⟩
    have rt0 : Right X := by
      rw [hX]
      refine ⟨fun x hx => ?_, fun x y h1 h2 => ?_⟩
      · simp only [List.mem_cons, List.not_mem_nil, or_false] at hx
        rcases hx with h | h | h <;> rw [h]
        · exact Es.new_ok l0a l0b l0c
        · exact Es.new_ok l1a l1b l1c
        · exact Es.new_ok (by decide) (by decide) (by decide)
      · cases h1
        cases h2
        exact ⟨rfl, rfl, rfl, rfl, rfl⟩
    clear menu hX e3 e4 e5 k0 k1 k2 h9 B9
    o_args
    refine ⟨b, R, L, _, es, X, rfl, W0, rt0, fun H11 s11 => ?_⟩
    have W1 := W0.same s11
    clear W0 s11 s10 hL nL
    o_args
    refine rngF (n := 1 + tn) (by omega) (by omega) (for_range (lo := 0) (n := (1 + tn).toNat) (fun i σ H' => ∃ xs v1 v2 v3, σ = [some (.ref a), some (.ref b), some (.int (1 + tn)), some (.ref R), some (.ref L), v1, v2, v3, none] ∧ Wd T.c_Estimate b R L [r0, r1, r2] es xs xs H' ∧ Right xs) ⟨X, none, none, none, rfl, W1, rt0⟩ ?_ ?_)
    · rintro i σ H1 _ ⟨xs, v1, v2, v3, rfl, W, rt⟩
      o_args
      refine ⟨b, 3, _, rfl, W.bag, by decide, by decide, fun d H2 a2 b2 B2 s2 => ?_⟩
      have W2 := W.take B2 s2
      obtain ⟨l1, l2, l3, _⟩ := W2.len
      o_args
      obtain ⟨j, hj⟩ : ∃ j : Nat, d / 2 = j := ⟨(d / 2).toNat, by omega⟩
      rw [hj]
      have hj2 : j < 2 := by omega
      obtain ⟨e, he⟩ := some_at (l := es) (i := j) (by omega)
      obtain ⟨r, hw⟩ := some_at (l := [r0, r1, r2]) (i := j) (by show j < 3; omega)
      obtain ⟨x, hx⟩ := some_at (l := xs) (i := j) (by omega)
      refine ixL W2.hR (ref_at hw) ?_
      o_args
      refine ⟨b, r, _, x, rfl, W2.bag, W2.bag.ne (Wd.inF hw), W2.rows j r x hw hx, rt.1 x (List.mem_of_getElem? hx), fun t H3 t0 B3 s3 => ?_⟩
      have W3 := W2.take B3 s3
      o_args
      refine ixL W3.hL (ref_at he) ?_
      obtain ⟨dx, hdx⟩ := W3.ests j e x he hx
      refine ⟨e, dx, _, rfl, hdx, rfl, ?_⟩
      o_args
      refine ⟨e, t, x, rfl, ⟨dx, hdx⟩, t0, fun H4 s4 h4 => ?_⟩
      have W4 := W3.setE he s4 h4
      o_args
      refine ixL W4.hR (ref_at hw) ?_
      o_args
      refine ⟨r, t, x, rfl, W4.rows j r x hw hx, fun H5 s5 h5 => ?_⟩
      have W5 := W4.setR hw s5 h5
      o_args
      refine ⟨fun σ H' => ∃ zs, σ = [some (.ref a), some (.ref b), some (.int (1 + tn)), some (.ref R), some (.ref L), some (.int (0 + (i : Int))), some (.int (j : Int)), some (.int t), none] ∧ Wd T.c_Estimate b R L [r0, r1, r2] es zs zs H' ∧ Right zs, ?_, ?_⟩
      · o_args
        refine brD (fun q => ?_) (fun q => ?_)
        · have j0 : j = 0 := by omega
          subst j0
          obtain ⟨f, hf⟩ := some_at (l := es) (i := 2) (by omega)
          obtain ⟨y, hy⟩ := some_at (l := xs) (i := 2) (by omega)
          have hy' : (xs.set 0 (x.next t))[2]? = some y := by rw [List.getElem?_set_ne (by decide)]; exact hy
          o_args
          refine ixL (i := 2) W5.hL (ref_at hf) ?_
          obtain ⟨dy, hdy⟩ := W5.ests 2 f y hf hy'
          refine ⟨f, dy, _, rfl, hdy, rfl, ?_⟩
          o_args
          refine ⟨f, t, y, rfl, ⟨dy, hdy⟩, t0, fun H6 s6 h6 => ?_⟩
          have W6 := W5.setE hf s6 h6
          o_args
          refine ixL (i := 2) W6.hR rfl ?_
          o_args
          refine ⟨r2, t, y, rfl, W6.rows 2 r2 y rfl hy', fun H7 s7 h7 => ?_⟩
          o_args
          exact ⟨_, rfl, W6.setR (i := 2) rfl s7 h7, rt.two hx hy t0⟩
        · have j1 : j = 1 := by omega
          subst j1
          o_args
          exact ⟨_, rfl, W5, rt.one hx t0⟩
      rintro σ H6 ⟨zs, rfl, W6, rt6⟩
      o_args
      refine ⟨b, 3, _, rfl, W6.bag, by decide, by decide, fun g H7 a7 b7 B7 s7 => ?_⟩
      have W7 := W6.take B7 s7
      o_args
      refine brD (fun q => ?_) (fun q => ?_)
      · o_args
        refine ⟨b, R, L, _, es, zs, rfl, W7, rt6, fun H8 s8 => ?_⟩
        o_args
        exact ⟨zs, _, _, _, rfl, W7.same s8, rt6⟩
      · o_args
        exact ⟨zs, _, _, _, rfl, W7, rt6⟩
    · rintro σ H1 ⟨xs, v1, v2, v3, rfl, W, rt⟩
      o_args
      exact ⟨b, R, L, _, es, xs, rfl, W, rt, fun H2 _ => k H2⟩
end
set_option maxHeartbeats 0 in
theorem all_mk {l : PySem.W.OpenLaw} {w : World} {K : PySem.W.Frag} {h : Heap} {mg : Str → Option Value} {fa : Addr} (X : K.In h) (G : h.Ns mainGlobals mg) (hfa : mg "law" = some (.ref fa))
    {c_Estimate a_is_integer a_is_between a_is_at_least a_Estimate_init_ a_Estimate_timeout p_Estimate_timeout a_Estimate_sample a_Estimate_copied a__law_whole a__law_bag a__law_take a__law_lesser a__law_greater a__law_bounds a__law_row a__law_enter a__law_wait a__law_ticks a__law_agrees a__law_share a__law_all_agree a_law : Addr}
    {od_is_integer an_is_integer od_is_between an_is_between od_is_at_least an_is_at_least od_Estimate_init_ an_Estimate_init_ od_Estimate_timeout an_Estimate_timeout od_Estimate_sample an_Estimate_sample od_Estimate_copied an_Estimate_copied od__law_whole an__law_whole od__law_bag an__law_bag od__law_take an__law_take od__law_lesser an__law_lesser od__law_greater an__law_greater od__law_bounds an__law_bounds od__law_row an__law_row od__law_enter an__law_enter od__law_wait an__law_wait od__law_ticks an__law_ticks od__law_agrees an__law_agrees od__law_share an__law_share od__law_all_agree an__law_all_agree od_law an_law : Option Addr} {sl_is_integer sl_is_between sl_is_at_least sl_Estimate_init_ sl_Estimate_timeout sl_Estimate_sample sl_Estimate_copied sl__law_whole sl__law_bag sl__law_take sl__law_lesser sl__law_greater sl__law_bounds sl__law_row sl__law_enter sl__law_wait sl__law_ticks sl__law_agrees sl__law_share sl__law_all_agree sl_law : Array (Option Value)}
    {oc_is_integer kV_is_integer dc_is_integer pm_is_integer cd_is_integer ct_is_integer oc_is_between kV_is_between dc_is_between pm_is_between cd_is_between ct_is_between oc_is_at_least kV_is_at_least dc_is_at_least pm_is_at_least cd_is_at_least ct_is_at_least oc_Estimate_init_ kV_Estimate_init_ dc_Estimate_init_ pm_Estimate_init_ cd_Estimate_init_ ct_Estimate_init_ oc_Estimate_timeout kV_Estimate_timeout dc_Estimate_timeout pm_Estimate_timeout cd_Estimate_timeout ct_Estimate_timeout oc_Estimate_sample kV_Estimate_sample dc_Estimate_sample pm_Estimate_sample cd_Estimate_sample ct_Estimate_sample oc_Estimate_copied kV_Estimate_copied dc_Estimate_copied pm_Estimate_copied cd_Estimate_copied ct_Estimate_copied oc__law_whole kV__law_whole dc__law_whole pm__law_whole cd__law_whole ct__law_whole oc__law_bag kV__law_bag dc__law_bag pm__law_bag cd__law_bag ct__law_bag oc__law_take kV__law_take dc__law_take pm__law_take cd__law_take ct__law_take oc__law_lesser kV__law_lesser dc__law_lesser pm__law_lesser cd__law_lesser ct__law_lesser oc__law_greater kV__law_greater dc__law_greater pm__law_greater cd__law_greater ct__law_greater oc__law_bounds kV__law_bounds dc__law_bounds pm__law_bounds cd__law_bounds ct__law_bounds oc__law_row kV__law_row dc__law_row pm__law_row cd__law_row ct__law_row oc__law_enter kV__law_enter dc__law_enter pm__law_enter cd__law_enter ct__law_enter oc__law_wait kV__law_wait dc__law_wait pm__law_wait cd__law_wait ct__law_wait oc__law_ticks kV__law_ticks dc__law_ticks pm__law_ticks cd__law_ticks ct__law_ticks oc__law_agrees kV__law_agrees dc__law_agrees pm__law_agrees cd__law_agrees ct__law_agrees oc__law_share kV__law_share dc__law_share pm__law_share cd__law_share ct__law_share oc__law_all_agree kV__law_all_agree dc__law_all_agree pm__law_all_agree cd__law_all_agree ct__law_all_agree oc_law kV_law dc_law pm_law cd_law ct_law : Value}
    {u_GREATEST_TIME : Value}
    {rs_Estimate_timeout : List Value}
    (aC_Estimate : PySem.W.nsIn K mainGlobals "Estimate" = some (some (.ref c_Estimate)))
    (pg_Estimate : PySem.W.plainGet K c_Estimate Str.empty = true)
    (hd_Estimate : PySem.W.hasDictIn K c_Estimate = true)
    (po_Estimate : PySem.W.plainOver K c_Estimate = true)
    (sa_Estimate : PySem.W.findIn K (.ref c_Estimate) "__setattr__" = some (some (.builtin "object.__setattr__")))
    (mk_Estimate : PySem.W.makesIn K c_Estimate = true)
    (kc_Estimate : PySem.W.keepIn K (.ref c_Estimate) = true)
    (n_Estimate_low : PySem.W.findIn K (.ref c_Estimate) "low" = some none)
    (n_Estimate_high : PySem.W.findIn K (.ref c_Estimate) "high" = some none)
    (n_Estimate_smooth : PySem.W.findIn K (.ref c_Estimate) "smooth" = some none)
    (n_Estimate_spread : PySem.W.findIn K (.ref c_Estimate) "spread" = some none)
    (n_Estimate_samples : PySem.W.findIn K (.ref c_Estimate) "samples" = some none)
    (a_is_integer' : PySem.W.nsIn K mainGlobals "is_integer" = some (some (.ref a_is_integer)))
    (l_is_integer : K.lookup a_is_integer = some ⟨oc_is_integer, od_is_integer, .func (PySem.W.fnOf "is_integer" "is_integer" (defArgs s_is_integer) (defBody s_is_integer) (defScope s_is_integer) .none kV_is_integer dc_is_integer pm_is_integer an_is_integer cd_is_integer ct_is_integer), sl_is_integer⟩)
    (e_is_integer : PySem.W.codeIn K cd_is_integer "is_integer" = true)
    (k_is_integer : PySem.W.keepIn K (.ref a_is_integer) = true)
    (a_is_between' : PySem.W.nsIn K mainGlobals "is_between" = some (some (.ref a_is_between)))
    (l_is_between : K.lookup a_is_between = some ⟨oc_is_between, od_is_between, .func (PySem.W.fnOf "is_between" "is_between" (defArgs s_is_between) (defBody s_is_between) (defScope s_is_between) .none kV_is_between dc_is_between pm_is_between an_is_between cd_is_between ct_is_between), sl_is_between⟩)
    (e_is_between : PySem.W.codeIn K cd_is_between "is_between" = true)
    (k_is_between : PySem.W.keepIn K (.ref a_is_between) = true)
    (a_is_at_least' : PySem.W.nsIn K mainGlobals "is_at_least" = some (some (.ref a_is_at_least)))
    (l_is_at_least : K.lookup a_is_at_least = some ⟨oc_is_at_least, od_is_at_least, .func (PySem.W.fnOf "is_at_least" "is_at_least" (defArgs s_is_at_least) (defBody s_is_at_least) (defScope s_is_at_least) .none kV_is_at_least dc_is_at_least pm_is_at_least an_is_at_least cd_is_at_least ct_is_at_least), sl_is_at_least⟩)
    (e_is_at_least : PySem.W.codeIn K cd_is_at_least "is_at_least" = true)
    (k_is_at_least : PySem.W.keepIn K (.ref a_is_at_least) = true)
    (a_Estimate_init_' : PySem.W.findIn K (.ref c_Estimate) "__init__" = some (some (.ref a_Estimate_init_)))
    (i_Estimate_init_ : PySem.W.isFn K (.ref a_Estimate_init_) = true)
    (l_Estimate_init_ : K.lookup a_Estimate_init_ = some ⟨oc_Estimate_init_, od_Estimate_init_, .func (PySem.W.fnOf "__init__" "Estimate.__init__" (defArgs s_Estimate_init_) (defBody s_Estimate_init_) (defScope s_Estimate_init_) .none kV_Estimate_init_ dc_Estimate_init_ pm_Estimate_init_ an_Estimate_init_ cd_Estimate_init_ ct_Estimate_init_), sl_Estimate_init_⟩)
    (e_Estimate_init_ : PySem.W.codeIn K cd_Estimate_init_ "Estimate.__init__" = true)
    (k_Estimate_init_ : PySem.W.keepIn K (.ref a_Estimate_init_) = true)
    (a_Estimate_timeout' : PySem.W.findIn K (.ref c_Estimate) "timeout" = some (some (.ref p_Estimate_timeout)))
    (pg_Estimate_timeout : PySem.W.specialIn K (.ref p_Estimate_timeout) "__get__" = some (some (.builtin "property.__get__")))
    (pt_Estimate_timeout : PySem.W.takesIn K (.ref p_Estimate_timeout) = some true)
    (rc_Estimate_timeout : PySem.W.recIn K p_Estimate_timeout "property" = some (.ref a_Estimate_timeout :: rs_Estimate_timeout))
    (l_Estimate_timeout : K.lookup a_Estimate_timeout = some ⟨oc_Estimate_timeout, od_Estimate_timeout, .func (PySem.W.fnOf "timeout" "Estimate.timeout" (defArgs s_Estimate_timeout) (defBody s_Estimate_timeout) (defScope s_Estimate_timeout) .none kV_Estimate_timeout dc_Estimate_timeout pm_Estimate_timeout an_Estimate_timeout cd_Estimate_timeout ct_Estimate_timeout), sl_Estimate_timeout⟩)
    (e_Estimate_timeout : PySem.W.codeIn K cd_Estimate_timeout "Estimate.timeout" = true)
    (k_Estimate_timeout : PySem.W.keepIn K (.ref a_Estimate_timeout) = true)
    (a_Estimate_sample' : PySem.W.findIn K (.ref c_Estimate) "sample" = some (some (.ref a_Estimate_sample)))
    (i_Estimate_sample : PySem.W.isFn K (.ref a_Estimate_sample) = true)
    (l_Estimate_sample : K.lookup a_Estimate_sample = some ⟨oc_Estimate_sample, od_Estimate_sample, .func (PySem.W.fnOf "sample" "Estimate.sample" (defArgs s_Estimate_sample) (defBody s_Estimate_sample) (defScope s_Estimate_sample) .none kV_Estimate_sample dc_Estimate_sample pm_Estimate_sample an_Estimate_sample cd_Estimate_sample ct_Estimate_sample), sl_Estimate_sample⟩)
    (e_Estimate_sample : PySem.W.codeIn K cd_Estimate_sample "Estimate.sample" = true)
    (k_Estimate_sample : PySem.W.keepIn K (.ref a_Estimate_sample) = true)
    (a_Estimate_copied' : PySem.W.findIn K (.ref c_Estimate) "copied" = some (some (.ref a_Estimate_copied)))
    (i_Estimate_copied : PySem.W.isFn K (.ref a_Estimate_copied) = true)
    (l_Estimate_copied : K.lookup a_Estimate_copied = some ⟨oc_Estimate_copied, od_Estimate_copied, .func (PySem.W.fnOf "copied" "Estimate.copied" (defArgs s_Estimate_copied) (defBody s_Estimate_copied) (defScope s_Estimate_copied) .none kV_Estimate_copied dc_Estimate_copied pm_Estimate_copied an_Estimate_copied cd_Estimate_copied ct_Estimate_copied), sl_Estimate_copied⟩)
    (e_Estimate_copied : PySem.W.codeIn K cd_Estimate_copied "Estimate.copied" = true)
    (k_Estimate_copied : PySem.W.keepIn K (.ref a_Estimate_copied) = true)
    (a__law_whole' : PySem.W.nsIn K mainGlobals "_law_whole" = some (some (.ref a__law_whole)))
    (l__law_whole : K.lookup a__law_whole = some ⟨oc__law_whole, od__law_whole, .func (PySem.W.fnOf "_law_whole" "_law_whole" (defArgs s__law_whole) (defBody s__law_whole) (defScope s__law_whole) .none kV__law_whole dc__law_whole pm__law_whole an__law_whole cd__law_whole ct__law_whole), sl__law_whole⟩)
    (e__law_whole : PySem.W.codeIn K cd__law_whole "_law_whole" = true)
    (k__law_whole : PySem.W.keepIn K (.ref a__law_whole) = true)
    (a__law_bag' : PySem.W.nsIn K mainGlobals "_law_bag" = some (some (.ref a__law_bag)))
    (l__law_bag : K.lookup a__law_bag = some ⟨oc__law_bag, od__law_bag, .func (PySem.W.fnOf "_law_bag" "_law_bag" (defArgs s__law_bag) (defBody s__law_bag) (defScope s__law_bag) .none kV__law_bag dc__law_bag pm__law_bag an__law_bag cd__law_bag ct__law_bag), sl__law_bag⟩)
    (e__law_bag : PySem.W.codeIn K cd__law_bag "_law_bag" = true)
    (k__law_bag : PySem.W.keepIn K (.ref a__law_bag) = true)
    (a__law_take' : PySem.W.nsIn K mainGlobals "_law_take" = some (some (.ref a__law_take)))
    (l__law_take : K.lookup a__law_take = some ⟨oc__law_take, od__law_take, .func (PySem.W.fnOf "_law_take" "_law_take" (defArgs s__law_take) (defBody s__law_take) (defScope s__law_take) .none kV__law_take dc__law_take pm__law_take an__law_take cd__law_take ct__law_take), sl__law_take⟩)
    (e__law_take : PySem.W.codeIn K cd__law_take "_law_take" = true)
    (k__law_take : PySem.W.keepIn K (.ref a__law_take) = true)
    (a__law_lesser' : PySem.W.nsIn K mainGlobals "_law_lesser" = some (some (.ref a__law_lesser)))
    (l__law_lesser : K.lookup a__law_lesser = some ⟨oc__law_lesser, od__law_lesser, .func (PySem.W.fnOf "_law_lesser" "_law_lesser" (defArgs s__law_lesser) (defBody s__law_lesser) (defScope s__law_lesser) .none kV__law_lesser dc__law_lesser pm__law_lesser an__law_lesser cd__law_lesser ct__law_lesser), sl__law_lesser⟩)
    (e__law_lesser : PySem.W.codeIn K cd__law_lesser "_law_lesser" = true)
    (k__law_lesser : PySem.W.keepIn K (.ref a__law_lesser) = true)
    (a__law_greater' : PySem.W.nsIn K mainGlobals "_law_greater" = some (some (.ref a__law_greater)))
    (l__law_greater : K.lookup a__law_greater = some ⟨oc__law_greater, od__law_greater, .func (PySem.W.fnOf "_law_greater" "_law_greater" (defArgs s__law_greater) (defBody s__law_greater) (defScope s__law_greater) .none kV__law_greater dc__law_greater pm__law_greater an__law_greater cd__law_greater ct__law_greater), sl__law_greater⟩)
    (e__law_greater : PySem.W.codeIn K cd__law_greater "_law_greater" = true)
    (k__law_greater : PySem.W.keepIn K (.ref a__law_greater) = true)
    (a__law_bounds' : PySem.W.nsIn K mainGlobals "_law_bounds" = some (some (.ref a__law_bounds)))
    (l__law_bounds : K.lookup a__law_bounds = some ⟨oc__law_bounds, od__law_bounds, .func (PySem.W.fnOf "_law_bounds" "_law_bounds" (defArgs s__law_bounds) (defBody s__law_bounds) (defScope s__law_bounds) .none kV__law_bounds dc__law_bounds pm__law_bounds an__law_bounds cd__law_bounds ct__law_bounds), sl__law_bounds⟩)
    (e__law_bounds : PySem.W.codeIn K cd__law_bounds "_law_bounds" = true)
    (k__law_bounds : PySem.W.keepIn K (.ref a__law_bounds) = true)
    (a__law_row' : PySem.W.nsIn K mainGlobals "_law_row" = some (some (.ref a__law_row)))
    (l__law_row : K.lookup a__law_row = some ⟨oc__law_row, od__law_row, .func (PySem.W.fnOf "_law_row" "_law_row" (defArgs s__law_row) (defBody s__law_row) (defScope s__law_row) .none kV__law_row dc__law_row pm__law_row an__law_row cd__law_row ct__law_row), sl__law_row⟩)
    (e__law_row : PySem.W.codeIn K cd__law_row "_law_row" = true)
    (k__law_row : PySem.W.keepIn K (.ref a__law_row) = true)
    (a__law_enter' : PySem.W.nsIn K mainGlobals "_law_enter" = some (some (.ref a__law_enter)))
    (l__law_enter : K.lookup a__law_enter = some ⟨oc__law_enter, od__law_enter, .func (PySem.W.fnOf "_law_enter" "_law_enter" (defArgs s__law_enter) (defBody s__law_enter) (defScope s__law_enter) .none kV__law_enter dc__law_enter pm__law_enter an__law_enter cd__law_enter ct__law_enter), sl__law_enter⟩)
    (e__law_enter : PySem.W.codeIn K cd__law_enter "_law_enter" = true)
    (k__law_enter : PySem.W.keepIn K (.ref a__law_enter) = true)
    (a__law_wait' : PySem.W.nsIn K mainGlobals "_law_wait" = some (some (.ref a__law_wait)))
    (l__law_wait : K.lookup a__law_wait = some ⟨oc__law_wait, od__law_wait, .func (PySem.W.fnOf "_law_wait" "_law_wait" (defArgs s__law_wait) (defBody s__law_wait) (defScope s__law_wait) .none kV__law_wait dc__law_wait pm__law_wait an__law_wait cd__law_wait ct__law_wait), sl__law_wait⟩)
    (e__law_wait : PySem.W.codeIn K cd__law_wait "_law_wait" = true)
    (k__law_wait : PySem.W.keepIn K (.ref a__law_wait) = true)
    (a__law_ticks' : PySem.W.nsIn K mainGlobals "_law_ticks" = some (some (.ref a__law_ticks)))
    (l__law_ticks : K.lookup a__law_ticks = some ⟨oc__law_ticks, od__law_ticks, .func (PySem.W.fnOf "_law_ticks" "_law_ticks" (defArgs s__law_ticks) (defBody s__law_ticks) (defScope s__law_ticks) .none kV__law_ticks dc__law_ticks pm__law_ticks an__law_ticks cd__law_ticks ct__law_ticks), sl__law_ticks⟩)
    (e__law_ticks : PySem.W.codeIn K cd__law_ticks "_law_ticks" = true)
    (k__law_ticks : PySem.W.keepIn K (.ref a__law_ticks) = true)
    (a__law_agrees' : PySem.W.nsIn K mainGlobals "_law_agrees" = some (some (.ref a__law_agrees)))
    (l__law_agrees : K.lookup a__law_agrees = some ⟨oc__law_agrees, od__law_agrees, .func (PySem.W.fnOf "_law_agrees" "_law_agrees" (defArgs s__law_agrees) (defBody s__law_agrees) (defScope s__law_agrees) .none kV__law_agrees dc__law_agrees pm__law_agrees an__law_agrees cd__law_agrees ct__law_agrees), sl__law_agrees⟩)
    (e__law_agrees : PySem.W.codeIn K cd__law_agrees "_law_agrees" = true)
    (k__law_agrees : PySem.W.keepIn K (.ref a__law_agrees) = true)
    (a__law_share' : PySem.W.nsIn K mainGlobals "_law_share" = some (some (.ref a__law_share)))
    (l__law_share : K.lookup a__law_share = some ⟨oc__law_share, od__law_share, .func (PySem.W.fnOf "_law_share" "_law_share" (defArgs s__law_share) (defBody s__law_share) (defScope s__law_share) .none kV__law_share dc__law_share pm__law_share an__law_share cd__law_share ct__law_share), sl__law_share⟩)
    (e__law_share : PySem.W.codeIn K cd__law_share "_law_share" = true)
    (k__law_share : PySem.W.keepIn K (.ref a__law_share) = true)
    (a__law_all_agree' : PySem.W.nsIn K mainGlobals "_law_all_agree" = some (some (.ref a__law_all_agree)))
    (l__law_all_agree : K.lookup a__law_all_agree = some ⟨oc__law_all_agree, od__law_all_agree, .func (PySem.W.fnOf "_law_all_agree" "_law_all_agree" (defArgs s__law_all_agree) (defBody s__law_all_agree) (defScope s__law_all_agree) .none kV__law_all_agree dc__law_all_agree pm__law_all_agree an__law_all_agree cd__law_all_agree ct__law_all_agree), sl__law_all_agree⟩)
    (e__law_all_agree : PySem.W.codeIn K cd__law_all_agree "_law_all_agree" = true)
    (k__law_all_agree : PySem.W.keepIn K (.ref a__law_all_agree) = true)
    (a_law' : PySem.W.nsIn K mainGlobals "law" = some (some (.ref a_law)))
    (l_law : K.lookup a_law = some ⟨oc_law, od_law, .func (PySem.W.fnOf "law" "law" (defArgs s_law) (defBody s_law) (defScope s_law) .none kV_law dc_law pm_law an_law cd_law ct_law), sl_law⟩)
    (e_law : PySem.W.codeIn K cd_law "law" = true)
    (k_law : PySem.W.keepIn K (.ref a_law) = true)
    (z_abs : PySem.W.nsIn K mainGlobals "abs" = some none)
    (z_all : PySem.W.nsIn K mainGlobals "all" = some none)
    (z_bool : PySem.W.nsIn K mainGlobals "bool" = some none)
    (z_int : PySem.W.nsIn K mainGlobals "int" = some none)
    (z_isinstance : PySem.W.nsIn K mainGlobals "isinstance" = some none)
    (z_len : PySem.W.nsIn K mainGlobals "len" = some none)
    (z_max : PySem.W.nsIn K mainGlobals "max" = some none)
    (z_min : PySem.W.nsIn K mainGlobals "min" = some none)
    (z_property : PySem.W.nsIn K mainGlobals "property" = some none)
    (z_range : PySem.W.nsIn K mainGlobals "range" = some none)
    (z_sum : PySem.W.nsIn K mainGlobals "sum" = some none)
    (q_GREATEST_TIME : PySem.W.nsIn K mainGlobals "GREATEST_TIME" = some (some u_GREATEST_TIME))
    (w_GREATEST_TIME : RelV (.int 100000) u_GREATEST_TIME)
    : ∃ fd : FuncData, (∀ (s : Shared) (v : Value), BindsTo s fd ⟨[v], []⟩ [("script", v)]) ∧ ∀ base : Heap, K.In base → base.Ns mainGlobals mg → FnOk l.prog w K mg base CX0 5 fa fd ["script"] (sp_law K) := by
  have e : fa = a_law := by
    have e0 := hfa.symm.trans (PySem.W.mg_of X G a_law')
    cases e0
    rfl
  rw [e]
  have F_is_integer := fun_mk (st := s_is_integer) l_is_integer e_is_integer k_is_integer
  have F_is_between := fun_mk (st := s_is_between) l_is_between e_is_between k_is_between
  have F_is_at_least := fun_mk (st := s_is_at_least) l_is_at_least e_is_at_least k_is_at_least
  have F_Estimate_init_ := fun_mk (st := s_Estimate_init_) l_Estimate_init_ e_Estimate_init_ k_Estimate_init_
  have F_Estimate_timeout := fun_mk (st := s_Estimate_timeout) l_Estimate_timeout e_Estimate_timeout k_Estimate_timeout
  have F_Estimate_sample := fun_mk (st := s_Estimate_sample) l_Estimate_sample e_Estimate_sample k_Estimate_sample
  have F_Estimate_copied := fun_mk (st := s_Estimate_copied) l_Estimate_copied e_Estimate_copied k_Estimate_copied
  have F__law_whole := fun_mk (st := s__law_whole) l__law_whole e__law_whole k__law_whole
  have F__law_bag := fun_mk (st := s__law_bag) l__law_bag e__law_bag k__law_bag
  have F__law_take := fun_mk (st := s__law_take) l__law_take e__law_take k__law_take
  have F__law_lesser := fun_mk (st := s__law_lesser) l__law_lesser e__law_lesser k__law_lesser
  have F__law_greater := fun_mk (st := s__law_greater) l__law_greater e__law_greater k__law_greater
  have F__law_bounds := fun_mk (st := s__law_bounds) l__law_bounds e__law_bounds k__law_bounds
  have F__law_row := fun_mk (st := s__law_row) l__law_row e__law_row k__law_row
  have F__law_enter := fun_mk (st := s__law_enter) l__law_enter e__law_enter k__law_enter
  have F__law_wait := fun_mk (st := s__law_wait) l__law_wait e__law_wait k__law_wait
  have F__law_ticks := fun_mk (st := s__law_ticks) l__law_ticks e__law_ticks k__law_ticks
  have F__law_agrees := fun_mk (st := s__law_agrees) l__law_agrees e__law_agrees k__law_agrees
  have F__law_share := fun_mk (st := s__law_share) l__law_share e__law_share k__law_share
  have F__law_all_agree := fun_mk (st := s__law_all_agree) l__law_all_agree e__law_all_agree k__law_all_agree
  have F_law := fun_mk (st := s_law) l_law e_law k_law
  let T : Txt K mg := {
    c_Estimate := c_Estimate,
    g_Estimate := PySem.W.mg_of X G aC_Estimate,
    cl_Estimate := ⟨pg_Estimate, hd_Estimate, po_Estimate, sa_Estimate⟩,
    n_Estimate_low := n_Estimate_low,
    n_Estimate_high := n_Estimate_high,
    n_Estimate_smooth := n_Estimate_smooth,
    n_Estimate_spread := n_Estimate_spread,
    n_Estimate_samples := n_Estimate_samples,
    a_is_integer := a_is_integer,
    fd_is_integer := PySem.W.fnOf "is_integer" "is_integer" (defArgs s_is_integer) (defBody s_is_integer) (defScope s_is_integer) .none kV_is_integer dc_is_integer pm_is_integer an_is_integer cd_is_integer ct_is_integer,
    F_is_integer := F_is_integer,
    B_is_integer := F_is_integer.binds (ps := ["value"]) fun _ _ _ _ _ _ us hl => match us, hl with | [_], _ => rfl,
    g_is_integer := PySem.W.mg_of X G a_is_integer',
    a_is_between := a_is_between,
    fd_is_between := PySem.W.fnOf "is_between" "is_between" (defArgs s_is_between) (defBody s_is_between) (defScope s_is_between) .none kV_is_between dc_is_between pm_is_between an_is_between cd_is_between ct_is_between,
    F_is_between := F_is_between,
    B_is_between := F_is_between.binds (ps := ["value", "low", "high"]) fun _ _ _ _ _ _ us hl => match us, hl with | [_, _, _], _ => rfl,
    g_is_between := PySem.W.mg_of X G a_is_between',
    a_is_at_least := a_is_at_least,
    fd_is_at_least := PySem.W.fnOf "is_at_least" "is_at_least" (defArgs s_is_at_least) (defBody s_is_at_least) (defScope s_is_at_least) .none kV_is_at_least dc_is_at_least pm_is_at_least an_is_at_least cd_is_at_least ct_is_at_least,
    F_is_at_least := F_is_at_least,
    B_is_at_least := F_is_at_least.binds (ps := ["value", "low"]) fun _ _ _ _ _ _ us hl => match us, hl with | [_, _], _ => rfl,
    g_is_at_least := PySem.W.mg_of X G a_is_at_least',
    a_Estimate_init_ := a_Estimate_init_,
    fd_Estimate_init_ := PySem.W.fnOf "__init__" "Estimate.__init__" (defArgs s_Estimate_init_) (defBody s_Estimate_init_) (defScope s_Estimate_init_) .none kV_Estimate_init_ dc_Estimate_init_ pm_Estimate_init_ an_Estimate_init_ cd_Estimate_init_ ct_Estimate_init_,
    F_Estimate_init_ := F_Estimate_init_,
    B_Estimate_init_ := F_Estimate_init_.binds (ps := ["self", "low", "high"]) fun _ _ _ _ _ _ us hl => match us, hl with | [_, _, _], _ => rfl,
    M_Estimate := ⟨mk_Estimate, a_Estimate_init_', i_Estimate_init_, kc_Estimate⟩,
    a_Estimate_timeout := a_Estimate_timeout,
    fd_Estimate_timeout := PySem.W.fnOf "timeout" "Estimate.timeout" (defArgs s_Estimate_timeout) (defBody s_Estimate_timeout) (defScope s_Estimate_timeout) .none kV_Estimate_timeout dc_Estimate_timeout pm_Estimate_timeout an_Estimate_timeout cd_Estimate_timeout ct_Estimate_timeout,
    F_Estimate_timeout := F_Estimate_timeout,
    B_Estimate_timeout := F_Estimate_timeout.binds (ps := ["self"]) fun _ _ _ _ _ _ us hl => match us, hl with | [_], _ => rfl,
    p_Estimate_timeout := p_Estimate_timeout,
    PR_Estimate_timeout := ⟨a_Estimate_timeout', pg_Estimate_timeout, pt_Estimate_timeout, ⟨_, rc_Estimate_timeout⟩⟩,
    a_Estimate_sample := a_Estimate_sample,
    fd_Estimate_sample := PySem.W.fnOf "sample" "Estimate.sample" (defArgs s_Estimate_sample) (defBody s_Estimate_sample) (defScope s_Estimate_sample) .none kV_Estimate_sample dc_Estimate_sample pm_Estimate_sample an_Estimate_sample cd_Estimate_sample ct_Estimate_sample,
    F_Estimate_sample := F_Estimate_sample,
    B_Estimate_sample := F_Estimate_sample.binds (ps := ["self", "ticks"]) fun _ _ _ _ _ _ us hl => match us, hl with | [_, _], _ => rfl,
    m_Estimate_sample := ⟨a_Estimate_sample', i_Estimate_sample, k_Estimate_sample⟩,
    a_Estimate_copied := a_Estimate_copied,
    fd_Estimate_copied := PySem.W.fnOf "copied" "Estimate.copied" (defArgs s_Estimate_copied) (defBody s_Estimate_copied) (defScope s_Estimate_copied) .none kV_Estimate_copied dc_Estimate_copied pm_Estimate_copied an_Estimate_copied cd_Estimate_copied ct_Estimate_copied,
    F_Estimate_copied := F_Estimate_copied,
    B_Estimate_copied := F_Estimate_copied.binds (ps := ["self"]) fun _ _ _ _ _ _ us hl => match us, hl with | [_], _ => rfl,
    m_Estimate_copied := ⟨a_Estimate_copied', i_Estimate_copied, k_Estimate_copied⟩,
    a__law_whole := a__law_whole,
    fd__law_whole := PySem.W.fnOf "_law_whole" "_law_whole" (defArgs s__law_whole) (defBody s__law_whole) (defScope s__law_whole) .none kV__law_whole dc__law_whole pm__law_whole an__law_whole cd__law_whole ct__law_whole,
    F__law_whole := F__law_whole,
    B__law_whole := F__law_whole.binds (ps := ["value"]) fun _ _ _ _ _ _ us hl => match us, hl with | [_], _ => rfl,
    g__law_whole := PySem.W.mg_of X G a__law_whole',
    a__law_bag := a__law_bag,
    fd__law_bag := PySem.W.fnOf "_law_bag" "_law_bag" (defArgs s__law_bag) (defBody s__law_bag) (defScope s__law_bag) .none kV__law_bag dc__law_bag pm__law_bag an__law_bag cd__law_bag ct__law_bag,
    F__law_bag := F__law_bag,
    B__law_bag := F__law_bag.binds (ps := ["script"]) fun _ _ _ _ _ _ us hl => match us, hl with | [_], _ => rfl,
    g__law_bag := PySem.W.mg_of X G a__law_bag',
    a__law_take := a__law_take,
    fd__law_take := PySem.W.fnOf "_law_take" "_law_take" (defArgs s__law_take) (defBody s__law_take) (defScope s__law_take) .none kV__law_take dc__law_take pm__law_take an__law_take cd__law_take ct__law_take,
    F__law_take := F__law_take,
    B__law_take := F__law_take.binds (ps := ["bag", "many"]) fun _ _ _ _ _ _ us hl => match us, hl with | [_, _], _ => rfl,
    g__law_take := PySem.W.mg_of X G a__law_take',
    a__law_lesser := a__law_lesser,
    fd__law_lesser := PySem.W.fnOf "_law_lesser" "_law_lesser" (defArgs s__law_lesser) (defBody s__law_lesser) (defScope s__law_lesser) .none kV__law_lesser dc__law_lesser pm__law_lesser an__law_lesser cd__law_lesser ct__law_lesser,
    F__law_lesser := F__law_lesser,
    B__law_lesser := F__law_lesser.binds (ps := ["one", "two"]) fun _ _ _ _ _ _ us hl => match us, hl with | [_, _], _ => rfl,
    g__law_lesser := PySem.W.mg_of X G a__law_lesser',
    a__law_greater := a__law_greater,
    fd__law_greater := PySem.W.fnOf "_law_greater" "_law_greater" (defArgs s__law_greater) (defBody s__law_greater) (defScope s__law_greater) .none kV__law_greater dc__law_greater pm__law_greater an__law_greater cd__law_greater ct__law_greater,
    F__law_greater := F__law_greater,
    B__law_greater := F__law_greater.binds (ps := ["one", "two"]) fun _ _ _ _ _ _ us hl => match us, hl with | [_, _], _ => rfl,
    g__law_greater := PySem.W.mg_of X G a__law_greater',
    a__law_bounds := a__law_bounds,
    fd__law_bounds := PySem.W.fnOf "_law_bounds" "_law_bounds" (defArgs s__law_bounds) (defBody s__law_bounds) (defScope s__law_bounds) .none kV__law_bounds dc__law_bounds pm__law_bounds an__law_bounds cd__law_bounds ct__law_bounds,
    F__law_bounds := F__law_bounds,
    B__law_bounds := F__law_bounds.binds (ps := ["bag"]) fun _ _ _ _ _ _ us hl => match us, hl with | [_], _ => rfl,
    g__law_bounds := PySem.W.mg_of X G a__law_bounds',
    a__law_row := a__law_row,
    fd__law_row := PySem.W.fnOf "_law_row" "_law_row" (defArgs s__law_row) (defBody s__law_row) (defScope s__law_row) .none kV__law_row dc__law_row pm__law_row an__law_row cd__law_row ct__law_row,
    F__law_row := F__law_row,
    B__law_row := F__law_row.binds (ps := ["pair"]) fun _ _ _ _ _ _ us hl => match us, hl with | [_], _ => rfl,
    g__law_row := PySem.W.mg_of X G a__law_row',
    a__law_enter := a__law_enter,
    fd__law_enter := PySem.W.fnOf "_law_enter" "_law_enter" (defArgs s__law_enter) (defBody s__law_enter) (defScope s__law_enter) .none kV__law_enter dc__law_enter pm__law_enter an__law_enter cd__law_enter ct__law_enter,
    F__law_enter := F__law_enter,
    B__law_enter := F__law_enter.binds (ps := ["row", "ticks"]) fun _ _ _ _ _ _ us hl => match us, hl with | [_, _], _ => rfl,
    g__law_enter := PySem.W.mg_of X G a__law_enter',
    a__law_wait := a__law_wait,
    fd__law_wait := PySem.W.fnOf "_law_wait" "_law_wait" (defArgs s__law_wait) (defBody s__law_wait) (defScope s__law_wait) .none kV__law_wait dc__law_wait pm__law_wait an__law_wait cd__law_wait ct__law_wait,
    F__law_wait := F__law_wait,
    B__law_wait := F__law_wait.binds (ps := ["row"]) fun _ _ _ _ _ _ us hl => match us, hl with | [_], _ => rfl,
    g__law_wait := PySem.W.mg_of X G a__law_wait',
    a__law_ticks := a__law_ticks,
    fd__law_ticks := PySem.W.fnOf "_law_ticks" "_law_ticks" (defArgs s__law_ticks) (defBody s__law_ticks) (defScope s__law_ticks) .none kV__law_ticks dc__law_ticks pm__law_ticks an__law_ticks cd__law_ticks ct__law_ticks,
    F__law_ticks := F__law_ticks,
    B__law_ticks := F__law_ticks.binds (ps := ["bag", "row"]) fun _ _ _ _ _ _ us hl => match us, hl with | [_, _], _ => rfl,
    g__law_ticks := PySem.W.mg_of X G a__law_ticks',
    a__law_agrees := a__law_agrees,
    fd__law_agrees := PySem.W.fnOf "_law_agrees" "_law_agrees" (defArgs s__law_agrees) (defBody s__law_agrees) (defScope s__law_agrees) .none kV__law_agrees dc__law_agrees pm__law_agrees an__law_agrees cd__law_agrees ct__law_agrees,
    F__law_agrees := F__law_agrees,
    B__law_agrees := F__law_agrees.binds (ps := ["estimate", "row"]) fun _ _ _ _ _ _ us hl => match us, hl with | [_, _], _ => rfl,
    g__law_agrees := PySem.W.mg_of X G a__law_agrees',
    a__law_share := a__law_share,
    fd__law_share := PySem.W.fnOf "_law_share" "_law_share" (defArgs s__law_share) (defBody s__law_share) (defScope s__law_share) .none kV__law_share dc__law_share pm__law_share an__law_share cd__law_share ct__law_share,
    F__law_share := F__law_share,
    B__law_share := F__law_share.binds (ps := ["narrow", "wide", "row"]) fun _ _ _ _ _ _ us hl => match us, hl with | [_, _, _], _ => rfl,
    g__law_share := PySem.W.mg_of X G a__law_share',
    a__law_all_agree := a__law_all_agree,
    fd__law_all_agree := PySem.W.fnOf "_law_all_agree" "_law_all_agree" (defArgs s__law_all_agree) (defBody s__law_all_agree) (defScope s__law_all_agree) .none kV__law_all_agree dc__law_all_agree pm__law_all_agree an__law_all_agree cd__law_all_agree ct__law_all_agree,
    F__law_all_agree := F__law_all_agree,
    B__law_all_agree := F__law_all_agree.binds (ps := ["clocks", "rows"]) fun _ _ _ _ _ _ us hl => match us, hl with | [_, _], _ => rfl,
    g__law_all_agree := PySem.W.mg_of X G a__law_all_agree',
    a_law := a_law,
    fd_law := PySem.W.fnOf "law" "law" (defArgs s_law) (defBody s_law) (defScope s_law) .none kV_law dc_law pm_law an_law cd_law ct_law,
    F_law := F_law,
    B_law := F_law.binds (ps := ["script"]) fun _ _ _ _ _ _ us hl => match us, hl with | [_], _ => rfl,
    g_law := PySem.W.mg_of X G a_law',
    b_abs := PySem.W.mg_none_of X G z_abs,
    b_all := PySem.W.mg_none_of X G z_all,
    b_bool := PySem.W.mg_none_of X G z_bool,
    b_int := PySem.W.mg_none_of X G z_int,
    b_isinstance := PySem.W.mg_none_of X G z_isinstance,
    b_len := PySem.W.mg_none_of X G z_len,
    b_max := PySem.W.mg_none_of X G z_max,
    b_min := PySem.W.mg_none_of X G z_min,
    b_property := PySem.W.mg_none_of X G z_property,
    b_range := PySem.W.mg_none_of X G z_range,
    b_sum := PySem.W.mg_none_of X G z_sum,
    u_GREATEST_TIME := u_GREATEST_TIME,
    g_GREATEST_TIME := PySem.W.mg_of X G q_GREATEST_TIME,
    r_GREATEST_TIME := w_GREATEST_TIME }
  exact ⟨T.fd_law, fun s v => .of_eq rfl, fun base _ _ => ok_law (P := l.prog) (w := w) (base := base) T⟩
theorem walk {l : PySem.W.OpenLaw} {q : Program} {loose : List Str} {XP : (Str → Option Value) → Heap → Prop} {YP : World → Heap → Prop} {d : DefRec} {K : Params → PySem.W.Frag} (hn : l.most = some 63) (hdf : d.params.defaults = [])
    (hY : ∀ (w : World) (h : Heap), YP w h → (K w.params).In h)
    (F : ∀ (w : World) (mg : Str → Option Value) (fa : Addr) (h : Heap), (K w.params).In h → h.Ns mainGlobals mg → mg d.name = some (.ref fa) →
      ∃ fd : FuncData, (∀ (s : Shared) (u : Value), BindsTo s fd ⟨[u], []⟩ [("script", u)]) ∧ ∀ base : Heap, (K w.params).In base → base.Ns mainGlobals mg → FnOk l.prog w (K w.params) mg base CX0 5 fa fd ["script"] (sp_law (K w.params))) :
    PySem.W.WalkO q loose XP YP l.row.toRowW d [] (fun f vs => PySem.call f vs) :=
  L2.walk_of (CX := fun _ => CX0) (n := 63) (k := 5) (x := "script") (sp := fun w => sp_law (K w.params)) hn (by decide) hdf ⟨rfl, by decide, by decide⟩ hY F (fun _ _ a ns hl _ hS => ⟨a, ns, rfl, hS, hl, fun _ => rfl⟩) fun _ _ _ _ _ z => z
end My

open PySem PySem.W PyProof.Rows in
set_option maxRecDepth 100000 in
set_option maxHeartbeats 0 in
theorem PySem.Challenge.cw_lossway_k15_estimate_law_holds : PySem.Challenge.rw_lossway_k15_estimate_law.Holds := by
  w_on; o_law; k_head; (case hw => w_witness2)
  k_fill
  refine My.walk (l := PySem.Challenge.rw_lossway_k15_estimate_law) rfl rfl (fun w h Y => PySem.W.kIn_of Y) ?F
  case F =>
    intro w mg fa h KX G hmg
    refine' My.all_mk KX G hmg ?aC_Estimate ?pg_Estimate ?hd_Estimate ?po_Estimate ?sa_Estimate ?mk_Estimate ?kc_Estimate ?n_Estimate_low ?n_Estimate_high ?n_Estimate_smooth ?n_Estimate_spread ?n_Estimate_samples ?a_is_integer_ ?l_is_integer ?e_is_integer ?k_is_integer ?a_is_between_ ?l_is_between ?e_is_between ?k_is_between ?a_is_at_least_ ?l_is_at_least ?e_is_at_least ?k_is_at_least ?a_Estimate_init__ ?i_Estimate_init_ ?l_Estimate_init_ ?e_Estimate_init_ ?k_Estimate_init_ ?a_Estimate_timeout_ ?pg_Estimate_timeout ?pt_Estimate_timeout ?rc_Estimate_timeout ?l_Estimate_timeout ?e_Estimate_timeout ?k_Estimate_timeout ?a_Estimate_sample_ ?i_Estimate_sample ?l_Estimate_sample ?e_Estimate_sample ?k_Estimate_sample ?a_Estimate_copied_ ?i_Estimate_copied ?l_Estimate_copied ?e_Estimate_copied ?k_Estimate_copied ?a__law_whole_ ?l__law_whole ?e__law_whole ?k__law_whole ?a__law_bag_ ?l__law_bag ?e__law_bag ?k__law_bag ?a__law_take_ ?l__law_take ?e__law_take ?k__law_take ?a__law_lesser_ ?l__law_lesser ?e__law_lesser ?k__law_lesser ?a__law_greater_ ?l__law_greater ?e__law_greater ?k__law_greater ?a__law_bounds_ ?l__law_bounds ?e__law_bounds ?k__law_bounds ?a__law_row_ ?l__law_row ?e__law_row ?k__law_row ?a__law_enter_ ?l__law_enter ?e__law_enter ?k__law_enter ?a__law_wait_ ?l__law_wait ?e__law_wait ?k__law_wait ?a__law_ticks_ ?l__law_ticks ?e__law_ticks ?k__law_ticks ?a__law_agrees_ ?l__law_agrees ?e__law_agrees ?k__law_agrees ?a__law_share_ ?l__law_share ?e__law_share ?k__law_share ?a__law_all_agree_ ?l__law_all_agree ?e__law_all_agree ?k__law_all_agree ?a_law_ ?l_law ?e_law ?k_law ?z_abs ?z_all ?z_bool ?z_int ?z_isinstance ?z_len ?z_max ?z_min ?z_property ?z_range ?z_sum ?q_GREATEST_TIME ?w_GREATEST_TIME
    (case aC_Estimate => k_is)
    (case pg_Estimate => k_is)
    (case hd_Estimate => k_is)
    (case po_Estimate => k_is)
    (case sa_Estimate => k_is)
    (case mk_Estimate => k_is)
    (case kc_Estimate => k_is)
    (case n_Estimate_low => k_is)
    (case n_Estimate_high => k_is)
    (case n_Estimate_smooth => k_is)
    (case n_Estimate_spread => k_is)
    (case n_Estimate_samples => k_is)
    (case a_is_integer_ => k_is)
    (case l_is_integer => k_is)
    (case e_is_integer => k_is)
    (case k_is_integer => k_is)
    (case a_is_between_ => k_is)
    (case l_is_between => k_is)
    (case e_is_between => k_is)
    (case k_is_between => k_is)
    (case a_is_at_least_ => k_is)
    (case l_is_at_least => k_is)
    (case e_is_at_least => k_is)
    (case k_is_at_least => k_is)
    (case a_Estimate_init__ => k_is)
    (case i_Estimate_init_ => k_is)
    (case l_Estimate_init_ => k_is)
    (case e_Estimate_init_ => k_is)
    (case k_Estimate_init_ => k_is)
    (case a_Estimate_timeout_ => k_is)
    (case pg_Estimate_timeout => k_is)
    (case pt_Estimate_timeout => k_is)
    (case rc_Estimate_timeout => k_is)
    (case l_Estimate_timeout => k_is)
    (case e_Estimate_timeout => k_is)
    (case k_Estimate_timeout => k_is)
    (case a_Estimate_sample_ => k_is)
    (case i_Estimate_sample => k_is)
    (case l_Estimate_sample => k_is)
    (case e_Estimate_sample => k_is)
    (case k_Estimate_sample => k_is)
    (case a_Estimate_copied_ => k_is)
    (case i_Estimate_copied => k_is)
    (case l_Estimate_copied => k_is)
    (case e_Estimate_copied => k_is)
    (case k_Estimate_copied => k_is)
    (case a__law_whole_ => k_is)
    (case l__law_whole => k_is)
    (case e__law_whole => k_is)
    (case k__law_whole => k_is)
    (case a__law_bag_ => k_is)
    (case l__law_bag => k_is)
    (case e__law_bag => k_is)
    (case k__law_bag => k_is)
    (case a__law_take_ => k_is)
    (case l__law_take => k_is)
    (case e__law_take => k_is)
    (case k__law_take => k_is)
    (case a__law_lesser_ => k_is)
    (case l__law_lesser => k_is)
    (case e__law_lesser => k_is)
    (case k__law_lesser => k_is)
    (case a__law_greater_ => k_is)
    (case l__law_greater => k_is)
    (case e__law_greater => k_is)
    (case k__law_greater => k_is)
    (case a__law_bounds_ => k_is)
    (case l__law_bounds => k_is)
    (case e__law_bounds => k_is)
    (case k__law_bounds => k_is)
    (case a__law_row_ => k_is)
    (case l__law_row => k_is)
    (case e__law_row => k_is)
    (case k__law_row => k_is)
    (case a__law_enter_ => k_is)
    (case l__law_enter => k_is)
    (case e__law_enter => k_is)
    (case k__law_enter => k_is)
    (case a__law_wait_ => k_is)
    (case l__law_wait => k_is)
    (case e__law_wait => k_is)
    (case k__law_wait => k_is)
    (case a__law_ticks_ => k_is)
    (case l__law_ticks => k_is)
    (case e__law_ticks => k_is)
    (case k__law_ticks => k_is)
    (case a__law_agrees_ => k_is)
    (case l__law_agrees => k_is)
    (case e__law_agrees => k_is)
    (case k__law_agrees => k_is)
    (case a__law_share_ => k_is)
    (case l__law_share => k_is)
    (case e__law_share => k_is)
    (case k__law_share => k_is)
    (case a__law_all_agree_ => k_is)
    (case l__law_all_agree => k_is)
    (case e__law_all_agree => k_is)
    (case k__law_all_agree => k_is)
    (case a_law_ => k_is)
    (case l_law => k_is)
    (case e_law => k_is)
    (case k_law => k_is)
    (case z_abs => k_is)
    (case z_all => k_is)
    (case z_bool => k_is)
    (case z_int => k_is)
    (case z_isinstance => k_is)
    (case z_len => k_is)
    (case z_max => k_is)
    (case z_min => k_is)
    (case z_property => k_is)
    (case z_range => k_is)
    (case z_sum => k_is)
    (case q_GREATEST_TIME => k_is)
    (case w_GREATEST_TIME => exact ⟨_, rfl⟩)
