import PyProof.Rows.All
import Wide.All
import OpenK.AllK
import Wide.FinOn
import HandS.ForMost
import HandS.Wide
import HandS.IsInst
import HandS.TupAny
import HandS.TupLe
import HandS.Deep
import HandS.Evl
import HandS.Steps
import HandS.Walk
import HandS.Text
import KE.GoesMore
import KE.GoesEnum
import HandS.TryMany
import HandS.ExcField
import HandS.ExcInit
import HandS.WordsExc
import PyProof.ReprRoads
import HandS.Ends
import HandS.Dict
import HandS.Defaults
import HandS.TryOnly
import PyProof.EqAt
import PyProof.EqKinds
import PyProof.NeKinds
import PyProof.TupleCall
import HandS.Base
import HandS.Call
import HandS.List
import HandS.OwnEq
import HandS.More
import HandS.Iter
import HandS.Comp
import HandS.Codes
import HandS.Property
import HandS.MakeKwOnly
import HandS.SetKeys
import KE.KRevSl
import PyProof.SliceList
import PyProof.CallStr
import PySem.Challenge.RW_stemsteps_k02_rules_and_steps
import HandS.ExcOwn
set_option Elab.async false
set_option linter.all false
set_option maxRecDepth 100000
set_option maxHeartbeats 4000000
/-! my layer: rules by kind, the heap without what changes -/
namespace L2
open PySem PySem.Spec PyProof.Rows
/-! ### rules that join the kinds -/
def rAddT : R2 := fun x y H Q => ∃ i j, x = .str i ∧ y = .str j ∧ i.length + j.length ≤ sizeLine ∧ Q (.str (i ++ j)) H
def rAddI : R2 := rI0 fun i j => .int (i + j)
def rAddA (K : PySem.W.Frag) : R2 := fun x y H Q => rAddI x y H Q ∨ rAddT x y H Q ∨ rCat x y H Q ∨ rCatA K x y H Q
def rEqA (K : PySem.W.Frag) : R2 := fun x y H Q => rEq x y H Q ∨ rEqD K x y H Q
def rNeA (K : PySem.W.Frag) : R2 := fun x y H Q => rNe x y H Q ∨ rNeD K x y H Q
def CPowW (i j : Int) : Prop := 0 ≤ j ∧ j ≤ 1000 ∧ i.natAbs < 2 ^ 4000
def rSlAny (K : PySem.W.Frag) : V → Option Int → Option Int → Hp → VK → Prop := fun x lo hi H Q => rSlS x lo hi H Q ∨ rSlL K x lo hi H Q ∨ rSlA K x lo hi H Q
theorem bits_lt {i : Int} {n : Nat} (h : i.natAbs < 2 ^ n) : Builtin.Int.intBits i ≤ n + 1 := by
  unfold Builtin.Int.intBits
  split
  · omega
  · rename_i h0
    have h1 : i.natAbs ≠ 0 := by simpa using h0
    have := (Nat.log2_lt h1).mpr h
    omega
section
variable {X : Cx}
theorem op_addA : OpR X (binaryOp .Add) (rAddA X.K) := op_add.or (op_add_str.or (op_cat.or op_catA))
theorem op_eqA (hu : X.A.units + 64 < cLine) : OpR X (compareOp .Eq) (rEqA X.K) := op_eq.or (op_eqD hu)
theorem op_neA (hu : X.A.units + 64 < cLine) : OpR X (compareOp .NotEq) (rNeA X.K) := op_ne.or (op_neD hu)
theorem op_powW : OpR X (binaryOp .Pow) (rI CPowW fun i j => .int (i ^ j.toNat)) := opI fun i j _ _ _ _ _ hc q => pow_int hc.1 (by
    have h1 := bits_lt hc.2.2
    have h2 := hc.2.1
    have h3 := hc.1
    have h4 : (Builtin.Int.intBits i : Int) ≤ 4001 := by omega
    have h5 : (Builtin.Int.intBits i : Int) * j ≤ 4001 * 1000 := Int.mul_le_mul h4 h2 h3 (by omega)
    omega) q
theorem sl_any : SlR X (rSlAny X.K) := sl_str.or (sl_list.or sl_tupA)
end
theorem hu64 {A : Around} {k : Nat} (hr : Room k A) : A.units + 64 < cLine := by have := hr.un; omega
theorem hu65 {A : Around} {k : Nat} (hr : Room k A) : A.units + 65 < cLine := by have := hr.un; omega

/-! ### the heap without the addresses S, which may change -/
def Hd (S : List Addr) (H : Hp) : Hp := fun a => if a ∈ S then none else H a
theorem hd_in {S : List Addr} {H : Hp} {a : Addr} (h : a ∈ S) : Hd S H a = none := if_pos h
theorem hd_out {S : List Addr} {H : Hp} {a : Addr} (h : a ∉ S) : Hd S H a = H a := if_neg h
def Gr (S : List Addr) (H H' : Hp) : Prop := ∀ a o, a ∉ S → H a = some o → H' a = some o
theorem Gr.refl {S : List Addr} {H : Hp} : Gr S H H := fun _ _ _ h => h
theorem Gr.trans {S : List Addr} {H H1 H2 : Hp} (a : Gr S H H1) (b : Gr S H1 H2) : Gr S H H2 := fun x o n h => b x o n (a x o n h)
theorem Gr.new {S : List Addr} {H : Hp} {p : Addr} {o : HO} (h : H p = none) : Gr S H (upd H p o) := fun a u _ e => by
  rw [upd_ne (ne_of_none e h)]
  exact e
theorem Gr.mut {S : List Addr} {H : Hp} {p : Addr} {o : HO} (h : p ∈ S) : Gr S H (upd H p o) := fun a u n e => by
  have ne : a ≠ p := fun z => n (by rw [z]; exact h)
  rw [upd_ne ne]
  exact e
theorem Gr.of {S : List Addr} {H H' : Hp} (h : Same H H') : Gr S H H' := fun a o _ e => h a o e
theorem Gr.more {S S' : List Addr} {H H' : Hp} (g : Gr S H H') (h : ∀ a ∈ S, a ∈ S') : Gr S' H H' := fun a o n e => g a o (fun z => n (h a z)) e
theorem Gr.same {H H' : Hp} (h : Gr [] H H') : Same H H' := fun a o e => h a o (by simp) e
theorem Gr.hd {S : List Addr} {H H' : Hp} (g : Gr S H H') : Same (Hd S H) (Hd S H') := fun a o e => by
  by_cases h : a ∈ S
  · rw [hd_in h] at e; cases e
  · rw [hd_out h] at e ⊢
    exact g a o h e
/-- a list that was new and has changed since -/
theorem Gr.less {S : List Addr} {H H' : Hp} {p : Addr} (g : Gr (p :: S) H H') (h : H p = none) : Gr S H H' := fun a o n e => by
  refine g a o (fun z => ?_) e
  rcases List.mem_cons.mp z with z | z
  · rw [z, h] at e; cases e
  · exact n z
theorem Gr.free {S : List Addr} {H H' : Hp} (g : Gr S H H') {p : Addr} (h : H' p = none) (n : p ∉ S) : H p = none := by
  cases q : H p with
  | none => rfl
  | some o =>
    rw [g p o n q] at h
    cases h

/-! ### data in the heap -/
section
variable {K : PySem.W.Frag} {H H' : Hp}
mutual
theorem Dp.up (e : Same H H') : ∀ {v : V} {d : PyData}, Dp K H v d → Dp K H' v d
  | _, _, .non => .non
  | _, _, .bl b => .bl b
  | _, _, .int i => .int i
  | _, _, .str x => .str x
  | _, _, .lst h a => .lst (e.seq h) (DpAll.up e a)
  | _, _, .tup h a => .tup (Evl.ex_t e h) (DpAll.up e a)
theorem DpAll.up (e : Same H H') : ∀ {vs : List V} {ds : List PyData}, DpAll K H vs ds → DpAll K H' vs ds
  | _, _, .nil => .nil
  | _, _, .cons h t => .cons (Dp.up e h) (DpAll.up e t)
end
/-- data that does not lean on S -/
def Dq (K : PySem.W.Frag) (S : List Addr) (H : Hp) (v : V) (d : PyData) : Prop := Dp K (Hd S H) v d
def DqAll (K : PySem.W.Frag) (S : List Addr) (H : Hp) (v : List V) (d : List PyData) : Prop := DpAll K (Hd S H) v d
variable {S : List Addr} {v : V} {d : PyData} {vs : List V} {ds : List PyData}
theorem Dq.up (h : Dq K S H v d) (g : Gr S H H') : Dq K S H' v d := Dp.up g.hd h
theorem DqAll.up (h : DqAll K S H vs ds) (g : Gr S H H') : DqAll K S H' vs ds := DpAll.up g.hd h
theorem hd_same (S : List Addr) (H : Hp) : Same (Hd S H) H := fun a o e => by
  by_cases h : a ∈ S
  · rw [hd_in h] at e; cases e
  · rw [hd_out h] at e; exact e
theorem Dq.dp (h : Dq K S H v d) : Dp K H v d := Dp.up (hd_same S H) h
theorem DqAll.dp (h : DqAll K S H vs ds) : DpAll K H vs ds := DpAll.up (hd_same S H) h
theorem Dq.less {S' : List Addr} (h : Dq K S H v d) (s : ∀ a ∈ S', a ∈ S) : Dq K S' H v d := Dp.up (fun a o e => by
    by_cases q : a ∈ S
    · rw [hd_in q] at e; cases e
    · rw [hd_out q] at e; rw [hd_out (fun z => q (s a z))]; exact e) h
theorem Dq.nil (h : Dp K H v d) : Dq K [] H v d := Dp.up (fun a o e => by rw [hd_out (by simp)]; exact e) h
/-- what is in S stands -/
def Live (S : List Addr) (H : Hp) : Prop := ∀ a ∈ S, H a ≠ none
theorem Live.nin (l : Live S H) {p : Addr} (h : H p = none) : p ∉ S := fun z => l p z h
theorem Dq.tup {p : Addr} (l : p ∉ S) (h : H p = some (.tup vs)) (a : DqAll K S H vs ds) : Dq K S H (.ref p) (.tuple ds) :=
  Dp.tup (.inl (.inl (by rw [hd_out l]; exact h))) a
theorem Dq.lst {p : Addr} (l : p ∉ S) (h : H p = some (.lst vs)) (a : DqAll K S H vs ds) : Dq K S H (.ref p) (.list ds) :=
  Dp.lst (.inl (.inl (by rw [hd_out l]; exact h))) a
theorem Dq.newT {p : Addr} (l : Live S H) (h : H p = none) (a : DqAll K S H vs ds) : Dq K S (upd H p (.tup vs)) (.ref p) (.tuple ds) :=
  Dq.tup (l.nin h) upd_same (a.up (Gr.new h))
theorem Dq.newL {p : Addr} (l : Live S H) (h : H p = none) (a : DqAll K S H vs ds) : Dq K S (upd H p (.lst vs)) (.ref p) (.list ds) :=
  Dq.lst (l.nin h) upd_same (a.up (Gr.new h))
theorem DqAll.nil : DqAll K S H [] [] := DpAll.nil
theorem DqAll.cons (h : Dq K S H v d) (t : DqAll K S H vs ds) : DqAll K S H (v :: vs) (d :: ds) := DpAll.cons h t
theorem Dq.str (x : Str) : Dq K S H (.str x) (.str x) := Dp.str x
theorem Dq.int (x : Int) : Dq K S H (.int x) (.int x) := Dp.int x
theorem Dq.bl (x : Bool) : Dq K S H (.bl x) (.bool x) := Dp.bl x
theorem Dq.non : Dq K S H .non .none := Dp.non
theorem Live.up (l : Live S H) (h : ∀ a o, H a = some o → ∃ o', H' a = some o') : Live S H' := fun a m z => by
  cases q : H a with
  | none => exact l a m q
  | some o => obtain ⟨o', e⟩ := h a o q; rw [e] at z; cases z
theorem DpAll.get : ∀ {vs : List V} {ds : List PyData}, DpAll K H vs ds → ∀ {i : Nat} {d : PyData}, ds[i]? = some d → ∃ v, vs[i]? = some v ∧ Dp K H v d
  | _, _, .nil, i, d, h => by simp at h
  | _, _, .cons a t, 0, d, h => by
    have e : _ = d := Option.some.inj h
    subst e
    exact ⟨_, rfl, a⟩
  | _, _, .cons a t, i + 1, d, h => DpAll.get t (i := i) h
theorem DpAll.len : ∀ {vs : List V} {ds : List PyData}, DpAll K H vs ds → vs.length = ds.length
  | _, _, .nil => rfl
  | _, _, .cons a t => congrArg (· + 1) (DpAll.len t)
theorem DpAll.append : ∀ {vs ws : List V} {ds es : List PyData}, DpAll K H vs ds → DpAll K H ws es → DpAll K H (vs ++ ws) (ds ++ es)
  | _, _, _, _, .nil, h => h
  | _, _, _, _, .cons a t, h => .cons a (DpAll.append t h)
theorem DqAll.append {ws : List V} {es : List PyData} (a : DqAll K S H vs ds) (b : DqAll K S H ws es) : DqAll K S H (vs ++ ws) (ds ++ es) := DpAll.append a b
end

/-! ### values by operators -/
def RV0 (r : R2) (x y : V) (H : Hp) (z : V) : Prop := ∀ Q : VK, Q z H → r x y H Q
section
variable {K : PySem.W.Frag} {σ : St} {H : Hp} {ta tb te : TE} {x y z v : V} {r : R2} {t : TT} {b : Bool}
theorem val_bin (ha : Val ta σ H x) (hb : Val tb σ H y) (hr : RV0 r x y H z) : Val (tOp r ta tb) σ H z := val_op ha hb hr
theorem rv_addI {i j : Int} : RV0 (rAddA K) (.int i) (.int j) H (.int (i + j)) := fun _ q => .inl ⟨i, j, rfl, rfl, q⟩
theorem rv_addS {i j : Str} (h : i.length + j.length ≤ 100000) : RV0 (rAddA K) (.str i) (.str j) H (.str (i ++ j)) := fun _ q => .inr (.inl ⟨i, j, rfl, rfl, Evl.sz_of h, q⟩)
theorem rv_I0 {g : Int → Int → V} {i j : Int} : RV0 (rI0 g) (.int i) (.int j) H (g i j) := fun _ q => ⟨i, j, rfl, rfl, q⟩
theorem rv_I {C : Int → Int → Prop} {g : Int → Int → V} {i j : Int} (hc : C i j) : RV0 (rI C g) (.int i) (.int j) H (g i j) := fun _ q => ⟨i, j, rfl, rfl, hc, q⟩
theorem rv_eq (h : scal x y = true) : RV0 (rEqA K) x y H (.bl (decide (x = y))) := fun _ q => .inl ⟨h, q⟩
theorem rv_eqD {d e : PyData} (hd : Dp K H x d) (he : Dp K H y e) (sd : SeqAt.shaped d = true) (se : SeqAt.shaped e = true) : RV0 (rEqA K) x y H (.bl (PyData.eqv d e)) := fun _ q => .inr ⟨d, e, hd, he, sd, se, q⟩
theorem rv_neD {d e : PyData} (hd : Dp K H x d) (he : Dp K H y e) (sd : SeqAt.shaped d = true) (se : SeqAt.shaped e = true) : RV0 (rNeA K) x y H (.bl (!PyData.eqv d e)) := fun _ q => .inr ⟨d, e, hd, he, sd, se, q⟩
theorem rv_ne (h : scal x y = true) : RV0 (rNeA K) x y H (.bl (!decide (x = y))) := fun _ q => .inl ⟨h, q⟩
theorem rv_ixL {p : Addr} {xs : List V} {i : Int} (h : SqL K H p xs) (ha : atI xs i = some v) : RV0 (rIx K) (.ref p) (.int i) H v := fun _ q => .inl ⟨p, xs, i, v, rfl, rfl, h, ha, q⟩
theorem rv_ixT {p : Addr} {xs : List V} {i : Int} (h : SqT K H p xs) (ha : atI xs i = some v) : RV0 (rIx K) (.ref p) (.int i) H v := fun _ q => .inr (.inl ⟨p, xs, i, v, rfl, rfl, h, ha, q⟩)
theorem rv_ixS {w : Str} {i : Int} {c : Nat} (h : w.length ≤ 100000) (ha : atI w.cps.toList i = some c) : RV0 (rIx K) (.str w) (.int i) H (.str ⟨#[c]⟩) := fun _ q => .inr (.inr ⟨w, i, c, rfl, rfl, Evl.sz_of h, ha, q⟩)
theorem ans_of (h : Val te σ H (.bl b)) : Ans (tTest te) σ H b := fun Q q => h _ ⟨b, rfl, q⟩
end
end L2
set_option Elab.async false
set_option linter.all false
set_option maxRecDepth 100000
set_option maxHeartbeats 4000000
namespace L2
open PySem PySem.Spec PyProof.Rows
/-! ### built-ins by named readings -/
def rInt1 : List V → Hp → VK → Prop := fun xs H Q => (∃ i, xs = [.int i] ∧ Q (.int i) H) ∨ ∃ k, xs = [.bl k] ∧ Q (.int (if k then 1 else 0)) H
def rMax2 : List V → Hp → VK → Prop := fun xs H Q => ∃ i j, xs = [.int i, .int j] ∧ Q (.int (if j > i then j else i)) H
def rMin2 : List V → Hp → VK → Prop := fun xs H Q => ∃ i j, xs = [.int i, .int j] ∧ Q (.int (if j < i then j else i)) H
def rLenA (K : PySem.W.Frag) : List V → Hp → VK → Prop := fun xs H Q => ∃ x n, xs = [x] ∧ LenV K x H n ∧ Q (.int n) H
def rEndsw : V → List V → Hp → VK → Prop := fun x xs H Q => ∃ a b, x = .str a ∧ xs = [.str b] ∧ Q (.bl (Txt.endswith a b)) H
def rInC : R2 := fun x y H Q => ∃ (c : Nat) (z : Str), x = .str ⟨#[c]⟩ ∧ y = .str z ∧ Q (.bl (decide (c ∈ z.cps.toList))) H
def rNotInC : R2 := fun x y H Q => ∃ (c : Nat) (z : Str), x = .str ⟨#[c]⟩ ∧ y = .str z ∧ Q (.bl (!decide (c ∈ z.cps.toList))) H
def rTupOf (K : PySem.W.Frag) : List V → Hp → VK → Prop := fun xs H Q => ∃ p ys, xs = [.ref p] ∧ ((SqL K H p ys ∧ ∀ l, H l = none → Q (.ref l) (upd H l (.tup ys))) ∨ (SqT K H p ys ∧ Q (.ref p) H))
def rLstOf (K : PySem.W.Frag) : List V → Hp → VK → Prop := fun xs H Q => ∃ p ys, xs = [.ref p] ∧ (SqL K H p ys ∨ SqT K H p ys) ∧ ∀ l, H l = none → Q (.ref l) (upd H l (.lst ys))
def rJoin (K : PySem.W.Frag) : V → List V → Hp → VK → Prop := fun x xs H Q => ∃ a p, ∃ ys : List Str, x = .str a ∧ xs = [.ref p] ∧ (SqL K H p (ys.map V.str) ∨ SqT K H p (ys.map V.str)) ∧ (ys.map (·.length)).sum + ys.length * a.length ≤ 16777216 ∧ Q (.str (Txt.join a ys)) H
def rLt : R2 := rI0 fun i j => .bl (decide (i < j))
def rLe : R2 := rI0 fun i j => .bl (decide (i ≤ j))
def rPow : R2 := rI CPowW fun i j => .int (i ^ j.toNat)
def rModP : R2 := rI (fun _ j => 0 < j) fun i j => .int (i % j)
def rDivP : R2 := rI CDivW fun i j => .int (i / j)
def rMulI : R2 := rI CMul fun i j => .int (i * j)
def rSubI : R2 := rI0 fun i j => .int (i - j)
def rIsB (n : Bool) : R2 := fun x y H Q => ∃ a b, x = .bl a ∧ y = .bl b ∧ Q (.bl (if n then !decide (a = b) else decide (a = b))) H
section
variable {X : Cx}
theorem call_intA : CallR X (.type "int") rInt1 := call_int1
theorem call_maxA (hc : X.calm = true) : CallR X (.builtin "max") rMax2 := call_max2 hc
theorem call_minA (hc : X.calm = true) : CallR X (.builtin "min") rMin2 := call_min2 hc
theorem call_lenA : CallR X (.builtin "len") (rLenA X.K) := call_len
theorem mt_endswA : MtR X "str.endswith" rEndsw := mt_endswith
theorem op_inC : OpR X (compareOp .In) rInC := op_in_sign
theorem op_notInC : OpR X (compareOp .NotIn) rNotInC := op_notIn_sign
theorem call_tupA : CallR X (.type "tuple") (rTupOf X.K) := call_tuple_of
theorem call_lstA : CallR X (.type "list") (rLstOf X.K) := call_list_of
theorem mt_joinA : MtR X "str.join" (rJoin X.K) := mt_join
theorem op_ltA : OpR X (compareOp .Lt) rLt := op_lt
theorem op_leA : OpR X (compareOp .LtE) rLe := op_le
theorem op_gtA : OpR X (compareOp .Gt) rGt := op_gt
theorem op_geA : OpR X (compareOp .GtE) rGe := op_ge
theorem op_powA : OpR X (binaryOp .Pow) rPow := op_powW
theorem op_modA : OpR X (binaryOp .Mod) rModP := op_mod
theorem op_divA : OpR X (binaryOp .FloorDiv) rDivP := op_fdivW
theorem op_mulI : OpR X (binaryOp .Mult) rMulI := op_mul
theorem op_subA : OpR X (binaryOp .Sub) rSubI := op_sub
theorem op_is_blA : OpR X (compareOp .Is) (rIsB false) := op_is_bl
theorem op_isnot_blA : OpR X (compareOp .IsNot) (rIsB true) := op_isnot_bl
end
section
variable {K : PySem.W.Frag} {σ : St} {H : Hp} {ta tb te : TE} {x y z v : V} {r : R2} {t u : TT} {b : Bool} {i j : Int} {D : Ends} {tz tu tw ts : TS}
theorem rv_lt : RV0 rLt (.int i) (.int j) H (.bl (decide (i < j))) := fun _ q => ⟨i, j, rfl, rfl, q⟩
theorem rv_le : RV0 rLe (.int i) (.int j) H (.bl (decide (i ≤ j))) := fun _ q => ⟨i, j, rfl, rfl, q⟩
theorem rv_gt : RV0 rGt (.int i) (.int j) H (.bl (decide (j < i))) := fun _ q => ⟨i, j, rfl, rfl, q⟩
theorem rv_ge : RV0 rGe (.int i) (.int j) H (.bl (decide (j ≤ i))) := fun _ q => ⟨i, j, rfl, rfl, q⟩
theorem rv_pow (h : CPowW i j) : RV0 rPow (.int i) (.int j) H (.int (i ^ j.toNat)) := fun _ q => ⟨i, j, rfl, rfl, h, q⟩
theorem rv_mod (h : 0 < j) : RV0 rModP (.int i) (.int j) H (.int (i % j)) := fun _ q => ⟨i, j, rfl, rfl, h, q⟩
theorem rv_div (h : CDivW i j) : RV0 rDivP (.int i) (.int j) H (.int (i / j)) := fun _ q => ⟨i, j, rfl, rfl, h, q⟩
theorem rv_mul (h : CMul i j) : RV0 rMulI (.int i) (.int j) H (.int (i * j)) := fun _ q => ⟨i, j, rfl, rfl, h, q⟩
theorem rv_sub : RV0 rSubI (.int i) (.int j) H (.int (i - j)) := fun _ q => ⟨i, j, rfl, rfl, q⟩
theorem rv_inC {c : Nat} {z : Str} : RV0 rInC (.str ⟨#[c]⟩) (.str z) H (.bl (decide (c ∈ z.cps.toList))) := fun _ q => ⟨c, z, rfl, rfl, q⟩
theorem rv_notInC {c : Nat} {z : Str} : RV0 rNotInC (.str ⟨#[c]⟩) (.str z) H (.bl (!decide (c ∈ z.cps.toList))) := fun _ q => ⟨c, z, rfl, rfl, q⟩
theorem rv_isB {n a b : Bool} : RV0 (rIsB n) (.bl a) (.bl b) H (.bl (if n then !decide (a = b) else decide (a = b))) := fun _ q => ⟨a, b, rfl, rfl, q⟩
theorem val_int1 (h : Val ta σ H (.int i)) : Val (tCB rInt1 (tCons ta tNil)) σ H (.int i) := fun _ q => h _ (.inl ⟨i, rfl, q⟩)
theorem val_max2 (h : Val ta σ H (.int i)) (h2 : Val tb σ H (.int j)) : Val (tCB rMax2 (tCons ta (tCons tb tNil))) σ H (.int (if j > i then j else i)) := fun _ q => h _ (h2 _ ⟨i, j, rfl, q⟩)
theorem val_min2 (h : Val ta σ H (.int i)) (h2 : Val tb σ H (.int j)) : Val (tCB rMin2 (tCons ta (tCons tb tNil))) σ H (.int (if j < i then j else i)) := fun _ q => h _ (h2 _ ⟨i, j, rfl, q⟩)
theorem val_lenS {w : Str} (h : Val ta σ H (.str w)) (l : w.length ≤ 100000) : Val (tCB (rLenA K) (tCons ta tNil)) σ H (.int (w.length : Int)) := fun _ q => h _ ⟨_, _, rfl, ⟨Evl.sz_of l, rfl⟩, q⟩
theorem val_lenL {p : Addr} {xs : List V} (h : Val ta σ H (.ref p)) (l : SqL K H p xs) : Val (tCB (rLenA K) (tCons ta tNil)) σ H (.int (xs.length : Int)) := fun _ q => h _ ⟨_, _, rfl, .inl ⟨xs, l, rfl⟩, q⟩
theorem val_lenT {p : Addr} {xs : List V} (h : Val ta σ H (.ref p)) (l : SqT K H p xs) : Val (tCB (rLenA K) (tCons ta tNil)) σ H (.int (xs.length : Int)) := fun _ q => h _ ⟨_, _, rfl, .inr ⟨xs, l, rfl⟩, q⟩
theorem val_endsw {a b : Str} (h : Val ta σ H (.str a)) (h2 : Val tb σ H (.str b)) : Val (tM1 rEndsw ta tb) σ H (.bl (Txt.endswith a b)) := fun _ q => h _ ⟨⟨_, rfl⟩, h2 _ ⟨a, b, rfl, rfl, q⟩⟩
theorem val_ifE (h : Ans t σ H b) (h1 : b = true → Val ta σ H v) (h2 : b = false → Val tb σ H v) : Val (tIf t ta tb) σ H v := fun Q q => h _ (by
  cases b with
  | true => exact h1 rfl Q q
  | false => exact h2 rfl Q q)
theorem val_andV {a c : Bool} (h : Val ta σ H (.bl a)) (h2 : a = true → Val tb σ H (.bl c)) : Val (tAndV ta tb) σ H (.bl (a && c)) := fun Q q => h _ ⟨a, rfl, by
  cases a with
  | true => exact h2 rfl Q q
  | false => exact q⟩
theorem val_orV {a c : Bool} (h : Val ta σ H (.bl a)) (h2 : a = false → Val tb σ H (.bl c)) : Val (tOrV ta tb) σ H (.bl (a || c)) := fun Q q => h _ ⟨a, rfl, by
  cases a with
  | true => exact q
  | false => exact h2 rfl Q q⟩
theorem val_notV {a : Bool} (h : Val ta σ H (.bl a)) : Val (tNotV ta) σ H (.bl (!a)) := fun _ q => h _ ⟨a, rfl, q⟩
theorem ans_B (h : Val te σ H (.bl b)) : Ans (tB te) σ H b := ans_val h
theorem ans_T (h : Val te σ H (.bl b)) : Ans (tTest te) σ H b := ans_of h
theorem ans_andA {a c : Bool} (h1 : Ans t σ H a) (h2 : a = true → Ans u σ H c) : Ans (tAnd t u) σ H (a && c) := by
  cases a with
  | true => exact ans_and h1 (h2 rfl)
  | false => exact ans_and0 h1
theorem ans_orA {a c : Bool} (h1 : Ans t σ H a) (h2 : a = false → Ans u σ H c) : Ans (tOr t u) σ H (a || c) := by
  cases a with
  | true => exact ans_or1 h1
  | false => exact ans_or h1 (h2 rfl)
/-! ### statements, the heap as it was -/
theorem q_set {i : Nat} (h : Val te σ H v) (k : tz D (σ.set i (some v)) H) : tSeq (tAsg te (gName i)) tz D σ H := h _ k
theorem q_ret (h : Val te σ H v) (k : D.rt v H) : tRet te D σ H := h _ k
theorem q_if (h : Ans t σ H b) (h1 : b = true → tu { D with nx := tz D } σ H) (h2 : b = false → tw { D with nx := tz D } σ H) : tSeq (tIfS t tu tw) tz D σ H := h _ (by
  cases b with
  | true => exact h1 rfl
  | false => exact h2 rfl)
theorem q_if1 (h : Ans t σ H b) (h1 : b = true → tu D σ H) (h2 : b = false → tw D σ H) : tIfS t tu tw D σ H := h _ (by
  cases b with
  | true => exact h1 rfl
  | false => exact h2 rfl)
theorem q_when (h : Ans t σ H b) (h1 : b = true → tu { D with nx := tz D } σ H) (h2 : b = false → tz D σ H) : tSeq (tIfS t tu tNext) tz D σ H := q_if h h1 h2
/-- xs[j] = e -/
theorem q_setL {l : Addr} {xs : List V} {j : Nat} (h : Val te σ H v) (ho : Val ta σ H (.ref l)) (hi : Val tb σ H (.int (j : Int))) (hl : H l = some (.lst xs)) (hj : j < xs.length) (k : tz D σ (upd H l (.lst (xs.set j v)))) : tSeq (tAsg te (gSub ta tb rSetL)) tz D σ H :=
  h _ (ho _ (hi _ ⟨l, xs, (j : Int), j, rfl, rfl, hl, Evl.ixN_nat hj, k⟩))
/-! ### calls -/
theorem val_args0 : ∀ Q : List V → Hp → Prop, Q [] H → tNil σ H Q := fun _ q => q
theorem c_call {sp : Sp} {dvs : List V} {E : XK} {t : TA} {vs : List V} {Q : VK} (h : ∀ R : List V → Hp → Prop, R vs H → t σ H R) (k : sp (vs ++ dvs) H Q E) : tCall sp dvs E t σ H Q := h _ k
theorem arg0 : ∀ R : List V → Hp → Prop, R [] H → tNil σ H R := fun _ q => q
theorem arg1 {tr : TA} {vs : List V} (h : Val ta σ H x) (hr : ∀ R : List V → Hp → Prop, R vs H → tr σ H R) : ∀ R : List V → Hp → Prop, R (x :: vs) H → tCons ta tr σ H R := fun R q => h _ (hr _ q)
end
end L2
set_option Elab.async false
set_option linter.all false
set_option maxRecDepth 100000
set_option maxHeartbeats 4000000
namespace L2
open PySem PySem.Spec PyProof.Rows
def newT (xs : List V) (H : Hp) (Q : VK) : Prop := xs.length ≤ sizeLine ∧ ∀ p, H p = none → Q (.ref p) (upd H p (.tup xs))
def newL (xs : List V) (H : Hp) (Q : VK) : Prop := xs.length ≤ sizeLine ∧ ∀ p, H p = none → Q (.ref p) (upd H p (.lst xs))
def isB (x : V) (H : Hp) (QB : Bool → Hp → Prop) : Prop := ∃ k, x = .bl k ∧ QB k H
section
variable {K : PySem.W.Frag} {σ : St} {H : Hp} {ta tb te : TE} {x y z v : V} {r : R2} {t tr : TA} {c u : TT} {b : Bool} {i j : Int} {D : Ends} {tz tu tw ts : TS} {Q : VK} {QA : List V → Hp → Prop} {sp : Sp} {dvs : List V} {E : XK} {rc : List V → Hp → VK → Prop}
theorem k_val (h : Val te σ H v) (k : Q v H) : te σ H Q := h Q k
theorem k_var {n : Nat} (h : σ[n]? = some (some v)) (k : Q v H) : tVar n σ H Q := ⟨v, h, k⟩
theorem k_c (k : Q v H) : tC v σ H Q := k
theorem k_not {QB : Bool → Hp → Prop} (k : c σ H fun c H1 => QB (!c) H1) : tNot c σ H QB := k
theorem k_and {QB : Bool → Hp → Prop} (k : c σ H fun c H1 => if c = true then u σ H1 QB else QB false H1) : tAnd c u σ H QB := k
theorem k_or {QB : Bool → Hp → Prop} (k : c σ H fun c H1 => if c = true then QB true H1 else u σ H1 QB) : tOr c u σ H QB := k
theorem k_max2 (k : Q (.int (if j > i then j else i)) H) : rMax2 [.int i, .int j] H Q := ⟨i, j, rfl, k⟩
theorem k_min2 (k : Q (.int (if j < i then j else i)) H) : rMin2 [.int i, .int j] H Q := ⟨i, j, rfl, k⟩
theorem k_lenS {w : Str} (l : w.length ≤ 100000) (k : Q (.int (w.length : Int)) H) : rLenA K [.str w] H Q := ⟨_, _, rfl, ⟨Evl.sz_of l, rfl⟩, k⟩
theorem k_lenL {p : Addr} {xs : List V} (l : SqL K H p xs) (k : Q (.int (xs.length : Int)) H) : rLenA K [.ref p] H Q := ⟨_, _, rfl, .inl ⟨xs, l, rfl⟩, k⟩
theorem k_lenT {p : Addr} {xs : List V} (l : SqT K H p xs) (k : Q (.int (xs.length : Int)) H) : rLenA K [.ref p] H Q := ⟨_, _, rfl, .inr ⟨xs, l, rfl⟩, k⟩
theorem k_op (k : ta σ H fun x H1 => tb σ H1 fun y H2 => r x y H2 Q) : tOp r ta tb σ H Q := k
theorem k_cb (k : t σ H fun vs H1 => rc vs H1 Q) : tCB rc t σ H Q := k
theorem k_cons (k : ta σ H fun x H1 => tr σ H1 fun xs H2 => QA (x :: xs) H2) : tCons ta tr σ H QA := k
theorem k_nil (k : QA [] H) : tNil σ H QA := k
theorem k_call (k : t σ H fun vs H1 => sp (vs ++ dvs) H1 Q E) : tCall sp dvs E t σ H Q := k
theorem k_rv (h : RV0 r x y H z) (k : Q z H) : r x y H Q := h Q k
theorem k_int1 (k : Q (.int i) H) : rInt1 [.int i] H Q := .inl ⟨i, rfl, k⟩
theorem k_tup (k : t σ H fun xs H1 => newT xs H1 Q) : tTup t σ H Q := k
theorem k_lst (k : t σ H fun xs H1 => newL xs H1 Q) : tLst t σ H Q := k
theorem k_newT {xs : List V} (hl : xs.length ≤ 100000) (k : ∀ p, H p = none → Q (.ref p) (upd H p (.tup xs))) : newT xs H Q := ⟨Evl.sz_of hl, k⟩
theorem k_newL {xs : List V} (hl : xs.length ≤ 100000) (k : ∀ p, H p = none → Q (.ref p) (upd H p (.lst xs))) : newL xs H Q := ⟨Evl.sz_of hl, k⟩
theorem k_tupOfL {p : Addr} {xs : List V} (h : SqL K H p xs) (k : ∀ l, H l = none → Q (.ref l) (upd H l (.tup xs))) : rTupOf K [.ref p] H Q := ⟨p, xs, rfl, .inl ⟨h, k⟩⟩
theorem k_ifE (k : c σ H fun b H1 => if b = true then ta σ H1 Q else tb σ H1 Q) : tIf c ta tb σ H Q := k
theorem k_test {QB : Bool → Hp → Prop} (k : te σ H fun x H' => isB x H' QB) : tTest te σ H QB := k
theorem k_tb {QB : Bool → Hp → Prop} (k : te σ H fun x H' => isB x H' QB) : tB te σ H QB := k
theorem k_bl {QB : Bool → Hp → Prop} (k : QB b H) : isB (.bl b) H QB := ⟨b, rfl, k⟩
theorem k_ans {QB : Bool → Hp → Prop} (h : Ans c σ H b) (k : QB b H) : c σ H QB := h QB k
theorem k_ite {A B : Prop} (h1 : b = true → A) (h2 : b = false → B) : if b = true then A else B := by
  cases b with
  | true => exact h1 rfl
  | false => exact h2 rfl
/-! statements -/
theorem k_seq (k : tu { D with nx := tz D } σ H) : tSeq tu tz D σ H := k
theorem k_asg {g : TG} (k : te σ H fun x H1 => g x σ H1 D.nx) : tAsg te g D σ H := k
theorem k_name {n : Nat} {Qs : St → Hp → Prop} (k : Qs (σ.set n (some v)) H) : gName n v σ H Qs := k
theorem k_ret (k : te σ H D.rt) : tRet te D σ H := k
theorem k_ifS (k : c σ H fun b H1 => if b = true then tu D σ H1 else tw D σ H1) : tIfS c tu tw D σ H := k
theorem k_drop (k : te σ H fun _ H1 => D.nx σ H1) : tDrop te D σ H := k
/-- join of a list of texts -/
theorem k_join {a : Str} {p : Addr} {ys : List Str} (h : SqL K H p (ys.map V.str)) (hl : (ys.map (·.length)).sum + ys.length * a.length ≤ 16777216) (k : Q (.str (Txt.join a ys)) H) :
    ∃ a' p', ∃ ys' : List Str, V.str a = .str a' ∧ [V.ref p] = [.ref p'] ∧ (SqL K H p' (ys'.map V.str) ∨ SqT K H p' (ys'.map V.str)) ∧ (ys'.map (·.length)).sum + ys'.length * a'.length ≤ 16777216 ∧ Q (.str (Txt.join a' ys')) H := ⟨a, p, ys, rfl, rfl, .inl h, hl, k⟩
end
end L2
set_option Elab.async false
set_option linter.all false
set_option maxRecDepth 100000
set_option maxHeartbeats 4000000
namespace L2
open PySem PySem.Spec PyProof.Rows
/-! ### walks -/
/-- the core of a comprehension, of a for -/
def lcOn (g : TG) (tt : TT) (te : TE) (vs : List Nat) (σ : St) (Q : VK) (J : It) (H1 : Hp) : Prop := ∀ D, H1 D = none → ∃ W : Nat → Nat → Hp → Prop, (∃ m, W 0 m (upd H1 D (.lst []))) ∧ ∀ i m H, W i m H →
  (J.stop i H ∧ Q (.ref D) H) ∨ (J.go i H ∧ ∃ Nx : Hp → Prop, (∀ H', Nx H' → ∃ m', m' < m ∧ W (i + 1) m' H') ∧ ∀ x H', J.yld i H x H' → g x (wipe σ vs) H' fun σ2 H2 => wipe σ2 vs = wipe σ vs ∧ tt σ2 H2 fun b H3 =>
    if b = true then te σ2 H3 fun y H4 => ∃ acc, H4 D = some (.lst acc) ∧ acc.length < sizeLine ∧ Nx (upd H4 D (.lst (acc ++ [y]))) else Nx H3)
def forOn (g : TG) (tb : TS) (D : Ends) (σ : St) (J : It) (H1 : Hp) : Prop := ∃ W : Nat → Nat → St → Hp → Prop, (∃ m, W 0 m σ H1) ∧ ∀ i m σ H, W i m σ H →
  (J.stop i H ∧ D.nx σ H) ∨ (J.go i H ∧ ∃ N : St → Hp → Prop, (∀ σ' H', N σ' H' → ∃ m', m' < m ∧ W (i + 1) m' σ' H') ∧ ∀ x H', J.yld i H x H' → g x σ H' fun σ2 H2 => tb { D with nx := N, ct := N, bk := D.nx } σ2 H2)
def onS (v : V) (H : Hp) (R : It → Hp → Prop) : Prop := ∃ x, v = .str x ∧ R (Its x) H
def onR1 (vs : List V) (H : Hp) (R : It → Hp → Prop) : Prop := ∃ j : Int, vs = [.int j] ∧ -(2 ^ 62) ≤ j ∧ j < 2 ^ 62 ∧ R (Itr 0 j.toNat) H
def onL (K : PySem.W.Frag) (v : V) (H : Hp) (R : It → Hp → Prop) : Prop := ∃ a, v = .ref a ∧ (∃ xs, SqL K H a xs) ∧ R (Itl K a) H
def onT (K : PySem.W.Frag) (v : V) (H : Hp) (R : It → Hp → Prop) : Prop := ∃ a, v = .ref a ∧ (∃ xs, SqT K H a xs) ∧ R (Itt K a) H
def addTo (D : Addr) (H : Hp) (y : V) (R : Hp → Prop) : Prop := ∃ acc, H D = some (.lst acc) ∧ acc.length < sizeLine ∧ R (upd H D (.lst (acc ++ [y])))
section
variable {K : PySem.W.Frag} {σ : St} {H : Hp} {ta te : TE} {g : TG} {tt : TT} {tb : TS} {vs : List Nat} {Q : VK} {D : Ends} {t : TA} {x : Str} {a : Addr} {xs : List V} {R : It → Hp → Prop} {j : Nat} {v : V}
theorem k_lcS (k : ta σ H fun v H1 => onS v H1 (lcOn g tt te vs σ Q)) : tLc (iStr ta) g tt te vs σ H Q := k
theorem k_lcR (k : t σ H fun v H1 => onR1 v H1 (lcOn g tt te vs σ Q)) : tLc (iRng1 t) g tt te vs σ H Q := k
theorem k_lcL (k : ta σ H fun v H1 => onL K v H1 (lcOn g tt te vs σ Q)) : tLc (iList K ta) g tt te vs σ H Q := k
theorem k_lcT (k : ta σ H fun v H1 => onT K v H1 (lcOn g tt te vs σ Q)) : tLc (iTup K ta) g tt te vs σ H Q := k
theorem k_forS (k : ta σ H fun v H1 => onS v H1 (forOn g tb D σ)) : tFor (iStr ta) g tb D σ H := k
theorem k_forR (k : t σ H fun v H1 => onR1 v H1 (forOn g tb D σ)) : tFor (iRng1 t) g tb D σ H := k
theorem k_forL (k : ta σ H fun v H1 => onL K v H1 (forOn g tb D σ)) : tFor (iList K ta) g tb D σ H := k
theorem k_forT (k : ta σ H fun v H1 => onT K v H1 (forOn g tb D σ)) : tFor (iTup K ta) g tb D σ H := k
theorem k_onS (k : R (Its x) H) : onS (.str x) H R := ⟨x, rfl, k⟩
theorem k_onR1 {n : Int} (h : -1000000 ≤ n ∧ n ≤ 1000000) (k : R (Itr 0 n.toNat) H) : onR1 [.int n] H R := ⟨n, rfl, by omega, by omega, k⟩
theorem k_onL (h : SqL K H a xs) (k : R (Itl K a) H) : onL K (.ref a) H R := ⟨a, rfl, ⟨xs, h⟩, k⟩
theorem k_onT (h : SqT K H a xs) (k : R (Itt K a) H) : onT K (.ref a) H R := ⟨a, rfl, ⟨xs, h⟩, k⟩
theorem k_add {acc : List V} {Ra : Hp → Prop} {Dl : Addr} (h : H Dl = some (.lst acc)) (hl : acc.length ≤ 100000) (k : Ra (upd H Dl (.lst (acc ++ [v])))) : addTo Dl H v Ra := ⟨acc, h, Nat.lt_of_le_of_lt hl (by decide), k⟩
theorem k_yes {QB : Bool → Hp → Prop} (k : QB true H) : tYes σ H QB := k
section
variable {J : It} {n : Nat} {G : Hp → Prop} {Y : Nat → Hp → V → Hp → Prop}
/-- a comprehension whose target is a name: Iv by the new list, the turn, the heap -/
theorem lc_go (w : Walk J n G Y) (Iv : Addr → Nat → Hp → Prop) (hw : ∀ x, wipe ((wipe σ vs).set j (some x)) vs = wipe σ vs) (h0 : ∀ D, H D = none → Iv D 0 (upd H D (.lst [])))
    (hG : ∀ D i H', i ≤ n → Iv D i H' → G H')
    (hs : ∀ D i x H1 H2, i < n → Iv D i H1 → Y i H1 x H2 → tt ((wipe σ vs).set j (some x)) H2 fun b H4 => if b = true then te ((wipe σ vs).set j (some x)) H4 fun y H5 => addTo D H5 y (Iv D (i + 1)) else Iv D (i + 1) H4)
    (hd : ∀ D H', Iv D n H' → Q (.ref D) H') : lcOn (gName j) tt te vs σ Q J H := fun D hD =>
  lc_it w (Iv D) (h0 D hD) (hG D) (fun i x H1 H2 hi p y => ⟨hw x, hs D i x H1 H2 hi p y⟩) (hd D)
theorem for_go (w : Walk J n G Y) (Pv : Nat → St → Hp → Prop) (h0 : Pv 0 σ H) (hG : ∀ i σ H, i ≤ n → Pv i σ H → G H)
    (hs : ∀ i x σ H H', i < n → Pv i σ H → Y i H x H' → g x σ H' fun σ2 H2 => tb { D with nx := Pv (i + 1), ct := Pv (i + 1), bk := D.nx } σ2 H2) (hd : ∀ σ H, Pv n σ H → D.nx σ H) : forOn g tb D σ J H := for_it w Pv h0 hG hs hd
end
end
end L2
set_option Elab.async false
set_option linter.all false
set_option maxRecDepth 100000
set_option maxHeartbeats 4000000
namespace L2
open PySem PySem.Spec PyProof.Rows
/-! ### the rules with the written part said outright (they fit within a comprehension's block too) -/
theorem B_len : bootBuiltins "len" = some (.builtin "len") := by decide +kernel
theorem B_abs : bootBuiltins "abs" = some (.builtin "abs") := by decide +kernel
theorem B_max : bootBuiltins "max" = some (.builtin "max") := by decide +kernel
theorem B_min : bootBuiltins "min" = some (.builtin "min") := by decide +kernel
theorem B_all : bootBuiltins "all" = some (.builtin "all") := by decide +kernel
theorem B_any : bootBuiltins "any" = some (.builtin "any") := by decide +kernel
theorem B_sum : bootBuiltins "sum" = some (.builtin "sum") := by decide +kernel
theorem B_isinstance : bootBuiltins "isinstance" = some (.builtin "isinstance") := by decide +kernel
theorem B_int : bootBuiltins "int" = some (.type "int") := by decide +kernel
theorem B_str : bootBuiltins "str" = some (.type "str") := by decide +kernel
theorem B_tuple : bootBuiltins "tuple" = some (.type "tuple") := by decide +kernel
theorem B_list : bootBuiltins "list" = some (.type "list") := by decide +kernel
theorem B_set : bootBuiltins "set" = some (.type "set") := by decide +kernel
theorem B_dict : bootBuiltins "dict" = some (.type "dict") := by decide +kernel
theorem B_bool : bootBuiltins "bool" = some (.type "bool") := by decide +kernel
theorem B_range : bootBuiltins "range" = some (.type "range") := by decide +kernel
theorem B_zip : bootBuiltins "zip" = some (.type "zip") := by decide +kernel
theorem B_enumerate : bootBuiltins "enumerate" = some (.type "enumerate") := by decide +kernel
section
variable {X : Cx} (K : PySem.W.Frag)
theorem addK (h : X.K = K := by rfl) : OpR X (binaryOp .Add) (rAddA K) := by subst h; exact op_addA
theorem eqK {k : Nat} (hr : Room k X.A) (h : X.K = K := by rfl) : OpR X (compareOp .Eq) (rEqA K) := by subst h; exact op_eqA (hu64 hr)
theorem neK {k : Nat} (hr : Room k X.A) (h : X.K = K := by rfl) : OpR X (compareOp .NotEq) (rNeA K) := by subst h; exact op_neA (hu64 hr)
theorem ixK (h : X.K = K := by rfl) : IxR X (rIx K) := by subst h; exact ix_seq
theorem slK (h : X.K = K := by rfl) : SlR X (rSlAny K) := by subst h; exact sl_any
theorem lenK (h : X.K = K := by rfl) : CallR X (.builtin "len") (rLenA K) := by subst h; exact call_lenA
theorem tupK (h : X.K = K := by rfl) : CallR X (.type "tuple") (rTupOf K) := by subst h; exact call_tupA
theorem lstK (h : X.K = K := by rfl) : CallR X (.type "list") (rLstOf K) := by subst h; exact call_lstA
theorem allK (hc : X.calm = true := by rfl) (h : X.K = K := by rfl) : CallR X (.builtin "all") (rAll K) := by subst h; exact cr_all hc
theorem anyK (hc : X.calm = true := by rfl) (h : X.K = K := by rfl) : CallR X (.builtin "any") (rAny K) := by subst h; exact cr_any hc
theorem sumK (hc : X.calm = true := by rfl) (h : X.K = K := by rfl) : CallR X (.builtin "sum") (rSum K) := by subst h; exact cr_sum hc
theorem isiK (h : X.K = K := by rfl) : CallR X (.builtin "isinstance") (rIsi K) := by subst h; exact call_isi
theorem joinK {o e : Expr} {to te : TE} {apos pos : Pos} (ho : PE X o to) (he : PE X e te) (h : X.K = K := by rfl) (hs : starEach [e] X.env = [(false, eval e X.env)] := by rfl) (hbase : attributeBase o "join" X.env (eval o X.env) = eval o X.env := by rfl) (hline : (apos.endLine == pos.line) = true := by rfl) :
    PE X (.Call (.Attribute o "join" apos) [e] [] pos) (tM1 (rJoin K) to te) := by subst h; exact pe_join ho he hs hbase hline
theorem appK {o e : Expr} {to te : TE} {apos cpos : Pos} (ho : PE X o to) (he : PE X e te) (h : X.K = K := by rfl) (hbase : attributeBase o "append" X.env (eval o X.env) = eval o X.env := by rfl)
    (hfew : ((backTo cpos (starEach [e] X.env)).all (fun x => !x.1) && (backToKw cpos (keywordEach [] X.env)).all (fun x => x.1.isSome)
      && decide ([e].length + ([] : List Keyword).length + (if ([] : List Keyword).isEmpty then 0 else 1) < 30)) = true := by rfl)
    (hline : (apos.endLine == cpos.line) = true := by rfl) (hs : starEach [e] X.env = (false, eval e X.env) :: starEach [] X.env := by rfl) (hplain : (backTo cpos (starEach [] X.env)).any (·.1) = false := by rfl) :
    PE X (.Call (.Attribute o "append" apos) [e] [] cpos) (tBM K "list" rAppend to (tCons te tNil)) := by
  subst h
  exact pe_bm PySem.F.plainAttrs_list PySem.F.slot_list_append PySem.F.type_list_append mt_append ho (pa_cons he pa_nil hs) hbase hfew hline hs hplain
theorem fldK {e : Expr} {f : Str} {pos : Pos} {ta : TE} (he : PE X e ta) (h : X.K = K := by rfl) (hb : attributeBase e f X.env (eval e X.env) = eval e X.env := by rfl) : PE X (.Attribute e f pos) (tFld K ta f) := by subst h; exact pe_fld he hb
theorem listK {tg l : Expr} {tl : TE} (hl : PE X l tl) (h : X.K = K := by rfl) : PI X tg l (iList K tl) := by subst h; exact pi_list hl
theorem tupIK {tg l : Expr} {tl : TE} (hl : PE X l tl) (h : X.K = K := by rfl) : PI X tg l (iTup K tl) := by subst h; exact pi_tup hl
end
def onStr (x : V) (A : Prop) : Prop := (∃ a, x = .str a) ∧ A
section
variable {K : PySem.W.Frag} {σ : St} {H : Hp} {ta tb te : TE} {Q : VK}
theorem k_m1 {r : V → List V → Hp → VK → Prop} (k : ta σ H fun x H1 => onStr x (te σ H1 fun y H2 => r x [y] H2 Q)) : tM1 r ta te σ H Q := k
theorem k_onStr {a : Str} {A : Prop} (k : A) : onStr (.str a) A := ⟨⟨a, rfl⟩, k⟩
theorem k_joinL {a : Str} {p : Addr} {ys : List Str} (h : SqL K H p (ys.map V.str)) (hl : (ys.map (·.length)).sum + ys.length * a.length ≤ 16777216) (k : Q (.str (Txt.join a ys)) H) : rJoin K (.str a) [.ref p] H Q := ⟨a, p, ys, rfl, rfl, .inl h, hl, k⟩
theorem k_endsw {a b : Str} (k : Q (.bl (Txt.endswith a b)) H) : rEndsw (.str a) [.str b] H Q := ⟨a, b, rfl, rfl, k⟩
theorem k_all {p : Addr} {bs : List Bool} (h : SqL K H p (bs.map V.bl)) (k : Q (.bl (bs.all id)) H) : rAll K [.ref p] H Q := ⟨p, bs, rfl, h, k⟩
theorem k_any {p : Addr} {bs : List Bool} (h : SqL K H p (bs.map V.bl)) (k : Q (.bl (bs.any id)) H) : rAny K [.ref p] H Q := ⟨p, bs, rfl, h, k⟩
theorem k_isi {x : V} {n : String} {t : Value} {b : Bool} (h : TyX K H x t) (e : PySem.W.kitOne K t (.type n) = some b) (k : Q (.bl b) H) : rIsi K [x, .ty n] H Q := ⟨x, .ty n, t, .type n, b, rfl, .ty n, h, e, k⟩
theorem k_slS {z : Str} {lo hi : Option Int} (h : z.length ≤ 100000) (k : Q (.str (cutS z lo hi)) H) : rSlAny K (.str z) lo hi H Q := .inl ⟨z, rfl, Evl.sz_of h, k⟩
end
end L2
set_option Elab.async false
set_option linter.all false
set_option maxRecDepth 100000
set_option maxHeartbeats 4000000
namespace L2
open PySem PySem.Spec PyProof.Rows TL
theorem at_int {α : Type} {xs : List α} {i : Int} {v : α} (h : 0 ≤ i) (e : xs[i.toNat]? = some v) : atI xs i = some v := by
  have := atI_nat (xs := xs) (j := i.toNat) e
  rw [Int.toNat_of_nonneg h] at this
  exact this
/-- the text of these code points -/
def mk (l : List Nat) : Str := ⟨l.toArray⟩
theorem tl_mk' (l : List Nat) : tl (mk l) = l := rfl
theorem mk_tl' (x : Str) : mk (tl x) = x := TL.mk_tl x
theorem len_mk (l : List Nat) : (mk l).length = l.length := by rw [len_tl, tl_mk']
theorem mk_inj {a b : List Nat} (h : mk a = mk b) : a = b := by
  have := congrArg tl h
  simpa [tl_mk'] using this
def singles (l : List Nat) : List Str := l.map fun c => (⟨#[c]⟩ : Str)
theorem singles_len (l : List Nat) : (singles l).length = l.length := by simp [singles]
theorem singles_sum (l : List Nat) : ((singles l).map (·.length)).sum = l.length := by
  induction l with
  | nil => rfl
  | cons c l ih =>
    show (⟨#[c]⟩ : Str).length + ((singles l).map (·.length)).sum = l.length + 1
    rw [ih]
    have : (⟨#[c]⟩ : Str).length = 1 := rfl
    omega
theorem joinL_nil : ∀ l : List (List Nat), joinL [] l = l.flatten
  | [] => rfl
  | [p] => by simp [joinL]
  | p :: q :: r => by
    have ih := joinL_nil (q :: r)
    show p ++ ([] ++ joinL [] (q :: r)) = _
    rw [ih]
    simp
theorem singles_flat (l : List Nat) : ((singles l).map tl).flatten = l := by
  induction l with
  | nil => rfl
  | cons c l ih =>
    show tl (⟨#[c]⟩ : Str) ++ ((singles l).map tl).flatten = c :: l
    rw [ih]
    rfl
theorem tl_empty : tl ("" : Str) = [] := by decide +kernel
theorem join_singles (l : List Nat) : Txt.join ("" : Str) (singles l) = mk l := by
  refine ext_tl ?_
  rw [join_eq, tl_join, tl_empty, joinL_nil, singles_flat]
  rfl
theorem join_cost (l : List Nat) (h : l.length ≤ 100000) : ((singles l).map (·.length)).sum + (singles l).length * ("" : Str).length ≤ 16777216 := by
  have e : ("" : Str).length = 0 := by decide +kernel
  rw [singles_sum, e]
  omega
theorem walk_rng {n : Nat} : Walk (Itr 0 n) n (fun _ => True) (fun i H x H' => H' = H ∧ x = .int (i : Nat)) :=
  walk_range.mono (fun _ h => h) (fun i H x H' _ _ y => ⟨y.1, by rw [y.2]; show V.int (0 + (i : Int)) = _; rw [Int.zero_add]⟩)
section
variable {K : PySem.W.Frag} {S : List Addr} {H : Hp}
theorem k_aug {i : Nat} {a : Int} {te : TE} {f : Int → Int → Int} {D : Ends} {σ : St} (h : σ[i]? = some (some (.int a))) (k : te σ H fun y H1 => ∃ b, y = .int b ∧ D.nx (σ.set i (some (.int (f a b)))) H1) (hm : ∀ {σ H} {Q Q' : VK}, (∀ v H, Q v H → Q' v H) → te σ H Q → te σ H Q') : tAug i te (ipI f) D σ H :=
  ⟨.int a, h, hm (fun v H1 q => by obtain ⟨b, rfl, q⟩ := q; exact ⟨a, b, rfl, rfl, q⟩) k⟩
theorem k_augC {i : Nat} {a b : Int} {f : Int → Int → Int} {D : Ends} {σ : St} (h : σ[i]? = some (some (.int a))) (k : D.nx (σ.set i (some (.int (f a b)))) H) : tAug i (tC (.int b)) (ipI f) D σ H := ⟨.int a, h, ⟨a, b, rfl, rfl, k⟩⟩
theorem DqAll.strs : ∀ ts : List Str, DqAll K S H (ts.map V.str) (ts.map PyData.str)
  | [] => .nil
  | t :: ts => .cons (Dq.str t) (DqAll.strs ts)
theorem k_addIL {i j : Int} {Q : VK} (k : Q (.int (i + j)) H) : rAddA K (.int i) (.int j) H Q := .inl ⟨i, j, rfl, rfl, k⟩
theorem k_cat {a b : Addr} {xs ys : List V} {Q : VK} (h1 : H a = some (.lst xs)) (h2 : H b = some (.lst ys)) (hl : xs.length + ys.length ≤ 100000) (k : ∀ p, H p = none → Q (.ref p) (upd H p (.lst (xs ++ ys)))) : rAddA K (.ref a) (.ref b) H Q :=
  .inr (.inr (.inl ⟨a, b, xs, ys, rfl, rfl, h1, h2, Evl.sz_of hl, k⟩))
end
end L2
set_option Elab.async false
set_option linter.all false
set_option maxRecDepth 100000
set_option maxHeartbeats 4000000
namespace L2
open PySem PySem.Spec PyProof.Rows TL
/-! ### comprehensions whose turns leave the heap but for what is new -/
theorem same_new {H : Hp} {p : Addr} {o : HO} (h : H p = none) : Same H (upd H p o) := fun a u e => by
  rw [upd_ne (ne_of_none e h)]
  exact e
theorem same_mut {H H' : Hp} {p : Addr} {o : HO} (e : Same H H') (h : H p = none) : Same H (upd H' p o) := fun a u ha => by
  rw [upd_ne (ne_of_none ha h)]
  exact e a u ha
theorem range_getD {α β : Type} (l : List α) (d : α) (F : α → β) : (List.range l.length).map (fun i => F (l.getD i d)) = l.map F := by
  refine List.ext_getElem (by simp) fun i h1 h2 => ?_
  simp only [List.getElem_map, List.getElem_range]
  have h3 : i < l.length := by simpa using h1
  rw [List.getD_eq_getElem?_getD, List.getElem?_eq_getElem h3]
  rfl
theorem range_filt {α β : Type} (l : List α) (d : α) (p : α → Bool) (F : α → β) : ((List.range l.length).filter (fun i => p (l.getD i d))).map (fun i => F (l.getD i d)) = (l.filter p).map F := by
  have e : l = (List.range l.length).map fun i => l.getD i d := by
    have := range_getD l d id
    simp only [id] at this
    rw [this]
    simp
  conv => rhs; rw [e]
  rw [List.filter_map, List.map_map]
  rfl
section
variable {K : PySem.W.Frag} {σ : St} {H : Hp} {te : TE} {tt : TT} {vs : List Nat} {Q : VK} {j : Nat} {J : It} {n : Nat} {G : Hp → Prop}
/-- te gives v, whatever new objects it makes -/
def EvS (te : TE) (σ : St) (H : Hp) (v : V) : Prop := ∀ Q : VK, (∀ H2, Same H H2 → Q v H2) → te σ H Q
theorem EvS.of (h : Val te σ H v) : EvS te σ H v := fun Q k => h Q (k H (Same.refl H))
theorem lc_filt (item : Nat → V) (w : Walk J n G (fun i H x H' => H' = H ∧ x = item i)) (g : Nat → Bool) (f : Nat → V) (hn : n ≤ 50000) (hG : ∀ H', Same H H' → G H') (hw : ∀ x, wipe ((wipe σ vs).set j (some x)) vs = wipe σ vs)
    (he : ∀ i H1, i < n → Same H H1 → ∀ QB : Bool → Hp → Prop, (∀ H2, Same H1 H2 → QB (g i) H2) → tt ((wipe σ vs).set j (some (item i))) H1 QB)
    (hf : ∀ i H1, i < n → Same H H1 → g i = true → EvS te ((wipe σ vs).set j (some (item i))) H1 (f i))
    (hd : ∀ D H', H D = none → Same H H' → H' D = some (.lst (((List.range n).filter g).map f)) → Q (.ref D) H') : lcOn (gName j) tt te vs σ Q J H := by
  refine lc_go w (fun D i H' => H D = none ∧ Same H H' ∧ H' D = some (.lst (((List.range i).filter g).map f))) hw (fun D hD => ⟨hD, same_new hD, upd_same⟩) (fun D i H' _ iv => hG H' iv.2.1) (fun D i x H1 H2 hi iv y => ?_) (fun D H' iv => hd D H' iv.1 iv.2.1 iv.2.2)
  obtain ⟨rfl, rfl⟩ := y
  obtain ⟨h1, h2, h3⟩ := iv
  refine he i _ hi h2 _ fun H3 s3 => ?_
  rw [List.range_succ, List.filter_append, List.map_append]
  cases hg : g i with
  | true =>
    rw [if_pos rfl]
    refine hf i _ hi (h2.trans s3) hg _ fun H4 s4 => ⟨_, s4 D _ (s3 D _ h3), ?_, h1, same_mut ((h2.trans s3).trans s4) h1, ?_⟩
    · rw [List.length_map]
      have := List.length_filter_le g (List.range i)
      rw [List.length_range] at this
      exact Evl.sz_lt (by omega)
    · rw [upd_same]
      simp [hg]
  | false =>
    rw [if_neg Bool.false_ne_true]
    refine ⟨h1, h2.trans s3, ?_⟩
    rw [s3 D _ h3]
    simp [hg]
theorem lc_map (item : Nat → V) (w : Walk J n G (fun i H x H' => H' = H ∧ x = item i)) (f : Nat → V) (hn : n ≤ 50000) (hG : ∀ H', Same H H' → G H') (hw : ∀ x, wipe ((wipe σ vs).set j (some x)) vs = wipe σ vs)
    (hf : ∀ i H1, i < n → Same H H1 → EvS te ((wipe σ vs).set j (some (item i))) H1 (f i))
    (hd : ∀ D H', H D = none → Same H H' → H' D = some (.lst ((List.range n).map f)) → Q (.ref D) H') : lcOn (gName j) tYes te vs σ Q J H :=
  lc_filt item w (fun _ => true) f hn hG hw (fun i H1 _ _ QB k => k H1 (Same.refl H1)) (fun i H1 hi s _ => hf i H1 hi s) (fun D H' h1 h2 h3 => hd D H' h1 h2 (by rw [h3, List.filter_eq_self.mpr (fun _ _ => rfl)]))
theorem walk_S {z : Str} : Walk (Its z) (tl z).length (fun _ => True) (fun i H x H' => H' = H ∧ x = .str ⟨#[(tl z).getD i 0]⟩) := by
  have e : (tl z).length = z.cps.size := by simp [tl]
  rw [e]
  refine walk_str.mono (fun _ h => h) (fun i H x H' hi _ y => ?_)
  obtain ⟨y1, c, hc, y2⟩ := y
  refine ⟨y1, ?_⟩
  have hc' : (tl z)[i]? = some c := by simpa [tl] using hc
  rw [y2, List.getD_eq_getElem?_getD, hc']
  rfl
theorem walk_L {a : Addr} {xs : List V} : Walk (Itl K a) xs.length (fun H => SqL K H a xs) (fun i H x H' => H' = H ∧ x = xs.getD i .non) :=
  walk_list.mono (fun _ h => h) (fun i H x H' _ _ y => ⟨y.1, by rw [List.getD_eq_getElem?_getD, y.2]; rfl⟩)
theorem walk_T {a : Addr} {xs : List V} : Walk (Itt K a) xs.length (fun H => SqT K H a xs) (fun i H x H' => H' = H ∧ x = xs.getD i .non) :=
  walk_tup.mono (fun _ h => h) (fun i H x H' _ _ y => ⟨y.1, by rw [List.getD_eq_getElem?_getD, y.2]; rfl⟩)
/-- [e for c in text] -/
theorem lc_mapS {z : Str} (F : Nat → V) (hn : z.length ≤ 50000) (hw : ∀ x, wipe ((wipe σ vs).set j (some x)) vs = wipe σ vs)
    (hf : ∀ c H1, c ∈ tl z → Same H H1 → EvS te ((wipe σ vs).set j (some (.str ⟨#[c]⟩))) H1 (F c))
    (hd : ∀ D H', H D = none → Same H H' → H' D = some (.lst ((tl z).map F)) → Q (.ref D) H') : lcOn (gName j) tYes te vs σ Q (Its z) H :=
  lc_map _ walk_S (fun i => F ((tl z).getD i 0)) (by rw [← len_tl]; exact hn) (fun _ _ => trivial) hw (fun i H1 hi s => hf _ H1 (by rw [List.getD_eq_getElem?_getD, List.getElem?_eq_getElem hi]; exact List.getElem_mem hi) s) (fun D H' h1 h2 h3 => hd D H' h1 h2 (by rw [h3, range_getD]))
theorem lc_filtS {z : Str} (g : Nat → Bool) (F : Nat → V) (hn : z.length ≤ 50000) (hw : ∀ x, wipe ((wipe σ vs).set j (some x)) vs = wipe σ vs)
    (he : ∀ c H1, c ∈ tl z → Same H H1 → ∀ QB : Bool → Hp → Prop, (∀ H2, Same H1 H2 → QB (g c) H2) → tt ((wipe σ vs).set j (some (.str ⟨#[c]⟩))) H1 QB)
    (hf : ∀ c H1, c ∈ tl z → Same H H1 → EvS te ((wipe σ vs).set j (some (.str ⟨#[c]⟩))) H1 (F c))
    (hd : ∀ D H', H D = none → Same H H' → H' D = some (.lst (((tl z).filter g).map F)) → Q (.ref D) H') : lcOn (gName j) tt te vs σ Q (Its z) H := by
  have hm : ∀ i, i < (tl z).length → (tl z).getD i 0 ∈ tl z := fun i hi => by rw [List.getD_eq_getElem?_getD, List.getElem?_eq_getElem hi]; exact List.getElem_mem hi
  exact lc_filt _ walk_S (fun i => g ((tl z).getD i 0)) (fun i => F ((tl z).getD i 0)) (by rw [← len_tl]; exact hn) (fun _ _ => trivial) hw (fun i H1 hi s => he _ H1 (hm i hi) s) (fun i H1 hi s _ => hf _ H1 (hm i hi) s) (fun D H' h1 h2 h3 => hd D H' h1 h2 (by rw [h3, range_filt]))
/-- [e for x in list], [.. in tuple] -/
theorem lc_mapL {a : Addr} {xs : List V} (F : V → V) (hx : SqL K H a xs) (hn : xs.length ≤ 50000) (hw : ∀ x, wipe ((wipe σ vs).set j (some x)) vs = wipe σ vs)
    (hf : ∀ x H1, x ∈ xs → Same H H1 → EvS te ((wipe σ vs).set j (some x)) H1 (F x))
    (hd : ∀ D H', H D = none → Same H H' → H' D = some (.lst (xs.map F)) → Q (.ref D) H') : lcOn (gName j) tYes te vs σ Q (Itl K a) H :=
  lc_map _ walk_L (fun i => F (xs.getD i .non)) hn (fun _ s => s.seq hx) hw (fun i H1 hi s => hf _ H1 (by rw [List.getD_eq_getElem?_getD, List.getElem?_eq_getElem hi]; exact List.getElem_mem hi) s) (fun D H' h1 h2 h3 => hd D H' h1 h2 (by rw [h3, range_getD]))
theorem lc_mapT {a : Addr} {xs : List V} (F : V → V) (hx : SqT K H a xs) (hn : xs.length ≤ 50000) (hw : ∀ x, wipe ((wipe σ vs).set j (some x)) vs = wipe σ vs)
    (hf : ∀ x H1, x ∈ xs → Same H H1 → EvS te ((wipe σ vs).set j (some x)) H1 (F x))
    (hd : ∀ D H', H D = none → Same H H' → H' D = some (.lst (xs.map F)) → Q (.ref D) H') : lcOn (gName j) tYes te vs σ Q (Itt K a) H :=
  lc_map _ walk_T (fun i => F (xs.getD i .non)) hn (fun _ s => Evl.ex_t s hx) hw (fun i H1 hi s => hf _ H1 (by rw [List.getD_eq_getElem?_getD, List.getElem?_eq_getElem hi]; exact List.getElem_mem hi) s) (fun D H' h1 h2 h3 => hd D H' h1 h2 (by rw [h3, range_getD]))
theorem lc_filtT {a : Addr} {xs : List V} (g : V → Bool) (F : V → V) (hx : SqT K H a xs) (hn : xs.length ≤ 50000) (hw : ∀ x, wipe ((wipe σ vs).set j (some x)) vs = wipe σ vs)
    (he : ∀ x H1, x ∈ xs → Same H H1 → ∀ QB : Bool → Hp → Prop, (∀ H2, Same H1 H2 → QB (g x) H2) → tt ((wipe σ vs).set j (some x)) H1 QB)
    (hf : ∀ x H1, x ∈ xs → Same H H1 → EvS te ((wipe σ vs).set j (some x)) H1 (F x))
    (hd : ∀ D H', H D = none → Same H H' → H' D = some (.lst ((xs.filter g).map F)) → Q (.ref D) H') : lcOn (gName j) tt te vs σ Q (Itt K a) H := by
  have hm : ∀ i, i < xs.length → xs.getD i .non ∈ xs := fun i hi => by rw [List.getD_eq_getElem?_getD, List.getElem?_eq_getElem hi]; exact List.getElem_mem hi
  exact lc_filt _ walk_T (fun i => g (xs.getD i .non)) (fun i => F (xs.getD i .non)) hn (fun _ s => Evl.ex_t s hx) hw (fun i H1 hi s => he _ H1 (hm i hi) s) (fun i H1 hi s _ => hf _ H1 (hm i hi) s) (fun D H' h1 h2 h3 => hd D H' h1 h2 (by rw [h3, range_filt]))
end
end L2
set_option Elab.async false
set_option linter.all false
set_option maxRecDepth 100000
set_option maxHeartbeats 4000000
namespace L2
open PySem PySem.Spec PyProof.Rows TL
/-! ### things of any kind, as data -/
def tyName : PyData → String
  | .none => "NoneType" | .bool _ => "bool" | .int _ => "int" | .str _ => "str" | .list _ => "list" | .tuple _ => "tuple" | .dict _ => "dict"
def Th (K : PySem.W.Frag) (H : Hp) (v : V) (d : PyData) : Prop := Dp K H v d ∨ ∃ a kvs, v = .ref a ∧ H a = some (.dK kvs) ∧ d = .dict []
def isStrD : PyData → Bool | .str _ => true | _ => false
def isTupD : PyData → Bool | .tuple _ => true | _ => false
def isIntD : PyData → Bool | .int _ => true | .bool _ => true | _ => false
def isBoolD : PyData → Bool | .bool _ => true | _ => false
def tyNames : List String := ["NoneType", "bool", "int", "str", "list", "tuple", "dict"]
theorem tyName_in (d : PyData) : tyName d ∈ tyNames := by cases d <;> simp [tyName, tyNames]
theorem kit_str_n : ∀ n ∈ tyNames, kitB n "str" = some (n == "str") := by decide +kernel
theorem kit_str (d : PyData) : kitB (tyName d) "str" = some (isStrD d) := by rw [kit_str_n _ (tyName_in d)]; cases d <;> rfl
theorem kit_tup_n : ∀ n ∈ tyNames, kitB n "tuple" = some (n == "tuple") := by decide +kernel
theorem kit_tup (d : PyData) : kitB (tyName d) "tuple" = some (isTupD d) := by rw [kit_tup_n _ (tyName_in d)]; cases d <;> rfl
theorem kit_int_n : ∀ n ∈ tyNames, kitB n "int" = some (n == "int" || n == "bool") := by decide +kernel
theorem kit_int (d : PyData) : kitB (tyName d) "int" = some (isIntD d) := by rw [kit_int_n _ (tyName_in d)]; cases d <;> rfl
theorem kit_bool_n : ∀ n ∈ tyNames, kitB n "bool" = some (n == "bool") := by decide +kernel
theorem kit_bool (d : PyData) : kitB (tyName d) "bool" = some (isBoolD d) := by rw [kit_bool_n _ (tyName_in d)]; cases d <;> rfl
def rNeg : V → Hp → VK → Prop := rU fun i => .int (-i)
section
variable {K : PySem.W.Frag} {H H' : Hp} {v : V} {d : PyData} {Q : VK} {σ : St} {ta tb te : TE} {c u : TT} {b : Bool}
theorem SqT.ty {a : Addr} {xs : List V} (h : SqT K H a xs) : TyX K H (.ref a) (.type "tuple") := by
  rcases h with (h | ⟨o, h⟩) | ⟨o, its, n, h, hc, _⟩
  · exact .base (.tup h)
  · exact .fTuple h
  · exact .kTuple h hc
theorem SqL.ty {a : Addr} {xs : List V} (h : SqL K H a xs) : TyX K H (.ref a) (.type "list") := by
  rcases h with (h | ⟨o, h⟩) | h
  · exact .base (.lst h)
  · exact .base (.frz h)
  · obtain ⟨o, its, n, h, hc, _⟩ := h
    exact .kList h hc
theorem Th.ty (h : Th K H v d) : TyX K H v (.type (tyName d)) := by
  rcases h with h | ⟨a, kvs, rfl, h, rfl⟩
  · cases h with
    | non => exact .base .non
    | bl x => exact .base (.bl x)
    | int i => exact .base (.int i)
    | str x => exact .base (.str x)
    | lst h _ => exact h.ty
    | tup h _ => exact h.ty
  · exact .base (.dK h)
theorem Th.up (h : Th K H v d) (s : Same H H') : Th K H' v d := by
  rcases h with h | ⟨a, kvs, rfl, h, rfl⟩
  · exact .inl (h.up s)
  · exact .inr ⟨a, kvs, rfl, s _ _ h, rfl⟩
theorem k_isiD {n : String} (h : Th K H v d) (e : kitB (tyName d) n = some b) (k : Q (.bl b) H) : rIsi K [v, .ty n] H Q := k_isi h.ty (kit_ty e) k
theorem k_next {D : Ends} (k : D.nx σ H) : tNext D σ H := k
theorem k_eqInt {i j : Int} (k : Q (.bl (decide (i = j))) H) : rEqA K (.int i) (.int j) H Q := .inl ⟨rfl, by rw [show decide (V.int i = V.int j) = decide (i = j) from decide_eq_decide.mpr ⟨V.int.inj, congrArg V.int⟩]; exact k⟩
theorem k_neInt {i j : Int} (k : Q (.bl (!decide (i = j))) H) : rNeA K (.int i) (.int j) H Q := .inl ⟨rfl, by rw [show decide (V.int i = V.int j) = decide (i = j) from decide_eq_decide.mpr ⟨V.int.inj, congrArg V.int⟩]; exact k⟩
theorem k_eqStr {i j : Str} (k : Q (.bl (decide (i = j))) H) : rEqA K (.str i) (.str j) H Q := .inl ⟨rfl, by rw [show decide (V.str i = V.str j) = decide (i = j) from decide_eq_decide.mpr ⟨V.str.inj, congrArg V.str⟩]; exact k⟩
theorem k_neStr {i j : Str} (k : Q (.bl (!decide (i = j))) H) : rNeA K (.str i) (.str j) H Q := .inl ⟨rfl, by rw [show decide (V.str i = V.str j) = decide (i = j) from decide_eq_decide.mpr ⟨V.str.inj, congrArg V.str⟩]; exact k⟩
theorem k_un {r : V → Hp → VK → Prop} (k : ta σ H fun x H1 => r x H1 Q) : tUn r ta σ H Q := k
theorem k_neg {i : Int} (k : Q (.int (-i)) H) : rNeg (.int i) H Q := ⟨i, rfl, k⟩
theorem k_andV (k : ta σ H fun x H1 => isB x H1 fun c H2 => if c = true then tb σ H2 Q else Q (.bl false) H2) : tAndV ta tb σ H Q := k
theorem k_orV (k : ta σ H fun x H1 => isB x H1 fun c H2 => if c = true then Q (.bl true) H2 else tb σ H2 Q) : tOrV ta tb σ H Q := k
theorem k_notV (k : ta σ H fun x H1 => isB x H1 fun c H2 => Q (.bl (!c)) H2) : tNotV ta σ H Q := k
theorem k_iteB {A B : Prop} (h : if b then A else B) : if b = true then A else B := h
/-- x in a written tuple of data -/
def rInT (K : PySem.W.Frag) : R2 := fun x y H Q => ∃ d ds, Dp K H x d ∧ Dp K H y (.tuple ds) ∧ SeqAt.shaped d = true ∧ SeqAt.shaped (.tuple ds) = true ∧ Q (.bl (ds.any fun z => PyData.eqv z d)) H
theorem rv_inTD {d : PyData} {ds : List PyData} {x y : V} (h1 : Dp K H x d) (h2 : Dp K H y (.tuple ds)) (s1 : SeqAt.shaped d = true) (s2 : SeqAt.shaped (.tuple ds) = true) : RV0 (rInT K) x y H (.bl (ds.any fun z => PyData.eqv z d)) := fun _ q => ⟨d, ds, h1, h2, s1, s2, q⟩
/-- a, b = a tuple -/
theorem k_unp2 {a : Addr} {x y : V} {i j : Nat} {Qs : St → Hp → Prop} (h : SqT K H a [x, y]) (k : Qs ((σ.set i (some x)).set j (some y)) H) : gTup K 2 (gCons (gName i) (gCons (gName j) gNil)) (.ref a) σ H Qs :=
  ⟨a, [x, y], rfl, h, rfl, x, [y], rfl, y, [], rfl, rfl, k⟩
/-! comprehensions over data -/
theorem DpAll.getD {vs : List V} {ds : List PyData} (h : DpAll K H vs ds) {i : Nat} (hi : i < ds.length) : Dp K H (vs.getD i .non) (ds.getD i .none) := by
  obtain ⟨v, hv, hd⟩ := DpAll.get h (i := i) (d := ds.getD i .none) (by rw [List.getD_eq_getElem?_getD, List.getElem?_eq_getElem hi]; rfl)
  rw [List.getD_eq_getElem?_getD, hv]
  exact hd
theorem getD_mem {α : Type} {l : List α} {i : Nat} {d : α} (h : i < l.length) : l.getD i d ∈ l := by
  rw [List.getD_eq_getElem?_getD, List.getElem?_eq_getElem h]
  exact List.getElem_mem h
theorem lc_mapTD {te : TE} {vs : List Nat} {j : Nat} {a : Addr} {xs : List V} {ds : List PyData} (F : PyData → V) (hx : SqT K H a xs) (ha : DpAll K H xs ds) (hn : ds.length ≤ 50000) (hw : ∀ x, wipe ((wipe σ vs).set j (some x)) vs = wipe σ vs)
    (hf : ∀ v d H1, d ∈ ds → Dp K H1 v d → Same H H1 → EvS te ((wipe σ vs).set j (some v)) H1 (F d))
    (hd : ∀ D H', H D = none → Same H H' → H' D = some (.lst (ds.map F)) → Q (.ref D) H') : lcOn (gName j) tYes te vs σ Q (Itt K a) H := by
  have hl := DpAll.len ha
  refine lc_map _ walk_T (fun i => F (ds.getD i .none)) (by omega) (fun _ s => Evl.ex_t s hx) hw (fun i H1 hi s => hf _ _ H1 (getD_mem (by omega)) ((ha.getD (by omega)).up s) s) (fun D H' h1 h2 h3 => hd D H' h1 h2 (by rw [h3, hl, range_getD]))
theorem lc_mapLD {te : TE} {vs : List Nat} {j : Nat} {a : Addr} {xs : List V} {ds : List PyData} (F : PyData → V) (hx : SqL K H a xs) (ha : DpAll K H xs ds) (hn : ds.length ≤ 50000) (hw : ∀ x, wipe ((wipe σ vs).set j (some x)) vs = wipe σ vs)
    (hf : ∀ v d H1, d ∈ ds → Dp K H1 v d → Same H H1 → EvS te ((wipe σ vs).set j (some v)) H1 (F d))
    (hd : ∀ D H', H D = none → Same H H' → H' D = some (.lst (ds.map F)) → Q (.ref D) H') : lcOn (gName j) tYes te vs σ Q (Itl K a) H := by
  have hl := DpAll.len ha
  refine lc_map _ walk_L (fun i => F (ds.getD i .none)) (by omega) (fun _ s => s.seq hx) hw (fun i H1 hi s => hf _ _ H1 (getD_mem (by omega)) ((ha.getD (by omega)).up s) s) (fun D H' h1 h2 h3 => hd D H' h1 h2 (by rw [h3, hl, range_getD]))
/-! shapes -/
theorem shaped_cons {d : PyData} {ds : List PyData} (h : SeqAt.shaped (.tuple (d :: ds)) = true) : SeqAt.shaped d = true ∧ SeqAt.shaped (.tuple ds) = true := by
  have h1 := SeqAt.canLay_of_shaped h
  have h2 := SeqAt.depth_of_shaped h
  have h3 : (d.canLay0 && PyData.canLayAll0 ds) = true := h1
  have h4 : max d.depth (PyData.depthAll ds) + 1 ≤ 64 := h2
  rw [Bool.and_eq_true] at h3
  refine ⟨?_, ?_⟩
  · unfold SeqAt.shaped
    rw [h3.1, Bool.true_and, decide_eq_true_eq]
    omega
  · unfold SeqAt.shaped
    show (PyData.canLayAll0 ds && decide (PyData.depthAll ds + 1 ≤ 64)) = true
    rw [h3.2, Bool.true_and, decide_eq_true_eq]
    omega
end
section
variable {X : Cx} (K : PySem.W.Frag)
theorem un_negA : UnR X (unaryOp .USub) rNeg := un_neg
theorem inTK {k : Nat} (hr : Room k X.A) (h : X.K = K := by rfl) : OpR X (compareOp .In) (rInT K) := by
  subst h
  intro pins s σ H x y v u Q I rx ry h
  obtain ⟨d, ds, hd, he, sd, se, q⟩ := h
  obtain ⟨as, r1⟩ := Dp.reads I d x v hd rx
  obtain ⟨bs, r2⟩ := Dp.reads I (.tuple ds) y u he ry
  exact SeqAt.in_tuple_reads r2 r1 (SeqAt.canLay_of_shaped se) (SeqAt.canLay_of_shaped sd) (room_in_shaped sd (hu65 hr)) ⟨.bl _, H, I, rfl, q⟩
theorem tupleK {es : List Expr} {k : Nat} {t : TGs} {n : Nat} {pos : Pos} (hc : X.calm = true) (h : PGs X es t) (hK : X.K = K := by rfl)
    (hn : (assignEach es X.env).length = n := by rfl) (hst : (assignEach es X.env).findIdx? (·.1) = none := by rfl) : PG X (.Tuple es k pos) (gTup K n t) := by subst hK; exact pg_tup hc h hn hst
end
end L2
set_option Elab.async false
set_option linter.all false
/-! The mirror: conditions over texts (lists of code points), in plain Lean. -/
namespace Mi
open PySem L2 TL
/-- a condition of another kind than not -/
inductive C0 where
  | vowel | runs (m : Int) | ends (ts : List Str) | double | least (k : Int) | shape (s : Str)
inductive Cond where
  | pos (c : C0) | neg (c : C0)
def runs (vs : List Nat) : List Nat → Nat
  | a :: b :: r => (if a ∈ vs ∧ b ∉ vs then 1 else 0) + runs vs (b :: r)
  | _ => 0
def kinds (vs : List Nat) (r : List Nat) : List Nat := r.map fun c => if c ∈ vs then 118 else 111
def suff (e r : List Nat) : Bool := decide (e.length ≤ r.length) && decide (r.drop (r.length - e.length) = e)
def dbl (vs : List Nat) (r : List Nat) : Bool :=
  match r.reverse with
  | a :: b :: _ => decide (a = b) && decide (a ∉ vs)
  | _ => false
def met0 (vs : List Nat) (r : List Nat) : C0 → Bool
  | .vowel => r.any fun c => decide (c ∈ vs)
  | .runs m => decide (m ≤ (runs vs r : Int))
  | .ends ts => ts.any fun t => suff (tl t) r
  | .double => dbl vs r
  | .least k => decide (k ≤ (r.length : Int))
  | .shape s => suff (tl s) (kinds vs r)
def met (vs : List Nat) (r : List Nat) : Cond → Bool
  | .pos c => met0 vs r c
  | .neg c => !met0 vs r c
/-! ### as data -/
def enc0 : C0 → PyData
  | .vowel => .tuple [.str "vowel"]
  | .runs m => .tuple [.str "runs", .int m]
  | .ends ts => .tuple [.str "ends", .tuple (ts.map .str)]
  | .double => .tuple [.str "double"]
  | .least k => .tuple [.str "least", .int k]
  | .shape s => .tuple [.str "shape", .str s]
def enc : Cond → PyData
  | .pos c => enc0 c
  | .neg c => .tuple [.str "not", enc0 c]
/-- what makes it a condition -/
def ok0 : C0 → Prop
  | .runs m => 0 ≤ m
  | .least k => 0 ≤ k
  | .shape s => ∀ c ∈ tl s, c = 118 ∨ c = 111
  | _ => True
def okc : Cond → Prop
  | .pos c => ok0 c
  | .neg c => ok0 c

/-! ### lemmas -/
theorem runs_step (vs : List Nat) : ∀ (r : List Nat) (i : Nat), i + 1 < r.length →
    runs vs (r.take (i + 2)) = runs vs (r.take (i + 1)) + (if r.getD i 0 ∈ vs ∧ r.getD (i + 1) 0 ∉ vs then 1 else 0)
  | [], i, h => by simp at h
  | [_], i, h => by simp at h
  | a :: b :: r, 0, h => by simp [runs]
  | a :: b :: r, i + 1, h => by
    have ih := runs_step vs (b :: r) i (by simpa using h)
    have e1 : (a :: b :: r).take (i + 1 + 2) = a :: (b :: r).take (i + 2) := rfl
    have e2 : (a :: b :: r).take (i + 1 + 1) = a :: (b :: r).take (i + 1) := rfl
    have e3 : (b :: r).take (i + 2) = b :: r.take (i + 1) := rfl
    have e4 : (b :: r).take (i + 1) = b :: r.take i := rfl
    rw [e1, e2, e3, e4]
    simp only [runs]
    rw [e3, e4] at ih
    simp only [List.getD_cons_succ] at ih ⊢
    omega
theorem runs_zero (vs : List Nat) (r : List Nat) : runs vs (r.take 1) = 0 := by
  cases r with
  | nil => rfl
  | cons a r => rfl
theorem kinds_length (vs r : List Nat) : (kinds vs r).length = r.length := by simp [kinds]
theorem suff_nil (r : List Nat) : suff [] r = true := by simp [suff]
end Mi
set_option Elab.async false
set_option linter.all false
/-! what is a condition, over data -/
namespace Mi
open PySem L2 TL
def isNum : PyData → Bool
  | .int i => decide (0 ≤ i)
  | _ => false
def isTextOf (d : PyData) (y : Str) : Bool := match d with
  | .str x => (tl x).all fun c => decide (c ∈ tl y)
  | _ => false
def isTexts : PyData → Bool
  | .tuple ts => ts.all isStrD
  | _ => false
def inT (ws : List Str) (d : PyData) : Bool := (ws.map PyData.str).any fun z => PyData.eqv z d
def isPl : PyData → Bool
  | .tuple [a] => inT ["vowel", "double"] a
  | .tuple [k, v] => if inT ["runs", "least"] k then isNum v else if PyData.eqv k (.str "ends") then isTexts v else PyData.eqv k (.str "shape") && isTextOf v "vo"
  | _ => false
def isCd : PyData → Bool
  | .tuple [a, b] => if PyData.eqv a (.str "not") then isPl b else isPl (.tuple [a, b])
  | d => isPl d
/-- texts within are not too long -/
def szd : PyData → Prop
  | .str x => x.length ≤ 50000
  | .tuple ds => ds.length ≤ 50000
  | _ => True
end Mi
set_option Elab.async false
set_option linter.all false
set_option maxRecDepth 100000
set_option maxHeartbeats 4000000
namespace L2
open PySem PySem.Spec PyProof.Rows TL
/-! ### zip of two texts -/
def ItzS (x y : Str) : It :=
  ⟨fun i _ => i < min x.cps.size y.cps.size, fun i H v H' => ∃ (T : Addr) (c d : Nat), v = .ref T ∧ H T = none ∧ H' = upd H T (.tup [.str ⟨#[c]⟩, .str ⟨#[d]⟩]) ∧ x.cps[i]? = some c ∧ y.cps[i]? = some d, fun i _ => i = min x.cps.size y.cps.size⟩
def zsSt (x y : Str) (tx ty : Tok) (z TI TO i1 i2 : Addr) (i : Nat) (h : Heap) : Prop :=
  IsZip h z TI TO .none ∧ IsTupOf2 h TI (.ref i1) (.ref i2) ∧ (∃ a1 a2, IsTupOf2 h TO a1 a2) ∧ h.IsStrIter i1 (strIterType x) x tx i ∧ h.IsStrIter i2 (strIterType y) y ty i
theorem turn_zipS {P : Program} {w : World} {K : PySem.W.Frag} {elts : List Expr} {kk : Nat} {tpos : Pos} {z TI TO i1 i2 : Addr} (x y : Str) (tx ty : Tok) (D : ZipSep2 z TI TO i1 i2 [i1] [i2]) :
    Turn P w K (.Tuple elts kk tpos) (ItzS x y) [z, TI, TO, i1, i2] z (zsSt x y tx ty z TI TO i1 i2) where
  mem := by simp
  obj := fun i h st c hc => by
    obtain ⟨hz, hTI, ⟨a, b, hTO⟩, ⟨o1, e1, _, d1⟩, ⟨o2, e2, _, d2⟩⟩ := st
    have e' : c = z ∨ c = TI ∨ c = TO ∨ c = i1 ∨ c = i2 := by simpa using hc
    rcases e' with q | q | q | q | q
    · rw [q]; exact ⟨_, hz, fun v q => nomatch q⟩
    · rw [q]; exact ⟨_, hTI, fun v q => nomatch q⟩
    · rw [q]; exact ⟨_, hTO, fun v q => nomatch q⟩
    · rw [q]; exact ⟨o1, e1, fun v q => by rw [d1] at q; cases q⟩
    · rw [q]; exact ⟨o2, e2, fun v q => by rw [d2] at q; cases q⟩
  keep := fun i h h' st k => by
    obtain ⟨hz, hTI, ⟨a, b, hTO⟩, ⟨o1, e1, r1⟩, ⟨o2, e2, r2⟩⟩ := st
    exact ⟨k z (by simp) _ hz, k TI (by simp) _ hTI, ⟨a, b, k TO (by simp) _ hTO⟩, ⟨o1, k i1 (by simp) _ e1, r1⟩, ⟨o2, k i2 (by simp) _ e2, r2⟩⟩
  item := by
    intro X hP hw hK hc i pins s σ H E I hf st hg
    subst hP hw hK
    have W := WalksT.zipD2 (prog := X.prog) (w := X.w) (A := X.A) D (Draws.text (prog := X.prog) (w := X.w) (A := X.A.in1) (I.ok.hd hc) i1 x tx) (Draws.text (prog := X.prog) (w := X.w) (A := X.A.in1) (I.ok.hd hc) i2 y ty)
    refine W.item i s _ _ hg st fun T vals h' tk hP hT hTup hM hk => ?_
    obtain ⟨x1, x2, ⟨c, u, hcx, rfl⟩, ⟨d, u2, hdx, rfl⟩, rfl⟩ := hP
    have hTn : T ∉ [z, TO, i1, i2] := W.apart i T h' hM
    refine ⟨_, rfl, W.go elts kk tpos i T { s with heap := h', toks := tk } _ _ hM fun h'' st2 hk2 => ?_⟩
    obtain ⟨oT, eT, cT, nT, dT⟩ := hTup
    have hT2 : h''.get? T = some oT := hk2 T oT hTn eT
    have new : ObjOk X.prog X.w (upd H T (.tup [.str ⟨#[c]⟩, .str ⟨#[d]⟩])) h'' T (.tup [.str ⟨#[c]⟩, .str ⟨#[d]⟩]) :=
      ⟨by show 2 ≤ sizeLine; decide, [.str ⟨#[c]⟩ u, .str ⟨#[d]⟩ u2], .cons ⟨_, rfl⟩ (.cons ⟨_, rfl⟩ .nil), ⟨oT, hT2, cT, nT, dT⟩⟩
    have I1 : Inv X pins σ (upd H T (.tup [.str ⟨#[c]⟩, .str ⟨#[d]⟩])) { s with heap := h'', toks := tk } :=
      I.turnedNew (t' := tk) (ch := [z, TI, TO, i1, i2]) (fun b o hb q => hk2 b o (fun hm => hb (by simp at hm ⊢; rcases hm with e | e | e | e <;> simp [e])) (hk b o (fun hm => hb (by simp at hm ⊢; rcases hm with e | e | e | e <;> simp [e])) q)) hf hT new
    refine ⟨.ref T, _, I1, rfl, ⟨T, c, d, rfl, I.hok.fresh hT, rfl, hcx, hdx⟩, st2, fun b hb => ?_⟩
    obtain ⟨hz0, hTI0, ⟨a0, b0, hTO0⟩, ⟨o1, e1, _⟩, ⟨o2, e2, _⟩⟩ := st
    have hlt : b < s.heap.objs.size := by
      have e' : b = z ∨ b = TI ∨ b = TO ∨ b = i1 ∨ b = i2 := by simpa using hb
      rcases e' with q | q | q | q | q
      · rw [q]; exact Heap.lt_size hz0
      · rw [q]; exact Heap.lt_size hTI0
      · rw [q]; exact Heap.lt_size hTO0
      · rw [q]; exact Heap.lt_size e1
      · rw [q]; exact Heap.lt_size e2
    rw [upd_ne (Nat.ne_of_lt (Nat.lt_of_lt_of_le hlt hT))]
    exact (hf b hb).1
  done := by
    intro X hP hw hK hc i pins s σ H E I hf st hg
    subst hP hw hK
    have W := WalksT.zipD2 (prog := X.prog) (w := X.w) (A := X.A) D (Draws.text (prog := X.prog) (w := X.w) (A := X.A.in1) (I.ok.hd hc) i1 x tx) (Draws.text (prog := X.prog) (w := X.w) (A := X.A.in1) (I.ok.hd hc) i2 y ty)
    have hg' : i = min x.cps.size y.cps.size := hg
    subst hg'
    exact W.done s _ _ st fun h' tk hk => ⟨rfl, I.turnedL (t' := tk) (ch := [z, TI, TO, i1, i2]) (fun b o hb q => hk b o (fun hm => hb (by simp at hm ⊢; rcases hm with e | e | e | e <;> simp [e])) q) hf⟩
  self := fun A i s Q E st h => wpAny_pyIter_zip st.1 h
def onZS (vs : List V) (H : Hp) (R : It → Hp → Prop) : Prop := ∃ x y : Str, vs = [.str x, .str y] ∧ R (ItzS x y) H
def iZipS (ta : TA) : TI := fun σ H R => ta σ H fun vs H1 => onZS vs H1 R
theorem pi_zipS {X : Cx} {e e2 : Expr} {ta : TA} {p pos tpos : Pos} {elts : List Expr} {kk : Nat} (hg : Gl X "zip") (hm : X.mg "zip" = none) (ha : PA X [e, e2] ta)
    (hs : starEach [e, e2] X.env = (false, eval e X.env) :: starEach [e2] X.env := by rfl) (hpl : (backTo pos (starEach [e2] X.env)).any (·.1) = false := by rfl) :
    PI X (.Tuple elts kk tpos) (.Call (.Name "zip" p) [e, e2] [] pos) (iZipS ta) := by
  refine ⟨fun pins s σ H R I h => ?_⟩
  refine Call_ (ld_blt I hg hm PyProof.Rows.boot_zip (PyProof.Rows.callWith_type1 (thn (ha.run pos pins s σ H _ I h) fun us s1 ⟨vs, H1, I1, r1, q1⟩ => ?_) hs hpl))
  obtain ⟨x, y, ex, q⟩ := q1
  subst ex
  cases r1 with
  | cons r rr =>
    cases rr with
    | cons r' rr =>
      cases rr
      obtain ⟨tx, rfl⟩ := r
      obtain ⟨ty, rfl⟩ := r'
      refine zip_begins2 (begins_text x tx) (begins_text y ty) trivial trivial fun h' hz hTI hTO h1 h2 hsz hk => wpAny_pyIter_zip hz ?_
      have I2 : Inv X pins σ H1 { s1 with heap := h' } := I1.kept (t' := s1.toks) hk
      refine ⟨s1.heap.objs.size + 4, [s1.heap.objs.size + 4, s1.heap.objs.size + 2, s1.heap.objs.size + 3, s1.heap.objs.size, s1.heap.objs.size + 1], _, _, H1, rfl, I2, turn_zipS x y tx ty (zip_sep2 (N := s1.heap.objs.size) (fp1 := []) (fp2 := []) (by simp) (by simp)), ⟨hz, hTI, ⟨_, _, hTO⟩, ⟨_, h1, rfl, rfl⟩, ⟨_, h2, rfl, rfl⟩⟩, fun c hcm => ?_, q⟩
      have e' : c = s1.heap.objs.size + 4 ∨ c = s1.heap.objs.size + 2 ∨ c = s1.heap.objs.size + 3 ∨ c = s1.heap.objs.size ∨ c = s1.heap.objs.size + 1 := by simpa using hcm
      have hle : s1.heap.objs.size ≤ c := by
        rcases e' with z | z | z | z | z
        · rw [z]; exact Nat.le_add_right _ _
        · rw [z]; exact Nat.le_add_right _ _
        · rw [z]; exact Nat.le_add_right _ _
        · rw [z]; exact Nat.le_refl _
        · rw [z]; exact Nat.le_add_right _ _
      exact I1.fpOk hle (I1.hok.fresh hle)
theorem walk_ZS {x y : Str} : Walk (ItzS x y) (min (tl x).length (tl y).length) (fun _ => True) (fun i H v H' => ∃ T : Addr, v = .ref T ∧ H T = none ∧ H' = upd H T (.tup [.str ⟨#[(tl x).getD i 0]⟩, .str ⟨#[(tl y).getD i 0]⟩])) := by
  have e1 : (tl x).length = x.cps.size := by simp [tl]
  have e2 : (tl y).length = y.cps.size := by simp [tl]
  rw [e1, e2]
  refine ⟨fun i H hi _ => hi, fun H _ => rfl, fun i H v H' _ _ yy => ?_⟩
  obtain ⟨T, c, d, rfl, hT, rfl, hc, hd⟩ := yy
  have hc' : (tl x)[i]? = some c := by simpa [tl] using hc
  have hd' : (tl y)[i]? = some d := by simpa [tl] using hd
  refine ⟨T, rfl, hT, ?_⟩
  rw [List.getD_eq_getElem?_getD, List.getD_eq_getElem?_getD, hc', hd']
  rfl
end L2
set_option Elab.async false
set_option linter.all false
set_option maxRecDepth 100000
set_option maxHeartbeats 4000000
namespace L2
open PySem PySem.Spec PyProof.Rows TL
section
variable {K : PySem.W.Frag} {σ : St} {H : Hp} {te : TE} {tt : TT} {vs : List Nat} {Q : VK} {j j1 j2 : Nat}
theorem zip_range (x y : List Nat) (F : Nat → Nat → V) : (List.range (min x.length y.length)).map (fun i => F (x.getD i 0) (y.getD i 0)) = (x.zip y).map fun p => F p.1 p.2 := by
  refine List.ext_getElem (by simp) fun i h1 h2 => ?_
  have h3 : i < min x.length y.length := by simpa using h1
  have hx : i < x.length := by omega
  have hy : i < y.length := by omega
  simp only [List.getElem_map, List.getElem_range, List.getElem_zip]
  rw [List.getD_eq_getElem?_getD, List.getD_eq_getElem?_getD, List.getElem?_eq_getElem hx, List.getElem?_eq_getElem hy]
  rfl
theorem k_sl {r : V → Option Int → Option Int → Hp → VK → Prop} {tlo thi : TO} (k : te σ H fun x H1 => tlo σ H1 fun lo H2 => thi σ H2 fun hi H3 => r x lo hi H3 Q) : tSl r te tlo thi σ H Q := k
def isI (x : V) (H : Hp) (R : Option Int → Hp → Prop) : Prop := ∃ i, x = .int i ∧ R (some i) H
theorem k_part {R : Option Int → Hp → Prop} (k : te σ H fun x H1 => isI x H1 R) : tPart te σ H R := k
theorem k_isI {i : Int} {R : Option Int → Hp → Prop} (k : R (some i) H) : isI (.int i) H R := ⟨i, rfl, k⟩
theorem k_nopart {R : Option Int → Hp → Prop} (k : R none H) : tNoPart σ H R := k
theorem sign_eq (a b : Nat) : decide ((⟨#[a]⟩ : Str) = ⟨#[b]⟩) = decide (a = b) := decide_eq_decide.mpr ⟨fun h => by
    have := congrArg tl h
    simpa [tl] using this, fun h => by rw [h]⟩
theorem k_lcZS {ta : TA} {g : TG} (k : ta σ H fun vs1 H1 => onZS vs1 H1 (lcOn g tt te vs σ Q)) : tLc (iZipS ta) g tt te vs σ H Q := k
theorem k_onZS {x y : Str} {R : It → Hp → Prop} (k : R (ItzS x y) H) : onZS [.str x, .str y] H R := ⟨x, y, rfl, k⟩
/-- [e for a, b in zip(text, text)] -/
theorem lc_mapZS {x y : Str} (F : Nat → Nat → V) (hn : x.length ≤ 50000) (hw : ∀ a b, wipe (((wipe σ vs).set j1 (some a)).set j2 (some b)) vs = wipe σ vs)
    (hf : ∀ c d H1, Same H H1 → EvS te (((wipe σ vs).set j1 (some (.str ⟨#[c]⟩))).set j2 (some (.str ⟨#[d]⟩))) H1 (F c d))
    (hd : ∀ D H', H D = none → Same H H' → H' D = some (.lst (((tl x).zip (tl y)).map fun p => F p.1 p.2)) → Q (.ref D) H') : lcOn (gTup K 2 (gCons (gName j1) (gCons (gName j2) gNil))) tYes te vs σ Q (ItzS x y) H := fun D hD => by
  refine lc_it walk_ZS (fun i H' => Same H H' ∧ H' D = some (.lst ((List.range i).map fun k => F ((tl x).getD k 0) ((tl y).getD k 0)))) ⟨same_new hD, upd_same⟩ (fun _ _ _ _ => trivial) (fun i v H1 H2 hi iv yy => ?_) (fun H' iv => ?_)
  · obtain ⟨T, rfl, hT, rfl⟩ := yy
    obtain ⟨s1, e1⟩ := iv
    have s2 : Same H1 (upd H1 T (.tup [.str ⟨#[(tl x).getD i 0]⟩, .str ⟨#[(tl y).getD i 0]⟩])) := same_new hT
    refine k_unp2 (Evl.st_of upd_same) ⟨hw _ _, ?_⟩
    refine k_yes (iteT ?_)
    refine hf _ _ _ (s1.trans s2) _ fun H4 s4 => ⟨_, s4 D _ (s2 D _ e1), ?_, same_mut ((s1.trans s2).trans s4) hD, ?_⟩
    · rw [List.length_map, List.length_range]
      exact Evl.sz_lt (by rw [← len_tl] at hi; omega)
    · rw [upd_same, List.range_succ, List.map_append]
      rfl
  · exact hd D H' hD iv.1 (by rw [iv.2, zip_range])
theorem tl_cut_from {z : Str} {k : Nat} (h : k ≤ z.length) : cutS z (some (k : Int)) none = mk ((tl z).drop k) := by
  refine ext_tl ?_
  show (z.cps.toList.drop (HT.sIx z.length 0 (some (k : Int)))).take (HT.sIx z.length z.length none - HT.sIx z.length 0 (some (k : Int))) = (tl z).drop k
  rw [HT.sIx_nat, HT.sIx_none, Nat.min_eq_left h]
  refine List.take_of_length_le ?_
  rw [List.length_drop]
  have := len_tl z
  simp only [tl] at this
  omega
theorem tl_cut_to {z : Str} {k : Nat} (h : k ≤ z.length) : cutS z none (some (k : Int)) = mk ((tl z).take k) := by
  refine ext_tl ?_
  show (z.cps.toList.drop (HT.sIx z.length 0 none)).take (HT.sIx z.length z.length (some (k : Int)) - HT.sIx z.length 0 none) = (tl z).take k
  rw [HT.sIx_nat, HT.sIx_none, Nat.min_eq_left h]
  rfl
theorem at_neg {α : Type} {xs : List α} {k : Nat} {v : α} (h0 : 0 < k) (h : k ≤ xs.length) (e : xs[xs.length - k]? = some v) : atI xs (-(k : Int)) = some v := by
  have e1 : ixN xs.length (-(k : Int)) = some (xs.length - k) := by
    unfold ixN
    rw [if_neg (by omega), if_pos (by omega)]
    congr 1
    omega
  unfold atI
  rw [e1]
  exact e
end
end L2
namespace Mi
open PySem PySem.Spec PyProof.Rows L2 TL
theorem ends_suff (x y : Str) : Txt.endswith x y = suff (tl y) (tl x) := by
  unfold Txt.endswith suff
  rw [Nat.zero_add]
  by_cases h : y.length ≤ x.length
  · have h' : (tl y).length ≤ (tl x).length := by rw [← len_tl, ← len_tl]; exact h
    rw [decide_eq_true h, decide_eq_true h', Bool.true_and, Bool.true_and, PySem.StrLaws.subAt_eq]
    have hl : ((tl x).drop (x.length - y.length)).length = y.length := by
      rw [List.length_drop, ← len_tl]
      omega
    have e : ((tl x).drop (x.length - y.length)).take y.length = (tl x).drop ((tl x).length - (tl y).length) := by
      rw [List.take_of_length_le (by omega), len_tl, len_tl]
    show ((((tl x).drop (x.length - y.length)).take y.length) == tl y) = _
    rw [e]
    rw [Bool.eq_iff_iff]; simp
  · have h' : ¬ (tl y).length ≤ (tl x).length := by rw [← len_tl, ← len_tl]; exact h
    rw [decide_eq_false h, decide_eq_false h', Bool.false_and, Bool.false_and]
end Mi
set_option Elab.async false
set_option linter.all false
set_option maxRecDepth 100000
set_option maxHeartbeats 4000000
namespace L2
open PySem PySem.Spec PyProof.Rows

/-! ### try with several clauses, each with a name or without -/
/-- a clause: its class, the slot of its name (if it has one), what its suite wishes -/
structure Cl where
  cls : Value
  slot : Option Nat
  ts : Addr → Value → Option Addr → TS
def clPut (c : Option Nat) (a : Addr) (σ : St) : St := match c with
  | none => σ
  | some i => σ.set i (some (.ref a))
def clEnds (c : Option Nat) (D : Ends) : Ends := match c with
  | none => D
  | some i => { nx := fun σ1 H1 => D.nx (σ1.set i none) H1, rt := D.rt, bk := fun σ1 H1 => D.bk (σ1.set i none) H1, ct := fun σ1 H1 => D.ct (σ1.set i none) H1 }
def wCls (K : PySem.W.Frag) (Wout : WX) (D : Ends) : List Cl → WX
  | [] => Wout
  | c :: r => fun cls d σ H =>
    ∃ b, PySem.W.exmOne K cls c.cls = some b ∧
      (b = true → ∀ a, H a = none → c.ts a cls d (clEnds c.slot D) (clPut c.slot a σ) H) ∧
      (b = false → wCls K Wout D r cls d σ H)
/-- what is read of a suite, whatever is caught -/
def Sut (X : Cx) (b₀ : Stmt) (bs : List Stmt) (ts : Addr → Value → Option Addr → TS) : Prop :=
  ∀ (a : Addr) (ob : Obj) (cls : Value) (d : Option Addr) (l : List (Addr × Obj)),
    Zc cls d ob → (∃ vs, ob.data = .fields vs) → PSs (X.suite a ((a, ob) :: l)) (b₀ :: bs) (ts a cls d)
inductive ClsOk (X : Cx) : List ExceptHandler → List Cl → Prop
  | nil : ClsOk X [] []
  | no {x : Str} {c : Value} {ts : Addr → Value → Option Addr → TS} {b₀ : Stmt} {bs : List Stmt} {p q : Pos} {hds : List ExceptHandler} {l : List Cl} :
      Names X x c → Sut X b₀ bs ts → ClsOk X hds l → ClsOk X (.ExceptHandler (some (.Name x p)) none (b₀ :: bs) q :: hds) (⟨c, none, ts⟩ :: l)
  | as {x n : Str} {i : Nat} {c : Value} {ts : Addr → Value → Option Addr → TS} {b₀ : Stmt} {bs : List Stmt} {p q : Pos} {hds : List ExceptHandler} {l : List Cl} :
      Names X x c → X.N[i]? = some n → X.env.kindOf n = some .local → Sut X b₀ bs ts → ClsOk X hds l → ClsOk X (.ExceptHandler (some (.Name x p)) (some n) (b₀ :: bs) q :: hds) (⟨c, some i, ts⟩ :: l)

/-- the exception at a is caught; sI: the state without it -/
structure Dn (X : Cx) (pins : List (Addr × Obj)) (σ : St) (H : Hp) (a : Addr) (cls : Value) (d : Option Addr) (B : Heap) (sI s : Shared) : Prop where
  I : Inv X pins σ H sI
  nb : ∀ b o, sI.heap.get? b = some o → b ∉ frs X.stack → B.get? b = some o
  up : sI.heap.UpToSlots s.heap
  fl : HandSPX.FlyingZ B (X.env :: X.outer) a (Zc cls d) s.heap
  na : H a = none
  os : s.os = sI.os
  ag : AllBare s.gens
section
variable {X : Cx} {pins : List (Addr × Obj)} {σ : St} {H : Hp} {a : Addr} {cls : Value} {d : Option Addr} {B : Heap} {sI s : Shared}
theorem Dn.inv (x : Dn X pins σ H a cls d B sI s) : Inv X pins σ H s := x.I.landed x.nb x.fl.1 x.up x.os x.ag
theorem Dn.move {h : Heap} (x : Dn X pins σ H a cls d B sI s) (f : HandSPX.FlyingZ B (X.env :: X.outer) a (Zc cls d) h) (u : s.heap.UpToSlots h) : Dn X pins σ H a cls d B sI { s with heap := h } :=
  { I := x.I, nb := x.nb, up := x.up.trans u, fl := f, na := x.na, os := x.os, ag := x.ag }
theorem Dn.there (x : Dn X pins σ H a cls d B sI s) (hf : X.env.frame = some X.env.locals) : ∃ ob vs, s.heap.get? a = some ob ∧ Zc cls d ob ∧ ob.data = .fields vs ∧ a ≠ X.env.locals ∧ a ∉ X.fs := by
  obtain ⟨ob, vs, e, z, dt⟩ := x.fl.there
  have nf : a ∉ frs (X.env :: X.outer) := fun m => by
    obtain ⟨_, o2, e2, w⟩ := x.fl.2.2.1.mem m
    cases e.symm.trans e2
    exact w vs dt
  refine ⟨ob, vs, e, z, dt, fun y => nf ?_, fun m => nf ?_⟩
  · refine List.mem_filterMap.mpr ⟨X.env, .head _, ?_⟩
    rw [hf, y]
  · obtain ⟨v, hv, q⟩ := List.mem_filterMap.mp m
    exact List.mem_filterMap.mpr ⟨v, .tail _ hv, q⟩
/-- no clause is left -/
theorem Dn.out {W : WX} {D : Flow → Shared → Prop} (x : Dn X pins σ H a cls d B sI s) (hs : X.stack = X.env :: X.outer) (hf : X.env.frame = some X.env.locals) (tk : Takes X W) (w : W cls d σ H) :
    wpAny (model X.prog X.w) X.A (handleBy (.ref a) X.env []) D X.xe s := by
  refine wpAny_handleBy_nil ?_
  obtain ⟨_, _, _, ob, vs, T, oT, ts', he, hz, dt, h1, hr⟩ := id x.fl
  unfold PySem.passOn
  refine wpAny_bind (wpAny_field he dt h1 ?_)
  have ne : ¬ ((Value.ref T == Value.none) = true) := by simp
  rw [if_neg ne, hf]
  have last : wpAny (model X.prog X.w) X.A (setFlight (.ref a) (some X.env.locals)) (fun _ s4 => wpAny (model X.prog X.w) X.A (throw (.ref a) : Sem Flow) D X.xe s4) X.xe s :=
    HandSPX.setFlight_upZ x.fl fun h4 hh up4 => wpAny_throw (tk _ _ ⟨a, B, sI, pins, σ, H, cls, d, rfl, x.I, x.nb, x.up.trans up4, .inr (.inr (hs ▸ hh)), x.na, x.os, x.ag, w⟩)
  first
    | exact wpAny_bind (wpAny_pure (wpAny_bind last))
    | exact wpAny_bind last
/-- the clauses, one after the other -/
theorem Dn.clauses {Wout : WX} {D : Ends} (x : Dn X pins σ H a cls d B sI s) (hs : X.stack = X.env :: X.outer) (hf : X.env.frame = some X.env.locals) (hN : X.N.Nodup) (tk : Takes X Wout) {hds : List ExceptHandler} {l : List Cl} (ok : ClsOk X hds l)
    (w : wCls X.K Wout D l cls d σ H) : wpAny (model X.prog X.w) X.A (handleBy (.ref a) X.env hds) (SP X pins D) X.xe s := by
  have I0 := x.inv.ok
  obtain ⟨ob, vs, e, z, dt, nL, nF⟩ := x.there hf
  have S := x.inv.suite e dt x.na nL nF
  have LT : PySem.W.Looks (model X.prog X.w) s.heap (typeOf (.ref a)) cls := fun A Q E s k q => wpAny_typeOf_ref (k _ _ e) (by rw [z.1]; exact q)
  have look : ∀ {n : Str} {c : Value} {p : Pos} {Q : Value → Shared → Prop} {E : Value → Shared → Prop}, Names X n c → Q c s → wpAny (model X.prog X.w) (X.A.mark (some (.ref a))) (eval (.Name n p) X.env) Q E s := by
    intro n c p Q E nm q
    rcases nm with ⟨hg, hd, hm | ⟨hm, hv, hnn⟩⟩
    · exact ld_glob (X := X.suite a ((a, ob) :: (X.pn ++ pins))) S hg hm q hd
    · exact ld_blt (X := X.suite a ((a, ob) :: (X.pn ++ pins))) S hg hm hv q hnn hd
  induction ok with
  | nil => exact x.out hs hf tk w
  | no nm su r ih =>
    obtain ⟨b, hb, yes, no⟩ := w
    refine wpAny_handleBy_cons (codeAny_handlers_test (look nm ((PySem.W.exm_one (M := model X.prog X.w) x.inv.kIn LT hb).here ?_))) (by intro q; cases q)
    cases b with
    | false => exact ih (no rfl)
    | true =>
      refine codeAny_handlers_suite (HandSPX.lands_againZ x.fl fun h4 f4 u4 => ?_)
      have y := x.move f4 u4
      obtain ⟨ob4, vs4, e4, z4, dt4, nL4, nF4⟩ := y.there hf
      refine wpAny_mono ((su a ob4 cls d (X.pn ++ pins) z4 ⟨_, dt4⟩).run [] _ _ H _ (y.inv.suite e4 dt4 x.na nL4 nF4) (yes rfl a x.na)) (fun f s6 hsp => ?_) (fun _ _ z => z.elim)
      cases f with
      | ret u =>
        obtain ⟨v6, σ6, H6, S6, r6, q6⟩ := hsp
        exact ⟨v6, σ6, H6, S6.unsuite I0, r6, q6⟩
      | next | brk | cont =>
        obtain ⟨σ6, H6, S6, q6⟩ := hsp
        exact ⟨σ6, H6, S6.unsuite I0, q6⟩
  | @as n1 n i c ts b₀ bs p q hds2 l2 nm hi hl su r ih =>
    obtain ⟨b, hb, yes, no⟩ := w
    refine wpAny_handleBy_cons (codeAny_handlers_test (look nm ((PySem.W.exm_one (M := model X.prog X.w) x.inv.kIn LT hb).here ?_))) (by intro q; cases q)
    cases b with
    | false => exact ih (no rfl)
    | true =>
      refine codeAny_handlers_suite_as (HandSPX.lands_againZ x.fl fun h4 f4 u4 => ?_)
      have y := x.move f4 u4
      obtain ⟨ob4, vs4, e4, z4, dt4, nL4, nF4⟩ := y.there hf
      have S4 := y.inv.suite e4 dt4 x.na nL4 nF4
      refine store_ok (X := X.suite a ((a, ob4) :: (X.pn ++ pins))) (v := .ref a) S4 hN hi (.inl hl) rfl (fun s5 S5 => ?_) (.inr hl)
      refine wpAny_mono ((su a ob4 cls d (X.pn ++ pins) z4 ⟨_, dt4⟩).run [] s5 _ H _ S5 (yes rfl a x.na)) (fun f s6 hsp => ?_) (fun _ _ z => z.elim)
      cases f with
      | ret u =>
        obtain ⟨v6, σ6, H6, S6, r6, q6⟩ := hsp
        exact gone_ok (S6.unsuite I0) hN hi hl fun s7 J7 => ⟨v6, σ6.set i none, H6, J7, r6, q6⟩
      | next | brk | cont =>
        obtain ⟨σ6, H6, S6, q6⟩ := hsp
        exact gone_ok (S6.unsuite I0) hN hi hl fun s7 J7 => ⟨σ6.set i none, H6, J7, q6⟩
end
section
variable {X : Cx} {body : List Stmt} {h₀ : ExceptHandler} {hds : List ExceptHandler} {l : List Cl} {pos : Pos} {tb : WX → TS} {Wout : WX}
/-- the body's own reading, whatever it lets out -/
def Bod (X : Cx) (body : List Stmt) (tb : WX → TS) : Prop :=
  ∀ (W : WX) (pn : List (Addr × Obj)) (xe : Value → Shared → Prop), Takes (X.tr pn xe) W → PassesOwn (model X.prog X.w) X.A X.env xe → PSs (X.tr pn xe) body (tb W)
def tTryC (K : PySem.W.Frag) (Wout : WX) (l : List Cl) (tb : WX → TS) : TS := fun D σ H => tb (wCls K Wout D l) D σ H
theorem ps_tryC (hs : X.stack = X.env :: X.outer) (hf : X.env.frame = some X.env.locals) (hN : X.N.Nodup) (tk : Takes X Wout) (hb : Bod X body tb) (hh : ClsOk X (h₀ :: hds) l) :
    PS X (.Try body (h₀ :: hds) [] [] pos) (tTryC X.K Wout l tb) := by
  refine ⟨fun pins s σ H D I h => wpAny_Try_except ?_⟩
  have ok := I.ok
  have hfr : X.A.frames = some (X.env :: X.outer) := ok.frames.trans (congrArg some hs)
  have R := (hb (wCls X.K Wout D l) (X.pn ++ pins) (fun e s₁ => wpAny (model X.prog X.w) X.A (noteFrame e X.env) (fun _ s₂ => wpAny (model X.prog X.w) X.A (setFlight e none) (fun _ s₃ =>
    wpAny (model X.prog X.w) X.A (handleBy e X.env (h₀ :: hds)) (SP X pins D) X.xe s₃) X.xe s₂) X.xe s₁) (fun u s1 xx => by
      obtain ⟨a, B, sI, pins2, σ2, H2, cls, d, rfl, J, nb, up, sky, na, os, ag, w⟩ := xx
      exact Sky.land Zc.steady hfr hf (hs ▸ sky) fun h3 f3 up3 =>
        Dn.clauses (s := { s1 with heap := h3 }) { I := J.ofTry ok, nb := nb, up := up.trans up3, fl := f3, na := na, os := os, ag := ag } hs hf hN tk hh w) PassesOwn.looking).run [] s σ H D (I.toTry _) h
  refine wpAny_mono R (fun f s1 hsp => ?_) (fun _ _ he => he)
  cases f with
  | next =>
    obtain ⟨σ2, H2, J, q⟩ := hsp
    exact wpAny_execs_nil ⟨σ2, H2, J.ofTry ok, q⟩
  | ret u =>
    obtain ⟨v, σ2, H2, J, r, q⟩ := hsp
    exact ⟨v, σ2, H2, J.ofTry ok, r, q⟩
  | brk | cont =>
    obtain ⟨σ2, H2, J, q⟩ := hsp
    exact ⟨σ2, H2, J.ofTry ok, q⟩
end
end L2

namespace L2
open PySem PySem.Spec PyProof.Rows
section
variable {K : PySem.W.Frag} {σ : St} {H : Hp} {te to : TE} {f : Str} {D : Ends} {C : Addr} {Q : XK}
theorem k_ost (k : te σ H fun y H1 => to σ H1 fun x H2 => ∃ a C : Addr, x = .ref a ∧ OexC K C ∧ PySem.W.findIn K (.ref C) f = some none ∧
    ((H2 a = some (exo a C none) ∧ ∀ dx, H2 dx = none → dx ≠ a → D.nx σ (upd (upd H2 dx (exd dx [(f, y)])) a (exo a C (some dx)))) ∨
      ∃ (dx : Addr) (fs : List (Str × V)), H2 a = some (exo a C (some dx)) ∧ H2 dx = some (exd dx fs) ∧ fs.length ≤ 900 ∧ D.nx σ (upd H2 dx (exd dx ((f, y) :: fs))))) : tOst K f to te D σ H := k
/-- an exception's one field is set -/
def spInit (C : Addr) (f : Str) : Sp := fun vs H Q _ =>
  ∃ (a : Addr) (y : V), vs = [.ref a, y] ∧ H a = some (exo a C none) ∧
    ∀ dx, H dx = none → dx ≠ a → Q .non (upd (upd H dx (exd dx [(f, y)])) a (exo a C (some dx)))
/-- C(e) is made -/
theorem mkO_ok {v : V} (q : ∀ H' dd, Same H H' → H' dd = some (.xd [(f, v)]) → Q (.ref C) (some dd) H') :
    [v].length ≤ 1000 ∧ ∀ a, H a = none → spInit C f (.ref a :: ([v] ++ [])) (upd H a (exo a C none))
      (fun u H2 => u = .non ∧ ∃ (d : Addr) (fs : List (Str × V)), H2 a = some (exo a C (some d)) ∧ H2 d = some (exd d fs) ∧ H d = none ∧ Q (.ref C) (some d) (upd (del H2 a) d (.xd fs))) fun _ _ _ => False := by
  refine ⟨by show (1 : Nat) ≤ 1000; decide, fun a ha => ⟨a, v, rfl, upd_same, fun dx hd ne => ⟨rfl, dx, [(f, v)], upd_same, ?_, ?_, q _ dx (fun b o hb => ?_) upd_same⟩⟩⟩
  · rw [upd_ne ne, upd_same]
  · rw [upd_ne ne] at hd
    exact hd
  · rw [upd_ne ne] at hd
    have n1 : b ≠ dx := fun e => by
      rw [e, hd] at hb
      cases hb
    have n2 : b ≠ a := fun e => by
      rw [e, ha] at hb
      cases hb
    rw [upd_ne n1, del_ne n2, upd_ne n2, upd_ne n1, upd_ne n2]
    exact hb
theorem k_mkV {i : Nat} {v : V} (e : σ[i]? = some (some v)) (q : ∀ H' dd, Same H H' → H' dd = some (.xd [(f, v)]) → Q (.ref C) (some dd) H') : tMkO C (spInit C f) [] (tCons (tVar i) tNil) σ H Q :=
  ⟨v, e, mkO_ok q⟩
theorem k_mkC {v : V} (q : ∀ H' dd, Same H H' → H' dd = some (.xd [(f, v)]) → Q (.ref C) (some dd) H') : tMkO C (spInit C f) [] (tCons (tC v) tNil) σ H Q := mkO_ok q
end
end L2
namespace L2
open PySem PySem.Spec PyProof.Rows
section
variable {K : PySem.W.Frag} {σ : St} {H : Hp} {f : Str} {a C dd : Addr} {fs : List (Str × V)} {v : V} {i : Nat} {Q : VK} {D : Ends} {tb : WX → TS} {Wout : WX} {l : List Cl} {sp : Sp} {E : St → XK} {t : TA}
theorem k_xfV (e : σ[i]? = some (some (.ref a))) (ed : H dd = some (.xd fs)) (lk : fs.lookup f = some v) (k : Q v H) : tXf a (.ref C) (some dd) C f (tVar i) σ H Q :=
  ⟨.ref a, e, rfl, rfl, dd, fs, v, rfl, ed, lk, k⟩
theorem k_tryC (k : tb (wCls K Wout D l) D σ H) : tTryC K Wout l tb D σ H := k
theorem k_callS (k : t σ H fun vs H1 => sp vs H1 Q (E σ)) : tCallS sp E t σ H Q := k
end
end L2
set_option Elab.async false
set_option linter.all false
set_option maxRecDepth 100000
set_option maxHeartbeats 4000000
namespace L2
open PySem PySem.Spec PyProof.Rows TL
/-- a text whose signs are signs -/
def okS (x : Str) : Prop := ∀ c ∈ tl x, c < 1114112
theorem okS.lay {x : Str} (h : okS x) : PyData.canLay0 (.str x) = true := by
  show PyData.strOk x = true
  unfold PyData.strOk
  rw [Array.all_eq_true_iff_forall_mem]
  intro c hc
  exact decide_eq_true (h c (by simpa [tl] using hc))
theorem lay_strs : ∀ {ts : List Str}, (∀ t ∈ ts, okS t) → PyData.canLayAll0 (ts.map .str) = true
  | [], _ => rfl
  | t :: ts, h => by
    show (PyData.canLay0 (.str t) && PyData.canLayAll0 (ts.map .str)) = true
    rw [lay_strs fun z hz => h z (.tail _ hz), (h t (.head _)).lay]
    rfl
theorem depth_strs : ∀ ts : List Str, PyData.depthAll (ts.map .str) = 0
  | [] => rfl
  | t :: ts => by
    show max (PyData.depth (.str t)) (PyData.depthAll (ts.map .str)) = 0
    rw [depth_strs ts]
    rfl
theorem shaped_strsL {ts : List Str} (h : ∀ t ∈ ts, okS t) : SeqAt.shaped (.list (ts.map .str)) = true := by
  unfold SeqAt.shaped
  show (PyData.canLayAll0 (ts.map .str) && decide (PyData.depthAll (ts.map .str) + 1 ≤ 64)) = true
  rw [lay_strs h, depth_strs]
  rfl
theorem shaped_strsT {ts : List Str} (h : ∀ t ∈ ts, okS t) : SeqAt.shaped (.tuple (ts.map .str)) = true := by
  unfold SeqAt.shaped
  show (PyData.canLayAll0 (ts.map .str) && decide (PyData.depthAll (ts.map .str) + 1 ≤ 64)) = true
  rw [lay_strs h, depth_strs]
  rfl
theorem okS_one {c : Nat} (h : c < 1114112) : okS ⟨#[c]⟩ := fun d hd => by
  have : d = c := by simpa [tl] using hd
  omega
section
variable {K : PySem.W.Frag} {H : Hp} {Q : VK}
theorem dp_strs : ∀ ts : List Str, DpAll K H (ts.map .str) (ts.map .str)
  | [] => .nil
  | t :: ts => .cons (.str t) (dp_strs ts)
/-- texts != [] -/
theorem k_neNil {r s : Addr} {ts : List Str} (ho : ∀ t ∈ ts, okS t) (h1 : SqL K H r (ts.map .str)) (h2 : SqL K H s []) (k : Q (.bl (decide (ts ≠ []))) H) : rNeA K (.ref r) (.ref s) H Q := by
  have h := rv_neD (Q := Q) (Dp.lst h1 (dp_strs ts)) (Dp.lst h2 .nil) (shaped_strsL ho) (by decide +kernel)
  refine h ?_
  have e : (!PyData.eqv (.list (ts.map .str)) (.list [])) = decide (ts ≠ []) := by
    cases ts with
    | nil => rfl
    | cons t ts => rfl
  rw [e]
  exact k
end
end L2
set_option Elab.async false
set_option linter.all false
set_option maxRecDepth 100000
set_option maxHeartbeats 4000000
namespace L2
open PySem PySem.Spec PyProof.Rows TL

/-! ### defs that run while nothing is on its way to a text -/
/-- as FnOk, but only where no text is being made -/
structure FnG (P : Program) (w : World) (K : PySem.W.Frag) (mg : Str → Option Value) (base : Heap) (k : Nat) (f : Addr) (fd : FuncData) (ps : List Str) (sp : Sp) : Prop where
  len : ∀ vs H Q E, sp vs H Q E → vs.length = ps.length
  run : ∀ (A : Around) (outer : List Env) (s : Shared) (H : Hp) (args : Args) (us : List Value) (vs : List V) (Q : VK) (E : XK),
    Room k A → A.guards = some [] → Env0 P w K mg base A outer s H → BindsTo s fd args (ps.zip us) → Vals vs us → sp vs H Q E →
    codeAny (model P w) A (.call (.ref f) args) (CR CX0 outer P w H s Q E) s
section
variable {P : Program} {w : World} {K : PySem.W.Frag} {mg : Str → Option Value} {base : Heap} {k : Nat} {f : Addr} {fd : FuncData} {ps N : List Str} {sp : Sp} {x qual : Str} {st : Stmt}
theorem FnOk.toG (F : FnOk P w K mg base CX0 k f fd ps sp) : FnG P w K mg base k f fd ps sp :=
  { len := F.len, run := fun A outer s H args us vs Q E hr _ e0 hb r h => F.run A outer s H args us vs Q E hr e0 hb r h }
/-- its body -/
theorem Fun.okG (F : Fun K x qual st f fd) (S : FnScope N ps (defScope st)) (len : ∀ vs H Q E, sp vs H Q E → vs.length = ps.length)
    (body : ∀ (cdv : Value) (A : Around) (outer : List Env) (s : Shared) (H : Hp) (vs : List V) (Q : VK) (E : XK), A.guards = some [] → Room k (A.deeper (envOfC qual (defScope st) s.heap.objs.size f cdv)) → sp vs H Q E →
      ∃ t, PSs (cxOf CX0 P w K mg base N qual (defScope st) f cdv A outer s H E).nox (defBody st) t ∧ t { nx := fun _ H1 => Q .non H1, rt := Q } (start N vs) H) :
    FnG P w K mg base (k + 1) f fd ps sp := by
  obtain ⟨oc, od, kV, doc, pm, an, cdv, ct, osl, rfl, lk, code⟩ := F.ex
  refine { len := len, run := fun A outer s H args us vs Q E room gd e0 bd r ask => ?_ }
  have isIn : K.In s.heap := e0.mod.kin.keeps fun b o e => (e0.bs b o e).1
  have lim := e0.mod.nolimit.keeps fun b o e => (e0.bs b o e).1
  refine codeAny_call_function room.depth (isIn _ _ lk) rfl S.co S.gen rfl (PySem.W.codeRec_of isIn code) (bd _ _ _ _ ?_)
  refine wpAny_newFunctionEnv_cells S.kind (fun y hy => ?_) fun env he s1 made => ?_
  · have hm : y.1 ∈ ps := by
      obtain ⟨n, v⟩ := y
      exact (List.of_mem_zip hy).1
    exact (S.par y.1 hm).elim .inl fun c => .inr ⟨c, PySem.W.cellsFrom_some _ _ _ (.inl c)⟩
  · subst he
    refine ⟨lim.keeps made.toInCall.keep, codeAny_func ?_⟩
    obtain ⟨t, read, q⟩ := body cdv A outer s H vs Q E gd (room.deeper _) ask
    have I := inv_start (CX := CX0) (E := E) S room.hd e0 (len _ _ _ _ ask) r made
    refine wpAny_mono (read.nox.run [] s1 (start N vs) H _ I q) (fun fl s2 out => ?_) fun _ _ out => out
    cases fl with
    | brk | cont =>
      obtain ⟨_, _, _, z⟩ := out
      exact z.elim
    | next =>
      obtain ⟨σ2, H2, J, z⟩ := out
      exact ⟨.non, H2, J.os, J.bare, J.base, J.hok, rfl, z⟩
    | ret u =>
      obtain ⟨v, σ2, H2, J, rv, z⟩ := out
      exact ⟨v, H2, J.os, J.bare, J.base, J.hok, rv, z⟩
end
section
variable {X : Cx} {k : Nat} {f : Addr} {fd : FuncData} {ps : List Str} {sp : Sp} {x : Str} {p pos : Pos} {e : Expr} {es : List Expr} {t : TA}
/-- such a def called -/
theorem pe_callG (F : FnG X.prog X.w X.K X.mg X.base k f fd ps sp) (hr : Room k X.A) (gd : X.A.guards = some []) (hg : Gl X x) (hm : X.mg x = some (.ref f)) (hk : PySem.W.keepIn X.K (.ref f) = true) (hb : Binds X.K fd ps [])
    (ha : PA X (e :: es) t) (hdb : (x == ("__debug__" : Str)) = false := by decide) (he : starEach (e :: es) X.env = (false, eval e X.env) :: starEach es X.env := by rfl)
    (hpl : (backTo pos (starEach es X.env)).any (·.1) = false := by rfl) : PE X (.Call (.Name x p) (e :: es) [] pos) (tCall sp [] E0 t) := by
  refine ⟨fun pins s σ H Q I h => wpAny_Call_Name_kw (ld_glob I hg hm ?_ hdb)⟩
  refine PySem.W.callWith_K (h₀ := X.base) I.ok.mod.kin hk (thn (ha.run pos pins s σ H _ I h) fun us s1 got => ?_) he hpl
  obtain ⟨vs, H1, I1, r, q⟩ := got
  rw [List.append_nil] at q
  have b := hb s1 us I1.kIn (by rw [List.append_nil, ← r.length]; exact F.len _ _ _ _ q)
  rw [List.append_nil] at b
  refine ⟨I1.kIn, wpAny_call (codeAny_mono (F.run X.A X.stack s1 H1 ⟨us, []⟩ us vs Q E0 hr gd I1.env0 b r q) fun r2 s2 out => ?_)⟩
  cases r2 with
  | error _ => exact out.elim
  | ok fl =>
    cases fl with
    | ret u => exact I1.after out
    | next | brk | cont => exact out.elim
end

/-! ### data with empty dicts in it -/
mutual
inductive Du (H : Hp) : V → PyData → Prop
  | non : Du H .non .none
  | bl (b : Bool) : Du H (.bl b) (.bool b)
  | int (i : Int) : Du H (.int i) (.int i)
  | str (x : Str) : Du H (.str x) (.str x)
  | dic {a : Addr} : H a = some (.dK []) → Du H (.ref a) (.dict [])
  | lst {a : Addr} {xs : List V} {ds : List PyData} : H a = some (.lst xs) → DuAll H xs ds → Du H (.ref a) (.list ds)
  | tup {a : Addr} {xs : List V} {ds : List PyData} : H a = some (.tup xs) → DuAll H xs ds → Du H (.ref a) (.tuple ds)
inductive DuAll (H : Hp) : List V → List PyData → Prop
  | nil : DuAll H [] []
  | cons {v : V} {vs : List V} {d : PyData} {ds : List PyData} : Du H v d → DuAll H vs ds → DuAll H (v :: vs) (d :: ds)
end
section
variable {K : PySem.W.Frag} {H H' : Hp}
mutual
theorem Du.up (s : Same H H') : ∀ {v : V} {d : PyData}, Du H v d → Du H' v d
  | _, _, .non => .non
  | _, _, .bl b => .bl b
  | _, _, .int i => .int i
  | _, _, .str x => .str x
  | _, _, .dic h => .dic (s _ _ h)
  | _, _, .lst h a => .lst (s _ _ h) (DuAll.up s a)
  | _, _, .tup h a => .tup (s _ _ h) (DuAll.up s a)
theorem DuAll.up (s : Same H H') : ∀ {vs : List V} {ds : List PyData}, DuAll H vs ds → DuAll H' vs ds
  | _, _, .nil => .nil
  | _, _, .cons h t => .cons (Du.up s h) (DuAll.up s t)
end
mutual
theorem Du.dp : ∀ {v : V} {d : PyData}, Du H v d → d.hasDict = false → Dp K H v d
  | _, _, .non, _ => .non
  | _, _, .bl b, _ => .bl b
  | _, _, .int i, _ => .int i
  | _, _, .str x, _ => .str x
  | _, _, .dic h, e => by cases e
  | _, _, .lst h a, e => .lst (.inl (.inl h)) (DuAll.dp a (by simpa [PyData.hasDict] using e))
  | _, _, .tup h a, e => .tup (.inl (.inl h)) (DuAll.dp a (by simpa [PyData.hasDict] using e))
theorem DuAll.dp : ∀ {vs : List V} {ds : List PyData}, DuAll H vs ds → PyData.hasDictAll ds = false → DpAll K H vs ds
  | _, _, .nil, _ => .nil
  | _, _, .cons h t, e => by
    have e' := Bool.or_eq_false_iff.mp (show (PyData.hasDict _ || PyData.hasDictAll _) = false from e)
    exact .cons (Du.dp h e'.1) (DuAll.dp t e'.2)
end
theorem DuAll.len : ∀ {vs : List V} {ds : List PyData}, DuAll H vs ds → vs.length = ds.length
  | _, _, .nil => rfl
  | _, _, .cons _ t => congrArg (· + 1) (DuAll.len t)
theorem DuAll.append : ∀ {vs ws : List V} {ds es : List PyData}, DuAll H vs ds → DuAll H ws es → DuAll H (vs ++ ws) (ds ++ es)
  | _, _, _, _, .nil, h => h
  | _, _, _, _, .cons a t, h => .cons a (DuAll.append t h)
theorem DuAll.get : ∀ {vs : List V} {ds : List PyData}, DuAll H vs ds → ∀ {i : Nat} {d : PyData}, ds[i]? = some d → ∃ v, vs[i]? = some v ∧ Du H v d
  | _, _, .nil, _, _, h => by simp at h
  | _, _, .cons a _, 0, d, h => by
    cases Option.some.inj h
    exact ⟨_, rfl, a⟩
  | _, _, .cons _ t, i + 1, d, h => DuAll.get t (i := i) h
/-- a thing at the door -/
theorem Du.th {v : V} {d : PyData} (h : Du H v d) (e : d = .dict [] ∨ d.hasDict = false) : Th K H v d := by
  rcases e with e | e
  · cases h with
    | dic h => exact .inr ⟨_, _, rfl, h, rfl⟩
    | _ => cases e
  · exact .inl (h.dp e)
end
section
variable {X : Cx} {pins : List (Addr × Obj)} {σ : St} {H : Hp} {s : Shared}
mutual
/-- how it is told -/
theorem Du.told (I : Inv X pins σ H s) : ∀ (d : PyData) (v : V) (u : Value), Du H v d → RelV v u → d.showable = true → d.shown.length ≤ sizeLine →
    ∃ as bs, Reads s.heap u d as ∧ ReadAtMost s.heap d.depth bs ∧ ∀ (P : Program) (w : World), ReprK P w bs s.heap d.depth u d.shown
  | .none, _, _, h, r, _, _ => by
    cases h
    cases r
    refine ⟨_, [], .none, (fun _ z => nomatch z), ?_⟩
    simp only [PyData.shown]
    exact fun _ _ => .of_is ReprIs.none _ _ _
  | .bool b, _, _, h, r, _, _ => by
    cases h
    cases r
    refine ⟨_, [], .bool b, (fun _ z => nomatch z), ?_⟩
    simp only [PyData.shown]
    exact fun _ _ => .of_is (ReprIs.bool b) _ _ _
  | .int i, _, _, h, r, sh, _ => by
    cases h
    obtain ⟨t, rfl⟩ := r
    refine ⟨_, [], .int i t, (fun _ z => nomatch z), ?_⟩
    simp only [PyData.shown]
    exact fun _ _ => .of_is (ReprIs.int t (by simpa [PyData.showable] using sh)) _ _ _
  | .str x, _, _, h, r, _, sz => by
    cases h
    obtain ⟨t, rfl⟩ := r
    refine ⟨_, [], .str x t, (fun _ z => nomatch z), ?_⟩
    simp only [PyData.shown]
    exact fun _ _ => .of_is (ReprIs.str x t (by simpa only [PyData.shown] using sz)) _ _ _
  | .dict kvs, _, _, h, r, _, _ => by
    cases h with
    | @dic a e =>
      cases r
      have o : ObjOk X.prog X.w H s.heap a (.dK []) := I.hok a _ e
      obtain ⟨_, ns, vs, kv, ob, es, ep, g, ex, dt, _, pr, _⟩ := o
      cases kv
      have e0 : es.toList = [] := List.eq_nil_of_length_eq_zero pr.length
      have rd : Reads s.heap (.ref a) (.dict []) [a] := .dict (as := []) (bs := []) g ex.1 dt (by rw [e0]; exact .nil) (by rw [e0]; exact .nil)
      refine ⟨_, [a], rd, ReadAtMost.cons (n := 0) rd (Nat.zero_le _) (fun _ z => nomatch z), ?_⟩
      simp only [PyData.depth, PyData.shown, PyData.shownKv_eq]
      exact fun _ _ => ReprK.dict (as := []) (d := 0) g ex.1 dt ns (fun z => nomatch z) (by rw [e0]; exact .nil)
  | .list ds, _, _, h, r, sh, sz => by
    cases h with
    | @lst a xs _ e t =>
      cases r
      have sz' : (listText (PyData.shownAll ds)).length ≤ sizeLine := by simpa only [PyData.shown] using sz
      have o : ObjOk X.prog X.w H s.heap a (.lst xs) := I.hok a _ e
      obtain ⟨_, its, n, vr, g⟩ := o
      obtain ⟨as, bs, ra, mo, rp⟩ := DuAll.told I ds xs its t vr (by simpa [PyData.showable] using sh) fun t ht => Nat.le_trans (listText_mem_le ht) sz'
      have rd : Reads s.heap (.ref a) (.list ds) (a :: as) := .list g rfl rfl (by simpa using ra)
      refine ⟨_, a :: bs, rd, ReadAtMost.cons rd (by simp only [PyData.depth]; omega) mo, ?_⟩
      have na : a ∉ bs := not_mem_of_deeper rd (by simp only [PyData.depth]; omega) mo
      simp only [PyData.depth, PyData.shown]
      cases its with
      | nil =>
        cases ra
        simp only [PyData.shownAll, listText_nil]
        exact fun _ _ => ReprK.listEmpty g rfl rfl
      | cons x l => exact fun P w => ReprK.list g rfl rfl na (by simpa using (rp P w).length_eq) fun i y z => (rp P w).item i y (by simpa using z)
  | .tuple ds, _, _, h, r, sh, sz => by
    cases h with
    | @tup a xs _ e t =>
      cases r
      have sz' : (tupleText (PyData.shownAll ds)).length ≤ sizeLine := by simpa only [PyData.shown] using sz
      have o : ObjOk X.prog X.w H s.heap a (.tup xs) := I.hok a _ e
      obtain ⟨_, its, vr, ob, g, gc, n, dt⟩ := o
      obtain ⟨as, bs, ra, mo, rp⟩ := DuAll.told I ds xs its t vr (by simpa [PyData.showable] using sh) fun t ht => Nat.le_trans (tupleText_mem_le ht) sz'
      have rd : Reads s.heap (.ref a) (.tuple ds) as := .tuple g gc dt (by simpa using ra)
      refine ⟨_, a :: bs, rd, ReadAtMost.cons rd (by simp only [PyData.depth]; omega) mo, ?_⟩
      have na : a ∉ bs := not_mem_of_deeper rd (by simp only [PyData.depth]; omega) mo
      simp only [PyData.depth, PyData.shown]
      exact fun P w => ReprK.tuple g gc dt na (by simpa using rp P w)
theorem DuAll.told (I : Inv X pins σ H s) : ∀ (ds : List PyData) (vs : List V) (us : List Value), DuAll H vs ds → Vals vs us → PyData.showableAll ds = true → (∀ t ∈ PyData.shownAll ds, t.length ≤ sizeLine) →
    ∃ as bs, ReadsAll s.heap us ds as ∧ ReadAtMost s.heap (PyData.depthAll ds) bs ∧ ∀ (P : Program) (w : World), ReprAllK P w bs s.heap (PyData.depthAll ds) us (PyData.shownAll ds)
  | [], _, _, h, r, _, _ => by
    cases h
    cases r
    exact ⟨_, [], .nil, (fun _ z => nomatch z), by simp only [PyData.shownAll]; exact fun _ _ => .nil⟩
  | d :: ds, _, _, h, r, sh, sz => by
    cases h with
    | cons h1 h2 =>
      cases r with
      | cons r1 r2 =>
        have sh' : d.showable = true ∧ PyData.showableAll ds = true := by simpa [PyData.showableAll] using sh
        obtain ⟨as1, bs1, ra1, mo1, rp1⟩ := Du.told I d _ _ h1 r1 sh'.1 (sz _ (by simp only [PyData.shownAll]; exact .head _))
        obtain ⟨as2, bs2, ra2, mo2, rp2⟩ := DuAll.told I ds _ _ h2 r2 sh'.2 fun t ht => sz t (by simp only [PyData.shownAll]; exact .tail _ ht)
        refine ⟨as1 ++ as2, bs1 ++ bs2, .cons ra1 ra2, ?_, ?_⟩
        · simp only [PyData.depthAll]
          exact (mo1.mono (Nat.le_max_left _ _)).append (mo2.mono (Nat.le_max_right _ _))
        · simp only [PyData.depthAll, PyData.shownAll]
          exact fun P w => .cons (((rp1 P w).more fun b hb => List.mem_append_left _ hb).level_le (Nat.le_max_left _ _)) ((rp2 P w).more_le (fun b hb => List.mem_append_right _ hb) (Nat.le_max_right _ _))
end
end
/-- str(a list) -/
def rStrL : List V → Hp → VK → Prop := fun xs H Q => ∃ (a : Addr) (ds : List PyData), xs = [.ref a] ∧ Du H (.ref a) (.list ds) ∧ ds ≠ [] ∧ (PyData.list ds).showable = true ∧ (PyData.list ds).shown.length ≤ sizeLine ∧ (PyData.list ds).depth ≤ 40 ∧ Q (.str (PyData.list ds).shown) H
theorem strLK {X : Cx} {k : Nat} (hr : Room k X.A) (gd : X.A.guards = some []) : CallR X (.type "str") rStrL := by
  intro pins s σ H xs us Q I r h
  obtain ⟨a, ds, rfl, du, ne, sh, sz, dp, q⟩ := h
  obtain ⟨u, rfl, ru⟩ := vals1 r
  cases ru
  have un := hu64 hr
  cases du with
  | @lst _ xs _ e t =>
    have o : ObjOk X.prog X.w H s.heap a (.lst xs) := I.hok a _ e
    obtain ⟨_, its, n, vr, g⟩ := o
    have sz' : (listText (PyData.shownAll ds)).length ≤ sizeLine := by simpa only [PyData.shown] using sz
    obtain ⟨as, bs, ra, mo, rp⟩ := DuAll.told I ds xs its t vr (by simpa [PyData.showable] using sh) fun t ht => Nat.le_trans (listText_mem_le ht) sz'
    have rd : Reads s.heap (.ref a) (.list ds) (a :: as) := .list g rfl rfl (by simpa using ra)
    have na : a ∉ bs := not_mem_of_deeper rd (by simp only [PyData.depth]; omega) mo
    have dp' : PyData.depthAll ds + 1 ≤ 40 := by simpa only [PyData.depth] using dp
    cases its with
    | nil =>
      cases ra
      exact absurd rfl ne
    | cons x l =>
      have kq : ∀ h' tk, (∀ b o, s.heap.get? b = some o → h'.get? b = some o) → ∀ u2, EP X pins σ Q (.str (PyData.list ds).shown u2) { s with heap := h', toks := tk } :=
        fun h' tk kept u2 => ⟨.str _, H, I.kept (t' := tk) kept, ⟨u2, rfl⟩, q⟩
      refine callType_new F.called_str (by decide) (F.typeCall_str_1 _) (F.newCall_str_1 _) (fun ob => F.args_object_init_2 ob _) F.entry_str_new
        (meets_str_new (S := fun B R s2 => B.guards = some [] ∧ B.units + 60 < cLine ∧ (∀ b o, s.heap.get? b = some o → s2.heap.get? b = some o) ∧
          ∀ h' u2 tk, (∀ b o, s2.heap.get? b = some o → h'.get? b = some o) → R (.ok (.ret (.str (PyData.list ds).shown u2))) { s2 with heap := h', toks := tk }) ?_)
        ⟨gd, by show X.A.units + 1 + 60 < cLine; omega, fun _ _ z => z, fun h' u2 tk kept => ⟨typeIs_str _ _ _, kq h' tk kept u2⟩⟩
      intro P w B R s2 hh
      obtain ⟨h1, h2, h3, h4⟩ := hh
      refine wpAny_strOf_slot rfl (by show B.units + 1 + 1 < cLine; omega) ⟨_, h3 _ _ g, rfl⟩ F.slot_list_str F.slot_list_repr.toG ?_
      refine call_list_reprK g rfl rfl na (by simpa using (rp P w).length_eq) (fun i y z => (rp P w).item i y (by simpa using z)) h1 (fun b _ => Clear.nil b) (by show B.units + 1 + 1 + (PyData.depthAll ds + 1) < cLine; omega) h3
        (fun h' u2 tk kept => ⟨_, _, rfl, ?_⟩) sz'
      have z := h4 h' u2 tk kept
      simpa only [PyData.shown] using z
end L2
set_option Elab.async false
set_option linter.all false
set_option maxRecDepth 100000
set_option maxHeartbeats 4000000
namespace L2
open PySem PySem.Spec PyProof.Rows TL

/-! ### calls by name -/
def pick {α : Type} (ix : List Nat) (l : List α) : List α := ix.filterMap (l[·]?)
theorem vals_at : ∀ {zs : List V} {ws : List Value}, Vals zs ws → ∀ i : Nat, (zs[i]? = none ∧ ws[i]? = none) ∨ ∃ v u, zs[i]? = some v ∧ ws[i]? = some u ∧ RelV v u
  | _, _, .nil, i => .inl ⟨by simp, by simp⟩
  | _, _, .cons r _, 0 => .inr ⟨_, _, rfl, rfl, r⟩
  | _, _, .cons _ t, i + 1 => by simpa using vals_at t i
theorem vals_pick {zs : List V} {ws : List Value} (r : Vals zs ws) : ∀ ix : List Nat, Vals (pick ix zs) (pick ix ws)
  | [] => .nil
  | i :: ix => by
    have ih := vals_pick r ix
    unfold pick at ih ⊢
    rcases vals_at r i with ⟨e1, e2⟩ | ⟨v, u, e1, e2, rv⟩
    · rw [List.filterMap_cons_none e1, List.filterMap_cons_none e2]
      exact ih
    · rw [List.filterMap_cons_some e1, List.filterMap_cons_some e2]
      exact .cons rv ih
theorem Fun.kbn {K : PySem.W.Frag} {x qual : Str} {st : Stmt} {f : Addr} {fd : FuncData} {ps ks : List Str} {n : Nat} {ix : List Nat} (F : Fun K x qual st f fd)
    (h : ∀ (kV doc pm : Value) (an : Option Addr) (cdv ct : Value) (us ws : List Value), us.length = n → ws.length = ks.length →
      bindArgs (PySem.W.fnOf x qual (defArgs st) (defBody st) (defScope st) .none kV doc pm an cdv ct) ⟨us, ks.zip ws⟩ = pure (ps.zip (us ++ pick ix ws))) :
    KBn K fd ps n ks (fun us ws => us ++ pick ix ws) (fun vs zs => vs ++ pick ix zs) := by
  obtain ⟨oc, od, kV, doc, pm, an, cdv, ct, osl, rfl, lk, code⟩ := F.ex
  exact { to := fun s us ws _ l1 l2 => .of_eq (h kV doc pm an cdv ct us ws l1 l2), rel := fun r1 r2 => r1.append (vals_pick r2 ix) }
section
variable {X : Cx} {CX : CXT} {k : Nat} {f : Addr} {fd : FuncData} {ps ks : List Str} {sp : Sp} {E : XK} {x : Str} {p pos : Pos} {kws : List Keyword} {tk : TA} {g : List Value → List Value → List Value} {gV : List V → List V → List V}
/-- f(k = v, ..), all by name -/
theorem pe_callK0 (F : FnOk X.prog X.w X.K X.mg X.base CX k f fd ps sp) (hr : Room k X.A) (hg : Gl X x) (hm : X.mg x = some (.ref f)) (hk : PySem.W.keepIn X.K (.ref f) = true) (hb : KBn X.K fd ps 0 ks g gV) (hx : Passes CX X E) (hkw : PK X kws tk)
    (hall : (backToKw pos (keywordEach kws X.env)).all (·.1.isSome) = true := by rfl) (hks : (backToKw pos (keywordEach kws X.env)).filterMap (·.1) = ks := by rfl) (hdb : (x == ("__debug__" : Str)) = false := by decide)
    (hpl : ((backTo pos (starEach [] X.env)).any (·.1) || (backToKw pos (keywordEach kws X.env)).any (·.1.isNone)) = false := by rfl) :
    PE X (.Call (.Name x p) [] kws pos) (tCallN 0 ks.length sp gV E tNil tk) := by
  refine ⟨fun pins s σ H Q I h => wpAny_Call_Name_kw (ld_glob I hg hm (PySem.W.callWith_KW0 (h₀ := X.base) I.ok.mod.kin hk hall ?_ hpl) hdb)⟩
  refine thn (hkw.run pos pins s σ H _ I h) fun ws s2 got => ?_
  obtain ⟨zs, H2, I2, rz, _, l2, q⟩ := got
  rw [hks]
  exact ⟨I2.kIn, run_fnN (us := []) (vs := []) F hr hb hx I2 .nil rz rfl l2 q⟩
end
section
variable {σ : St} {H : Hp} {sp : Sp} {E : XK} {t tk : TA} {Q : VK} {n m : Nat} {gV : List V → List V → List V}
theorem k_callN (k : t σ H fun vs H1 => tk σ H1 fun zs H2 => vs.length = n ∧ zs.length = m ∧ sp (gV vs zs) H2 Q E) : tCallN n m sp gV E t tk σ H Q := k
end

/-! ### written things -/
/-- te writes d, whatever stands already -/
def Lit (S : List Addr) (te : TE) (d : PyData) : Prop := ∀ (σ : St) (H : Hp) (Q : VK), Live S H → (∀ v H1, Same H H1 → Du (Hd S H1) v d → Q v H1) → te σ H Q
def LitA (S : List Addr) (ta : TA) (ds : List PyData) : Prop := ∀ (σ : St) (H : Hp) (Q : List V → Hp → Prop), Live S H → (∀ vs H1, Same H H1 → DuAll (Hd S H1) vs ds → Q vs H1) → ta σ H Q
theorem Live.same {S : List Addr} {H H1 : Hp} (l : Live S H) (s : Same H H1) : Live S H1 := l.up fun a o e => ⟨o, s a o e⟩
theorem Same.hid {H H1 : Hp} (s : Same H H1) (S : List Addr) : Same (Hd S H) (Hd S H1) := (Gr.of s).hd
section
variable {S : List Addr} {te : TE} {ta : TA} {d : PyData} {ds : List PyData}
theorem lit_str {x : Str} : Lit S (tC (.str x)) (.str x) := fun _ H _ _ k => k _ H (Same.refl H) (.str x)
theorem lit_int {x : Int} : Lit S (tC (.int x)) (.int x) := fun _ H _ _ k => k _ H (Same.refl H) (.int x)
theorem lit_bl {x : Bool} : Lit S (tC (.bl x)) (.bool x) := fun _ H _ _ k => k _ H (Same.refl H) (.bl x)
theorem lit_non : Lit S (tC .non) .none := fun _ H _ _ k => k _ H (Same.refl H) .non
theorem lit_neg {x : Int} : Lit S (tUn rNeg (tC (.int x))) (.int (-x)) := fun _ H _ _ k => ⟨x, rfl, k _ H (Same.refl H) (.int (-x))⟩
theorem lit_nil : LitA S tNil [] := fun _ H _ _ k => k _ H (Same.refl H) .nil
theorem lit_cons (h : Lit S te d) (r : LitA S ta ds) : LitA S (tCons te ta) (d :: ds) := fun σ H Q l k =>
  h σ H _ l fun v H1 s1 d1 => r σ H1 _ (l.same s1) fun vs H2 s2 d2 => k (v :: vs) H2 (s1.trans s2) (.cons (d1.up (s2.hid S)) d2)
theorem lit_tup (r : LitA S ta ds) (hl : ds.length ≤ 100000) : Lit S (tTup ta) (.tuple ds) := fun σ H Q l k =>
  r σ H _ l fun vs H1 s1 d1 => ⟨Evl.sz_of (by rw [d1.len]; exact hl), fun p hp => by
    have np : p ∉ S := (l.same s1).nin hp
    exact k _ _ (s1.trans (same_new hp)) (.tup (by rw [hd_out np, upd_same]) (d1.up ((same_new hp).hid S)))⟩
theorem lit_lst (r : LitA S ta ds) (hl : ds.length ≤ 100000) : Lit S (tLst ta) (.list ds) := fun σ H Q l k =>
  r σ H _ l fun vs H1 s1 d1 => ⟨Evl.sz_of (by rw [d1.len]; exact hl), fun p hp => by
    have np : p ∉ S := (l.same s1).nin hp
    exact k _ _ (s1.trans (same_new hp)) (.lst (by rw [hd_out np, upd_same]) (d1.up ((same_new hp).hid S)))⟩
theorem lit_dic : Lit S tDNewK (.dict []) := fun σ H Q l k => fun p hp => by
  have np : p ∉ S := l.nin hp
  exact k _ _ (same_new hp) (.dic (by rw [hd_out np, upd_same]))
theorem k_lit {σ : St} {H : Hp} {Q : VK} (h : Lit S te d) (l : Live S H) (k : ∀ v H1, Same H H1 → Du (Hd S H1) v d → Q v H1) : te σ H Q := h σ H Q l k
theorem Du.lstAt {H : Hp} {v : V} (h : Du (Hd S H) v (.list ds)) : ∃ a xs, v = .ref a ∧ a ∉ S ∧ H a = some (.lst xs) ∧ DuAll (Hd S H) xs ds := by
  cases h with
  | @lst a xs _ e t =>
    by_cases m : a ∈ S
    · rw [hd_in m] at e
      cases e
    · rw [hd_out m] at e
      exact ⟨a, xs, rfl, m, e, t⟩
end
end L2
set_option Elab.async false
set_option linter.all false
set_option maxRecDepth 100000
set_option maxHeartbeats 4000000
namespace L2
open PySem PySem.Spec PyProof.Rows TL
section
variable {K : PySem.W.Frag} {S : List Addr} {σ : St} {H : Hp} {ta : TA} {ds es : List PyData} {xs : List V} {a : Addr} {i : Nat} {R : VK}
/-- l + [..] -/
theorem k_more (h : Lit S (tLst ta) (.list es)) (l : Live S H) (v : σ[i]? = some (some (.ref a))) (e : H a = some (.lst xs)) (na : a ∉ S) (d : DuAll (Hd S H) xs ds) (sz : ds.length + es.length ≤ 100000)
    (k : ∀ c H2 ys, Same H H2 → c ∉ S → H2 c = some (.lst ys) → DuAll (Hd S H2) ys (ds ++ es) → R (.ref c) H2) : tOp (rAddA K) (tVar i) (tLst ta) σ H R := by
  refine ⟨.ref a, v, h σ H _ l fun w H1 s1 d1 => ?_⟩
  obtain ⟨b, ys, rfl, nb, e1, d1⟩ := d1.lstAt
  refine k_cat (s1 _ _ e) e1 (by rw [d.len, d1.len]; exact sz) fun c hc => ?_
  have nc : c ∉ S := (l.same s1).nin hc
  exact k c _ (xs ++ ys) (s1.trans (same_new hc)) nc upd_same (((d.up (s1.hid S)).append d1).up ((same_new hc).hid S))
end
theorem DuAll.pick {H : Hp} {vs : List V} {ds : List PyData} (h : DuAll H vs ds) (f : PyData → Bool) (all : ds.all f = true) {i : Nat} (hi : i < ds.length) : ∃ v d, vs[i]? = some v ∧ Du H v d ∧ f d = true := by
  obtain ⟨v, e, du⟩ := h.get (List.getElem?_eq_getElem hi)
  exact ⟨v, _, e, du, List.all_eq_true.mp all _ (List.getElem_mem hi)⟩
section
variable {K : PySem.W.Frag} {H : Hp} {σ : St}
/-- a, b = a list -/
theorem k_unp2L {a : Addr} {x y : V} {i j : Nat} {Qs : St → Hp → Prop} (h : SqL K H a [x, y]) (k : Qs ((σ.set i (some x)).set j (some y)) H) : gLst K 2 (gCons (gName i) (gCons (gName j) gNil)) (.ref a) σ H Qs :=
  ⟨a, [x, y], rfl, h, rfl, x, [y], rfl, y, [], rfl, rfl, k⟩
end
section
variable {X : Cx} (K : PySem.W.Frag)
theorem listUK {es : List Expr} {k : Nat} {t : TGs} {n : Nat} {pos : Pos} (hc : X.calm = true) (h : PGs X es t) (hK : X.K = K := by rfl)
    (hn : (assignEach es X.env).length = n := by rfl) (hst : (assignEach es X.env).findIdx? (·.1) = none := by rfl) : PG X (.Tuple es k pos) (gLst K n t) := by
  subst hK
  exact pg_lst hc h hn hst
end
end L2
set_option Elab.async false
set_option linter.all false
set_option maxRecDepth 100000
set_option maxHeartbeats 4000000
namespace L2
open PySem PySem.Spec PyProof.Rows TL
theorem lay_bools : ∀ bs : List Bool, PyData.canLayAll0 (bs.map .bool) = true
  | [] => rfl
  | b :: bs => by
    show (true && PyData.canLayAll0 (bs.map .bool)) = true
    rw [lay_bools bs]
    rfl
theorem depth_bools : ∀ bs : List Bool, PyData.depthAll (bs.map .bool) = 0
  | [] => rfl
  | b :: bs => by
    show max 0 (PyData.depthAll (bs.map .bool)) = 0
    rw [depth_bools bs]
    rfl
theorem shaped_bools (bs : List Bool) : SeqAt.shaped (.list (bs.map .bool)) = true := by
  unfold SeqAt.shaped
  show (PyData.canLayAll0 (bs.map .bool) && decide (PyData.depthAll (bs.map .bool) + 1 ≤ 64)) = true
  rw [lay_bools, depth_bools]
  rfl
theorem eqv_bools : ∀ bs cs : List Bool, PyData.eqvAll (bs.map .bool) (cs.map .bool) = decide (bs = cs)
  | [], [] => rfl
  | [], _ :: _ => rfl
  | _ :: _, [] => rfl
  | b :: bs, c :: cs => by
    show ((b == c) && PyData.eqvAll (bs.map .bool) (cs.map .bool)) = _
    rw [eqv_bools bs cs]
    by_cases h : b = c
    · subst h
      by_cases h2 : bs = cs
      · subst h2
        simp
      · simp [h2]
    · simp [h]
section
variable {K : PySem.W.Frag} {H : Hp}
theorem dp_bools : ∀ bs : List Bool, DpAll K H (bs.map .bl) (bs.map .bool)
  | [] => .nil
  | b :: bs => .cons (.bl b) (dp_bools bs)
/-- bools != bools -/
theorem k_neBools {a b : Addr} {bs cs : List Bool} {Q : VK} (h1 : SqL K H a (bs.map .bl)) (h2 : SqL K H b (cs.map .bl)) (k : Q (.bl (!decide (bs = cs))) H) : rNeA K (.ref a) (.ref b) H Q := by
  have h := rv_neD (Q := Q) (Dp.lst h1 (dp_bools bs)) (Dp.lst h2 (dp_bools cs)) (shaped_bools bs) (shaped_bools cs)
  refine h ?_
  rw [← eqv_bools bs cs] at k
  exact k
variable {σ : St} {te : TE} {vs : List Nat} {j : Nat} {Q : VK} {α : Type} {a : Addr} {xs : List V}
/-- [e for x in ..], over things that stand for ks -/
theorem lc_keysT (ks : List α) (d0 : α) (Rl : V → α → Prop) (F : α → V) (hx : SqT K H a xs) (hl : xs.length = ks.length) (rel : ∀ i, i < ks.length → Rl (xs.getD i .non) (ks.getD i d0)) (hn : ks.length ≤ 50000)
    (hw : ∀ x, wipe ((wipe σ vs).set j (some x)) vs = wipe σ vs) (hf : ∀ v c H1, c ∈ ks → Rl v c → Same H H1 → EvS te ((wipe σ vs).set j (some v)) H1 (F c))
    (hd : ∀ D H', H D = none → Same H H' → H' D = some (.lst (ks.map F)) → Q (.ref D) H') : lcOn (gName j) tYes te vs σ Q (Itt K a) H :=
  lc_map _ walk_T (fun i => F (ks.getD i d0)) (by omega) (fun _ s => Evl.ex_t s hx) hw (fun i H1 hi s => hf _ _ H1 (getD_mem (by omega)) (rel i (by omega)) s) fun D H' h1 h2 h3 => hd D H' h1 h2 (by rw [h3, hl, range_getD])
theorem lc_keysL (ks : List α) (d0 : α) (Rl : V → α → Prop) (F : α → V) (hx : SqL K H a xs) (hl : xs.length = ks.length) (rel : ∀ i, i < ks.length → Rl (xs.getD i .non) (ks.getD i d0)) (hn : ks.length ≤ 50000)
    (hw : ∀ x, wipe ((wipe σ vs).set j (some x)) vs = wipe σ vs) (hf : ∀ v c H1, c ∈ ks → Rl v c → Same H H1 → EvS te ((wipe σ vs).set j (some v)) H1 (F c))
    (hd : ∀ D H', H D = none → Same H H' → H' D = some (.lst (ks.map F)) → Q (.ref D) H') : lcOn (gName j) tYes te vs σ Q (Itl K a) H :=
  lc_map _ walk_L (fun i => F (ks.getD i d0)) (by omega) (fun _ s => s.seq hx) hw (fun i H1 hi s => hf _ _ H1 (getD_mem (by omega)) (rel i (by omega)) s) fun D H' h1 h2 h3 => hd D H' h1 h2 (by rw [h3, hl, range_getD])
theorem rel_strs (ts : List Str) : ∀ i, i < ts.length → (ts.map V.str).getD i .non = .str (ts.getD i "") := fun i h => by
  rw [List.getD_eq_getElem?_getD, List.getElem?_map, List.getElem?_eq_getElem h, List.getD_eq_getElem?_getD, List.getElem?_eq_getElem h]
  rfl
theorem Du.tupAt {S : List Addr} {v : V} {ds : List PyData} (h : Du (Hd S H) v (.tuple ds)) : ∃ a xs, v = .ref a ∧ H a = some (.tup xs) ∧ DuAll (Hd S H) xs ds := by
  cases h with
  | @tup a xs _ e t =>
    by_cases m : a ∈ S
    · rw [hd_in m] at e
      cases e
    · rw [hd_out m] at e
      exact ⟨a, xs, rfl, e, t⟩
theorem live_nil : Live [] H := fun _ h => nomatch h
end
end L2
set_option Elab.async false
set_option linter.all false
set_option maxRecDepth 100000
set_option maxHeartbeats 4000000
namespace L2
open PySem PySem.Spec PyProof.Rows TL
/-! ### the head of a law whose defs want to know that no text is being made -/
section
variable {P : Program} {w : World} {K : PySem.W.Frag} {mg mb : Str → Option Value} {k : Nat} {fa a : Addr} {fd : FuncData} {x : Str} {sp : Sp} {s : Shared} {vs : List Value} {ns : List Int}
/-- what the caller of a law gets -/
abbrev Told (s : Shared) (r : Result) (s' : Shared) : Prop := r = .ok (.ret (.bool true)) ∧ OldK s.heap s'.heap ∧ s'.os = s.os ∧ AllBare s'.gens
/-- from a heap in which at most the script is ours -/
theorem law_from (isIn : K.In s.heap) (nsG : s.heap.Ns mainGlobals mg) (nsB : s.heap.Ns builtinsNs mb) (blt : ∀ y : Str, y ≠ "__name__" → mb y = bootBuiltins y) (lim : s.heap.NoLimit) (noG : s.gens = #[])
    (obj : s.heap.get? a = some { cls := .type "list", data := .seq vs.toArray }) (room : Room k callerA) (F : ∀ base : Heap, K.In base → base.Ns mainGlobals mg → FnG P w K mg base k fa fd [x] sp)
    (bind : ∀ (s : Shared) (u : Value), BindsTo s fd ⟨[u], []⟩ [(x, u)]) {H : Hp} (only : Only H) (ask : sp [.ref a] H (fun v _ => v = .bl true) fun _ _ _ => False) (hok : HOk P w H s.heap)
    (mine : ∀ b, H b ≠ none → b = a) (outK : H a ≠ none → K.lookup a = none) : codeAny (model P w) callerA (.call (.ref fa) ⟨[.ref a], []⟩) (Told s) s := by
  have keep : ∀ {b : Addr} {o : Obj}, s.heap.get? b = some o → H b = none → (hidT s.heap H).get? b = some o := fun e z => hidT_get e z
  have isNs : ∀ {b : Addr} {m : Str → Option Value}, s.heap.Ns b m → (hidT s.heap H).Ns b m := by
    intro b m h
    obtain ⟨o, es, ep, e, dt, r⟩ := h
    refine ⟨o, es, ep, keep e ?_, dt, r⟩
    cases q : H b with
    | none => rfl
    | some u =>
      exfalso
      have z := mine b (by simp [q])
      subst z
      cases obj.symm.trans e
      cases (show Data.seq vs.toArray _ = Data.dict es ep from dt)
  have inB : K.In (hidT s.heap H) := fun b o e => keep (isIn b o e) (by
    cases q : H b with
    | none => rfl
    | some u =>
      exfalso
      have z := mine b (by simp [q])
      subst z
      cases (outK (by simp [q])).symm.trans e)
  obtain ⟨mc, l1, l2⟩ := lim
  have md : Mod K mg (hidT s.heap H) := ⟨inB, isNs nsG, ⟨mb, isNs nsB, blt⟩, mc, isNs l1, l2⟩
  have e0 : Env0 P w K mg (hidT s.heap H) callerA [] s H := {
    frames := rfl
    mod := md
    bs := fun b o e => of_hidT e
    bsz := Nat.le_of_eq (hidT_size _ _)
    funs := trivial
    frf := fun b m => (nomatch (show b ∈ ([] : List Addr) from m))
    hok := hok
    bare := .of_eq noG }
  refine codeAny_mono ((F _ inB (isNs nsG)).run callerA [] s H ⟨[.ref a], []⟩ [.ref a] [.ref a] _ _ room rfl e0 (bind s (.ref a)) (.cons rfl .nil) ask) fun r s' out => ?_
  cases r with
  | error _ => exact out.elim
  | ok fl =>
    cases fl with
    | next | brk | cont => exact out.elim
    | ret u =>
      obtain ⟨v, H1, os, bare, un, hok1, rv, q⟩ := out
      have q' : v = .bl true := q
      subst q'
      cases (show u = Value.bool true from rv)
      refine ⟨rfl, OldK.of_keep fun b o e => ?_, os, bare⟩
      cases z : H b with
      | none => exact un.keep b o e z (fun m => (nomatch (show b ∈ ([] : List Addr) from m))) (fun m => nomatch m)
      | some u =>
        rcases only b with y | ⟨ob, xs, y⟩
        · cases z.symm.trans y
        · obtain ⟨g1, _⟩ := hok b _ y
          obtain ⟨g2, _⟩ := hok1 b _ (un.frzs b ob _ y)
          cases e.symm.trans g1
          exact g2
theorem law_told (isIn : K.In s.heap) (nsG : s.heap.Ns mainGlobals mg) (nsB : s.heap.Ns builtinsNs mb) (blt : ∀ y : Str, y ≠ "__name__" → mb y = bootBuiltins y) (lim : s.heap.NoLimit) (noG : s.gens = #[])
    (obj : s.heap.get? a = some { cls := .type "list", data := .seq vs.toArray }) (intz : IntsAre vs ns) (len : ns.length ≤ sizeLine) (room : Room k callerA) (F : ∀ base : Heap, K.In base → base.Ns mainGlobals mg → FnG P w K mg base k fa fd [x] sp)
    (bind : ∀ (s : Shared) (u : Value), BindsTo s fd ⟨[u], []⟩ [(x, u)]) (ask : ∀ H : Hp, Only H → SqL K H a (ns.map V.int) → sp [.ref a] H (fun v _ => v = .bl true) fun _ _ _ => False) :
    codeAny (model P w) callerA (.call (.ref fa) ⟨[.ref a], []⟩) (Told s) s := by
  have rel := vals_ints intz
  cases hk : K.lookup a with
  | some o =>
    cases obj.symm.trans (isIn a o hk)
    have no : Only (fun _ => none) := fun _ => .inl rfl
    refine law_from isIn nsG nsB blt lim noG obj room F bind no (ask _ no ?_) (fun b u z => (nomatch (show (none : Option HO) = some u from z))) (fun b z => absurd rfl z) (fun z => absurd rfl z)
    exact .inr ⟨_, vs.toArray, _, hk, rfl, rfl, rfl, by rw [List.size_toArray, intz.length]; exact len, by simpa using rel⟩
  | none =>
    have on : Only (fun b => if b = a then some (.frz { cls := .type "list", data := .seq vs.toArray } (.lst (ns.map V.int))) else none) := fun b => by
      by_cases z : b = a
      · exact .inr ⟨_, _, if_pos z⟩
      · exact .inl (if_neg z)
    refine law_from isIn nsG nsB blt lim noG obj room F bind on (ask _ on (.inl (.inr ⟨_, if_pos rfl⟩))) (fun b u z => ?_) (fun b z => ?_) (fun _ => hk)
    · by_cases y : b = a
      · cases (if_pos y).symm.trans z
        subst y
        exact ⟨obj, by rw [List.length_map]; exact len, vs, _, rel, obj⟩
      · cases (if_neg y).symm.trans z
    · by_cases y : b = a
      · exact y
      · exact absurd (if_neg y) z
end
theorem walk_ofG {l : PySem.W.OpenLaw} {n k : Nat} {q : Program} {loose : List Str} {XP : (Str → Option Value) → Heap → Prop} {YP : World → Heap → Prop} {d : DefRec} {K : Params → PySem.W.Frag} {sp : World → Sp} {x : Str}
    (most : l.most = some n) (small : n ≤ sizeLine) (nodef : d.params.defaults = []) (room : Room k callerA) (isIn : ∀ (w : World) (h : Heap), YP w h → (K w.params).In h)
    (F : ∀ (w : World) (mg : Str → Option Value) (fa : Addr) (h : Heap), (K w.params).In h → h.Ns mainGlobals mg → mg d.name = some (.ref fa) →
      ∃ fd : FuncData, (∀ (s : Shared) (u : Value), BindsTo s fd ⟨[u], []⟩ [(x, u)]) ∧ ∀ base : Heap, (K w.params).In base → base.Ns mainGlobals mg → FnG l.prog w (K w.params) mg base k fa fd [x] (sp w))
    (ask : ∀ (w : World) (H : Hp) (a : Addr) (ns : List Int), ns.length ≤ n → Only H → SqL (K w.params) H a (ns.map V.int) → sp w [.ref a] H (fun v _ => v = .bl true) fun _ _ _ => False) :
    PySem.W.WalkO q loose XP YP l.row.toRowW d [] (fun f vs => PySem.call f vs) := by
  refine Att.attach_call most nodef fun w s0 s1 mg mb fa o pm cd doc a vs ns G Y ho hd hcd hmg obj intz len noG => ?_
  have inH := isIn w _ Y
  obtain ⟨fd, bind, ok⟩ := F w mg fa _ inH G.T.g hmg
  exact law_told inH G.T.g G.T.b G.T.builtins G.T.nolimit noG obj intz (Nat.le_trans len small) room ok bind fun H on sq => ask w H a ns len on sq
/-- what an except clause tells -/
theorem exm_of {K : PySem.W.Frag} {A B : Addr} {b : Bool} (h1 : PySem.W.subIn K (.ref B) (.type "BaseException") = some true) (h2 : PySem.W.isClsIn K B = true) (h3 : PySem.W.typeIn K (.ref B) = some (.type "type")) (h4 : PySem.W.subIn K (.ref A) (.ref B) = some b) :
    PySem.W.exmOne K (.ref A) (.ref B) = some b := by
  have c1 : (PySem.W.subIn K (.ref B) (.type "BaseException") == some true) = true := by rw [h1]; rfl
  have c2 : ((PySem.W.clsIn K B).isSome && PySem.W.typeIn K (.ref B) == some (.type "type")) = true := by
    rw [show (PySem.W.clsIn K B).isSome = true from h2, h3]
    rfl
  unfold PySem.W.exmOne
  rw [if_pos c1]
  show (if _ then _ else _) = _
  rw [if_pos c2]
  exact h4
end L2
set_option Elab.async false
set_option linter.all false
set_option maxRecDepth 100000
set_option maxHeartbeats 4000000
/-! == and != of rows whose us may be compared by the text's own == -/
namespace GE
open PySem PySem.SeqAt
open AutoSeq1 (wpAny_loadPart')
open MeetsSeq MeetsSeq2 MeetsSeq3 SeqRoads2
section
variable {prog : Program} {w : World} {A : Around} {R : Result → Shared → Prop}
abbrev EndOf (prog : Program) (w : World) (A : Around) (R : Result → Shared → Prop) : Fin → Shared → Prop := fun fin s' => match fin with
  | .done f => R (.ok f) s'
  | .again c' => c'.quiet = true ∧ codeAny (model prog w) A c' R s'
def sameB (e : Nat → Bool) (m n : Nat) : Bool := (List.range (min m n)).all e && m == n
theorem tuple_eqE (l b : Addr) (us ws : Array Value) (n n2 : Nat) (dd dd2 : Option Addr) (sl sl2 : Array (Option Value)) (e : Nat → Bool) (I : Shared → Prop)
    (turn : ∀ i (l1 : i < us.size) (l2 : i < ws.size) s, I s → wpAny (model prog w) A.in1 (eqBool us[i] ws[i]) (fun r s' => r = e i ∧ I s') (fun e s' => R (.error e) s') s)
    (fin : ∀ s, I s → R (.ok (.ret (.bool (sameB e us.size ws.size)))) s) {s : Shared} (hl1 : s.heap.get? l = some { cls := .type "tuple", dict := dd, data := .seq us n, slots := sl })
    (hb1 : s.heap.get? b = some { cls := .type "tuple", dict := dd2, data := .seq ws n2, slots := sl2 }) (h : I s) :
    wpAny (model prog w) A.in1 (Builtin.«tuple.__eq__» ⟨[.ref l, .ref b], []⟩) (EndOf prog w A R) (fun e s' => R (.error e) s') s := by
  have sub2 := AutoSeq1.sub_tuple_tuple
  have eZ : (us.toList.zip ws.toList).length = min us.size ws.size := by simp
  have h0 := h
  obtain ⟨hp, gs, dr, tks, os⟩ := s
  wp_walk using wpAny_loadPart' hl1, wpAny_loadPart' hb1, wpAny_forIn_list _ (fun rest b s' => b.1 = none ∧ I s' ∧ ∃ i, rest = (us.toList.zip ws.toList).drop i ∧
      ((List.range (min us.size ws.size)).all e = ((List.range (min us.size ws.size)).drop i).all e)) _
  case turn =>
    rintro ⟨y, x⟩ rest b s' ⟨hb', iv, i, ez, eR⟩
    have lt1 : i < (us.toList.zip ws.toList).length := by
      rcases Nat.lt_or_ge i (us.toList.zip ws.toList).length with h' | h'
      · exact h'
      · rw [List.drop_of_length_le h'] at ez; cases ez
    have lm : i < min us.size ws.size := eZ ▸ lt1
    have l1 : i < us.size := Nat.lt_of_lt_of_le lm (Nat.min_le_left _ _)
    have l2 : i < ws.size := Nat.lt_of_lt_of_le lm (Nat.min_le_right _ _)
    rw [List.drop_eq_getElem_cons lt1] at ez
    injection ez with eyx erest
    have ey : y = us[i] := by have := congrArg Prod.fst eyx; simpa using this
    have ex : x = ws[i] := by have := congrArg Prod.snd eyx; simpa using this
    subst ey ex
    have ed : (List.range (min us.size ws.size)).drop i = i :: (List.range (min us.size ws.size)).drop (i + 1) := by simp [List.drop_eq_getElem_cons, lm]
    rw [ed, List.all_cons] at eR
    refine wpAny_bind (wpAny_mono (turn i l1 l2 s' iv) (fun r s2 q2 => ?_) fun _ _ x => x)
    obtain ⟨hr, q2⟩ := q2
    subst hr
    cases ey : e i with
    | true =>
      rw [ey] at eR
      wp_walk
      exact ⟨rfl, q2, i + 1, erest, by simpa using eR⟩
    | false =>
      rw [ey] at eR
      have hz2 : sameB e us.size ws.size = false := by unfold sameB; rw [eR]; simp
      have := fin s2 q2
      rw [hz2] at this
      wp_walk
      exact this
  case fin =>
    rintro ⟨b1, b2⟩ s' ⟨hb', iv, i, ez, eR⟩
    simp only at hb'
    subst hb'
    have ge1 : min us.size ws.size ≤ i := by
      rcases Nat.lt_or_ge i (us.toList.zip ws.toList).length with h' | h'
      · rw [List.drop_eq_getElem_cons h'] at ez; cases ez
      · exact eZ ▸ h'
    rw [List.drop_of_length_le (by simpa using ge1)] at eR
    have := fin s' iv
    unfold sameB at this
    rw [eR] at this
    wp_walk
    simpa [Builtin.Tuple.tupleCompareSizes] using this
  case h =>
    exact ⟨rfl, h0, 0, rfl, rfl⟩
theorem tuple_neE (l b : Addr) (us ws : Array Value) (n n2 : Nat) (dd dd2 : Option Addr) (sl sl2 : Array (Option Value)) (e : Nat → Bool) (I : Shared → Prop)
    (turn : ∀ i (l1 : i < us.size) (l2 : i < ws.size) s, I s → wpAny (model prog w) A.in1 (eqBool us[i] ws[i]) (fun r s' => r = e i ∧ I s') (fun e s' => R (.error e) s') s)
    (fin : ∀ s, I s → R (.ok (.ret (.bool (!sameB e us.size ws.size)))) s) {s : Shared} (hl1 : s.heap.get? l = some { cls := .type "tuple", dict := dd, data := .seq us n, slots := sl })
    (hb1 : s.heap.get? b = some { cls := .type "tuple", dict := dd2, data := .seq ws n2, slots := sl2 }) (h : I s) :
    wpAny (model prog w) A.in1 (Builtin.«tuple.__ne__» ⟨[.ref l, .ref b], []⟩) (EndOf prog w A R) (fun e s' => R (.error e) s') s := by
  have sub2 := AutoSeq1.sub_tuple_tuple
  have eZ : (us.toList.zip ws.toList).length = min us.size ws.size := by simp
  have h0 := h
  obtain ⟨hp, gs, dr, tks, os⟩ := s
  wp_walk using wpAny_loadPart' hl1, wpAny_loadPart' hb1, wpAny_forIn_list _ (fun rest b s' => b.1 = none ∧ I s' ∧ ∃ i, rest = (us.toList.zip ws.toList).drop i ∧
      ((List.range (min us.size ws.size)).all e = ((List.range (min us.size ws.size)).drop i).all e)) _
  case turn =>
    rintro ⟨y, x⟩ rest b s' ⟨hb', iv, i, ez, eR⟩
    have lt1 : i < (us.toList.zip ws.toList).length := by
      rcases Nat.lt_or_ge i (us.toList.zip ws.toList).length with h' | h'
      · exact h'
      · rw [List.drop_of_length_le h'] at ez; cases ez
    have lm : i < min us.size ws.size := eZ ▸ lt1
    have l1 : i < us.size := Nat.lt_of_lt_of_le lm (Nat.min_le_left _ _)
    have l2 : i < ws.size := Nat.lt_of_lt_of_le lm (Nat.min_le_right _ _)
    rw [List.drop_eq_getElem_cons lt1] at ez
    injection ez with eyx erest
    have ey : y = us[i] := by have := congrArg Prod.fst eyx; simpa using this
    have ex : x = ws[i] := by have := congrArg Prod.snd eyx; simpa using this
    subst ey ex
    have ed : (List.range (min us.size ws.size)).drop i = i :: (List.range (min us.size ws.size)).drop (i + 1) := by simp [List.drop_eq_getElem_cons, lm]
    rw [ed, List.all_cons] at eR
    refine wpAny_bind (wpAny_mono (turn i l1 l2 s' iv) (fun r s2 q2 => ?_) fun _ _ x => x)
    obtain ⟨hr, q2⟩ := q2
    subst hr
    cases ey : e i with
    | true =>
      rw [ey] at eR
      wp_walk
      exact ⟨rfl, q2, i + 1, erest, by simpa using eR⟩
    | false =>
      rw [ey] at eR
      have hz2 : sameB e us.size ws.size = false := by unfold sameB; rw [eR]; simp
      have := fin s2 q2
      rw [hz2] at this
      wp_walk
      exact this
  case fin =>
    rintro ⟨b1, b2⟩ s' ⟨hb', iv, i, ez, eR⟩
    simp only at hb'
    subst hb'
    have ge1 : min us.size ws.size ≤ i := by
      rcases Nat.lt_or_ge i (us.toList.zip ws.toList).length with h' | h'
      · rw [List.drop_eq_getElem_cons h'] at ez; cases ez
      · exact eZ ▸ h'
    rw [List.drop_of_length_le (by simpa using ge1)] at eR
    have := fin s' iv
    unfold sameB at this
    rw [eR] at this
    wp_walk
    simpa [Builtin.Tuple.tupleCompareSizes, bne] using this
  case h =>
    exact ⟨rfl, h0, 0, rfl, rfl⟩
/-- x in a list -/
def InI (prog : Program) (w : World) (A : Around) (E : Value → Shared → Prop) (l : Addr) (x : Value) (N : Nat) (e : Nat → Bool) (I : Shared → Prop) : Prop :=
  ∀ s, I s → ∃ (us : Array Value) (n : Nat), s.heap.get? l = some { cls := .type "list", data := .seq us n } ∧ us.size = N ∧
    ∀ i (l1 : i < us.size), wpAny (model prog w) A.in1 (eqBool us[i] x) (fun r s' => r = e i ∧ I s') E s
theorem in_loopE (l : Addr) (x : Value) (N : Nat) (e : Nat → Bool) (I : Shared → Prop) (hl : InI prog w A (fun e s' => R (.error e) s') l x N e I)
    (fin : ∀ s, I s → R (.ok (.ret (.bool ((List.range N).any e)))) s) (k : Nat) :
    ∀ i : Nat, N - i = k → ((List.range N).any e = ((List.range N).drop i).any e) → ∀ s, I s → wpAny (model prog w) A.in1 (Builtin.«list.__contains__.loop» ⟨[.ref l, x, rawInt i], []⟩) (EndOf prog w A R) (fun e s' => R (.error e) s') s := by
  induction k with
  | zero =>
    intro i hk eR s h
    obtain ⟨us, n, hl1, hs1, _⟩ := hl _ h
    have hf := fin s h
    rw [eR, List.drop_of_length_le (by simp; omega)] at hf
    obtain ⟨hp, gs, dr, tks, os⟩ := s
    wp_walk using wpAny_loadPart' hl1
    have ei : us[((i : Nat) : Int).toNat]? = none := by simp; omega
    rw [ei]
    wp_walk
    exact hf
  | succ k ih =>
    intro i hk eR s h
    obtain ⟨us, n, hl1, hs1, turn⟩ := hl _ h
    have lt1 : i < us.size := by omega
    have ht := turn i lt1
    obtain ⟨hp, gs, dr, tks, os⟩ := s
    wp_walk using wpAny_loadPart' hl1
    have ei : us[((i : Nat) : Int).toNat]? = some us[i] := by simp [lt1]
    have ed : (List.range N).drop i = i :: (List.range N).drop (i + 1) := by
      have : i < N := by omega
      simp [List.drop_eq_getElem_cons, this]
    rw [ed, List.any_cons] at eR
    rw [ei]
    refine wpAny_bind (wpAny_mono ht (fun r s2 l2 => ?_) fun _ _ x => x)
    obtain ⟨hr, l2⟩ := l2
    subst hr
    cases hb : e i with
    | true =>
      rw [hb, Bool.true_or] at eR
      have hf := fin s2 l2
      rw [eR] at hf
      wp_walk
      exact hf
    | false =>
      rw [hb, Bool.false_or] at eR
      have ec : ((i : Int) + 1) = ((i + 1 : Nat) : Int) := by push_cast; rfl
      have hrec := ih (i + 1) (by omega) eR s2 l2
      obtain ⟨hp2, gs2, dr2, tks2, os2⟩ := s2
      wp_walk
      rw [ec]
      exact ⟨plainId_quiet plain_contains_loop _, codeAny_builtin entry_contains_loop (by
        rw [Around.under_plainId plain_contains_loop _]
        exact hrec)⟩
theorem list_inE (l : Addr) (x : Value) (N : Nat) (e : Nat → Bool) (I : Shared → Prop) (hl : InI prog w A (fun e s' => R (.error e) s') l x N e I)
    (fin : ∀ s, I s → R (.ok (.ret (.bool ((List.range N).any e)))) s) {s : Shared} (h : I s) :
    wpAny (model prog w) A.in1 (Builtin.«list.__contains__» ⟨[.ref l, x], []⟩) (EndOf prog w A R) (fun e s' => R (.error e) s') s := by
  have hrec := in_loopE (A := A) (R := R) l x N e I hl fin _ 0 rfl rfl s h
  obtain ⟨hp, gs, dr, tks, os⟩ := s
  wp_walk
  exact ⟨plainId_quiet plain_contains_loop _, codeAny_builtin entry_contains_loop (by
    rw [Around.under_plainId plain_contains_loop _]
    exact hrec)⟩
end
end GE
set_option Elab.async false
set_option linter.all false
set_option maxRecDepth 100000
set_option maxHeartbeats 4000000
namespace L2
open PySem PySem.Spec PyProof.Rows
/-! ### == and != with either answer, by the text's own == -/
/-- how two values compare by ==, by the abstract heap -/
abbrev Eqb := V → V → Hp → Bool → Prop
def MonB (D : Eqb) : Prop := ∀ x y H H' b, Ext H H' → D x y H b → D x y H' b
abbrev GrB (X : Cx) (pins : List (Addr × Obj)) (σ : St) (H : Hp) (s' : Shared) : Prop := ∃ H', Inv X pins σ H' s' ∧ Ext H H'
def EqB (X : Cx) (n : Nat) (D : Eqb) : Prop :=
  ∀ (A : Around) (pins : List (Addr × Obj)) (s : Shared) (σ : St) (H : Hp) (x y : V) (u v : Value) (b : Bool), Sub X n A → Inv X pins σ H s → RelV x u → RelV y v → D x y H b →
    wpAny (model X.prog X.w) A (eqBool u v) (fun r s' => r = b ∧ GrB X pins σ H s') X.xe s
def RcB (X : Cx) (n : Nat) (op : CmpOp) (D : Eqb) : Prop :=
  ∀ (A : Around) (pins : List (Addr × Obj)) (s : Shared) (σ : St) (H : Hp) (x y : V) (u v : Value) (b : Bool), Sub X n A → Inv X pins σ H s → RelV x u → RelV y v → D x y H b →
    wpAny (model X.prog X.w) A (richCompare op u v) (fun r s' => r = .bool b ∧ GrB X pins σ H s') X.xe s
section
variable {X : Cx} {n m : Nat} {D D' : Eqb}
theorem EqB.mono (h : EqB X n D) (hn : n ≤ m) : EqB X m D := fun A pins s σ H x y u v b sb => h A pins s σ H x y u v b (sb.mono hn)
theorem RcB.mono {op : CmpOp} (h : RcB X n op D) (hn : n ≤ m) : RcB X m op D := fun A pins s σ H x y u v b sb => h A pins s σ H x y u v b (sb.mono hn)
/-- data -/
def DDat (K : PySem.W.Frag) : Eqb := fun x y H b => ∃ d e, Dp K H x d ∧ Dp K H y e ∧ SeqAt.shaped d = true ∧ SeqAt.shaped e = true ∧ b = PyData.eqv d e
theorem eqB_dat : EqB X 0 (DDat X.K) := by
  intro A pins s σ H x y u v b sb I rx ry d
  obtain ⟨d, e, hd, he, sd, se, rfl⟩ := d
  obtain ⟨as, r1⟩ := Dp.reads I d x u hd rx
  obtain ⟨bs, r2⟩ := Dp.reads I e y v he ry
  have l1 := SeqAt.depth_of_shaped sd
  have un := sb.room.un
  exact SeqAt.eqAt_reads d e A s u v as bs r1 r2 (SeqAt.canLay_of_shaped sd) (SeqAt.canLay_of_shaped se) (by omega) X.prog X.w X.xe _ ⟨rfl, H, I, Ext.rfl'⟩
/-- item by item -/
def PrB (D : Eqb) (xs ys : List V) (H : Hp) (e : Nat → Bool) : Prop := ∀ (i : Nat) x y, xs[i]? = some x → ys[i]? = some y → D x y H (e i)
theorem turnB (hD : MonB D) (h : EqB X n D) {A : Around} (sb : Sub X (n + 1) A) {pins : List (Addr × Obj)} {σ : St} {H : Hp} {xs ys : List V} {us vs : List Value} {e : Nat → Bool} (p : PrB D xs ys H e) (r : Vals xs us) (r2 : Vals ys vs)
    (i : Nat) (l1 : i < us.toArray.size) (l2 : i < vs.toArray.size) (s' : Shared) (g : GrB X pins σ H s') :
    wpAny (model X.prog X.w) A.in1 (eqBool us.toArray[i] vs.toArray[i]) (fun r s2 => r = e i ∧ GrB X pins σ H s2) X.xe s' := by
  obtain ⟨H1, I1, e1⟩ := g
  have m1 : i < us.length := by simpa using l1
  have m2 : i < vs.length := by simpa using l2
  have k1 : i < xs.length := by rw [r.length]; exact m1
  have k2 : i < ys.length := by rw [r2.length]; exact m2
  obtain ⟨u, hu, ru⟩ := r.get (List.getElem?_eq_getElem k1)
  obtain ⟨v, hv, rv⟩ := r2.get (List.getElem?_eq_getElem k2)
  have eu : us.toArray[i] = u := by
    rw [List.getElem?_eq_getElem m1] at hu
    simpa using Option.some.inj hu
  have ev : vs.toArray[i] = v := by
    rw [List.getElem?_eq_getElem m2] at hv
    simpa using Option.some.inj hv
  rw [eu, ev]
  refine wpAny_mono (h A.in1 pins s' σ H1 _ _ u v _ sb.in1 I1 ru rv (hD _ _ _ _ _ e1 (p i _ _ (List.getElem?_eq_getElem k1) (List.getElem?_eq_getElem k2)))) (fun r s2 q => ?_) fun _ _ z => z
  obtain ⟨hr, H2, I2, e2⟩ := q
  exact ⟨hr, H2, I2, e1.trans e2⟩
def DTupB (K : PySem.W.Frag) (D : Eqb) : Eqb := fun x y H b => ∃ a c xs ys e, x = .ref a ∧ y = .ref c ∧ SqT K H a xs ∧ SqT K H c ys ∧ PrB D xs ys H e ∧ b = GE.sameB e xs.length ys.length
theorem rcB_tup (hD : MonB D) (h : EqB X n D) : RcB X (n + 1) .Eq (DTupB X.K D) := by
  intro A pins s σ H x y u v b sb I rx ry d
  obtain ⟨a, c, xs, ys, e, rfl, rfl, ha, hc, p, rfl⟩ := d
  cases rx
  cases ry
  obtain ⟨us, r, ⟨⟨k1, d1, t1, sl1⟩, o1, c1, n1, q1⟩, z⟩ := I.tuple ha
  obtain ⟨vs, r2, ⟨⟨k2, d2, t2, sl2⟩, o2, c2, n2, q2⟩, z2⟩ := I.tuple hc
  simp only at c1 q1 c2 q2
  subst c1 q1 c2 q2
  have w1 : us.toArray.size = xs.length := by rw [List.size_toArray, ← r.length]
  have w2 : vs.toArray.size = ys.length := by rw [List.size_toArray, ← r2.length]
  refine wpAny_richCompare_same_room (op := .Eq) ⟨_, o1, rfl⟩ ⟨_, o2, rfl⟩ F.slot_tuple_eq (GQ.call_here F.slot_tuple_eq ⟨_, o1, rfl⟩ F.entry_tuple_eq (F.args_tuple_eq_2 _ _) ?_) sb.room.units0
  exact GE.tuple_eqE (R := wants (fun v s' => v ≠ .notImplemented ∧ (v = .bool _ ∧ GrB X pins σ H s')) X.xe) a c us.toArray vs.toArray n1 n2 d1 d2 sl1 sl2 e (GrB X pins σ H) (fun i l1 l2 s' g => turnB hD h sb p r r2 i l1 l2 s' g)
    (fun s' g => ⟨(fun z => nomatch z), by rw [w1, w2], g⟩) o1 o2 ⟨H, I, Ext.rfl'⟩
theorem rnB_tup (hD : MonB D) (h : EqB X n D) : RcB X (n + 1) .NotEq (fun x y H b => DTupB X.K D x y H (!b)) := by
  intro A pins s σ H x y u v b sb I rx ry d
  obtain ⟨a, c, xs, ys, e, rfl, rfl, ha, hc, p, eb⟩ := d
  cases rx
  cases ry
  obtain ⟨us, r, ⟨⟨k1, d1, t1, sl1⟩, o1, c1, n1, q1⟩, z⟩ := I.tuple ha
  obtain ⟨vs, r2, ⟨⟨k2, d2, t2, sl2⟩, o2, c2, n2, q2⟩, z2⟩ := I.tuple hc
  simp only at c1 q1 c2 q2
  subst c1 q1 c2 q2
  have w1 : us.toArray.size = xs.length := by rw [List.size_toArray, ← r.length]
  have w2 : vs.toArray.size = ys.length := by rw [List.size_toArray, ← r2.length]
  have eb' : b = !GE.sameB e us.toArray.size vs.toArray.size := by rw [w1, w2, ← eb, Bool.not_not]
  subst eb'
  refine wpAny_richCompare_same_room (op := .NotEq) ⟨_, o1, rfl⟩ ⟨_, o2, rfl⟩ F.slot_tuple_ne (GQ.call_here F.slot_tuple_ne ⟨_, o1, rfl⟩ F.entry_tuple_ne (F.args_tuple_ne_2 _ _) ?_) sb.room.units0
  exact GE.tuple_neE (R := wants (fun v s' => v ≠ .notImplemented ∧ (v = .bool _ ∧ GrB X pins σ H s')) X.xe) a c us.toArray vs.toArray n1 n2 d1 d2 sl1 sl2 e (GrB X pins σ H) (fun i l1 l2 s' g => turnB hD h sb p r r2 i l1 l2 s' g)
    (fun s' g => ⟨(fun z => nomatch z), rfl, g⟩) o1 o2 ⟨H, I, Ext.rfl'⟩
/-- two objects, or one: == within a row sees at once that a thing is itself -/
theorem RcB.eqB (h : RcB X n .Eq D) (hr : ∀ x y H b, D x y H b → ∃ a c, x = .ref a ∧ y = .ref c) (one : ∀ pins σ H s x b, Inv X pins σ H s → D x x H b → b = true) : EqB X n D := by
  intro A pins s σ H x y u v b sb I rx ry d
  obtain ⟨a, c, rfl, rfl⟩ := hr _ _ _ _ d
  cases rx
  cases ry
  by_cases hac : a = c
  · subst hac
    exact SeqAt.EqAt.same (A := A) (s := s) (.ref a) X.prog X.w X.xe _ ⟨(one _ _ _ _ _ _ I d).symm, H, I, Ext.rfl'⟩
  · refine GQ.eqBool_refG hac (wpAny_mono (h A pins s σ H (.ref a) (.ref c) _ _ b sb I rfl rfl d) (fun r s' q => ?_) fun _ _ z => z)
    exact ⟨b, q.1, rfl, q.2⟩
/-! an own == -/
def spOwnEq (R : Eqb) : Sp := fun vs H Q _ => ∃ x y b, vs = [x, y] ∧ R x y H b ∧ ∀ H', Ext H H' → Q (.bl b) H'
/-- on the left an instance of the class at C; the type of what is on the right is known, and does not ask first -/
def DOwn (K : PySem.W.Frag) (C : Addr) (R : Eqb) : Eqb := fun x y H b => (∃ a dx fs, x = .ref a ∧ H a = some (.ins C dx fs)) ∧ (∃ t, TyX K H y t ∧ PySem.W.notFirst K C t = true) ∧ R x y H b
/-- the class has an own ==, and not an own != -/
structure OwnC (K : PySem.W.Frag) (C f : Addr) : Prop where
  eq : PySem.W.findIn K (.ref C) "__eq__" = some (some (.ref f))
  ne : PySem.W.findIn K (.ref C) "__ne__" = some (some (.builtin "object.__ne__"))
  fn : PySem.W.isFn K (.ref f) = true
  ob : PySem.W.mroIn K C (.type "object") = some true
section
variable {CX : CXT} {C f : Addr} {fd : FuncData} {ps : List Str} {R : Eqb} {E : XK}
/-- the own == is called -/
theorem own_call (G : FnOk X.prog X.w X.K X.mg X.base CX n f fd ps (spOwnEq R)) (hb : Binds X.K fd ps []) (hx : Passes CX X E) {A : Around} {pins : List (Addr × Obj)} {σ : St} {H : Hp} {s : Shared} {x y : V} {u v : Value} {b : Bool}
    (sb : Sub X n A) (I : Inv X pins σ H s) (rx : RelV x u) (ry : RelV y v) (hr : R x y H b) : wpAny (model X.prog X.w) A (call (.ref f) [u, v]) (fun r s' => r = .bool b ∧ GrB X pins σ H s') X.xe s := by
  have ask : spOwnEq R [x, y] H (fun v H' => v = .bl b ∧ Ext H H') E := ⟨x, y, b, rfl, hr, fun H' e => ⟨rfl, e⟩⟩
  have e0 : Env0 X.prog X.w X.K X.mg X.base A X.stack s H := by
    have e := I.env0
    exact ⟨by rw [sb.fr]; exact e.frames, e.mod, e.bs, e.bsz, e.funs, e.frf, e.hok, e.bare⟩
  have hl := G.len _ _ _ _ ask
  refine wpAny_call (codeAny_mono (G.run A X.stack s H ⟨[u, v], []⟩ [u, v] [x, y] _ E sb.room e0 (by
    have := hb s [u, v] I.kIn (by simpa using hl)
    simpa using this) (.cons rx (.cons ry .nil)) ask) fun r s' out => ?_)
  cases r with
  | error z => exact hx pins σ H s z s' I out
  | ok fl =>
    cases fl with
    | ret w =>
      obtain ⟨z, H', I', rz, ez, ex⟩ := I.after out
      subst ez
      cases rz
      exact ⟨rfl, H', I', ex⟩
    | next | brk | cont => exact False.elim out
theorem rcB_own (G : FnOk X.prog X.w X.K X.mg X.base CX n f fd ps (spOwnEq R)) (o : OwnC X.K C f) (hb : Binds X.K fd ps []) (hx : Passes CX X E) : RcB X n .Eq (DOwn X.K C R) := by
  intro A pins s σ H x y u v b sb I rx ry d
  obtain ⟨⟨a, dx, fs, rfl, ha⟩, ⟨t, ty, hn⟩, hr⟩ := d
  cases rx
  obtain ⟨mA, J, _⟩ := ins_get I.hok ha
  obtain ⟨od, J, _⟩ := J.look
  obtain ⟨P, Z, p, _⟩ := kit_of I ry ty
  obtain ⟨m, hF⟩ := I.fr
  refine PySem.W.cmp_K (op := .Eq) (tb := t) sb.room.units0 hF I.ok.mod.kin J (Z.ty _ _ I.kIn p) hn o.eq o.fn ?_
  refine wpAny_mono (own_call G hb hx sb I (show RelV (.ref a) (.ref a) from rfl) ry hr) (fun r s' q => ?_) fun _ _ z => z
  obtain ⟨rfl, g⟩ := q
  exact ⟨rfl, g⟩
/-- a != b by the own == -/
theorem rnB_own (G : FnOk X.prog X.w X.K X.mg X.base CX n f fd ps (spOwnEq R)) (o : OwnC X.K C f) (hb : Binds X.K fd ps []) (hx : Passes CX X E) : RcB X (n + 1) .NotEq (fun x y H b => DOwn X.K C R x y H (!b)) := by
  intro A pins s σ H x y u v b sb I rx ry d
  obtain ⟨⟨a, dx, fs, rfl, ha⟩, ⟨t, ty, hn⟩, hr⟩ := d
  cases rx
  obtain ⟨mA, J, _⟩ := ins_get I.hok ha
  obtain ⟨od, J, _⟩ := J.look
  obtain ⟨P, Z, p, _⟩ := kit_of I ry ty
  have LT := Z.ty (model X.prog X.w) s.heap I.kIn p
  have un := sb.room.un
  have one : wpAny (model X.prog X.w) A (tryCompare (.ref a) "__ne__" v) (fun r s' => r = some (.bool b) ∧ GrB X pins σ H s') X.xe s := by
    unfold tryCompare
    simp only [callSpecialIfBound?, bindSpecialIfBound?]
    have body : wpAny (model X.prog X.w) A (call (.builtin "object.__ne__") [.ref a, v]) (fun r s' => r = .bool b ∧ GrB X pins σ H s') X.xe s := by
      refine wpAny_call (codeAny_call_builtin F.cmp_object.ne.plain F.cmpEntry_ne (PySem.W.check_slot F.cmpKind_ne F.cmpSplit_ne (J.type.andThen (PySem.W.looks_mroIn I.kIn o.ob)) (F.cmpArgs_ne _ _) ?_))
      unfold Builtin.«object.__ne__»
      have inner : wpAny (model X.prog X.w) A.in1 (callSpecialIfBound? (.ref a) "__eq__" [v]) (fun r s' => r = some (.bool (!b)) ∧ GrB X pins σ H s') X.xe s :=
        PySem.W.ifBound_K I.kIn J o.eq o.fn (wpAny_mono (own_call G hb hx sb.in1 I (show RelV (.ref a) (.ref a) from rfl) ry hr) (fun r s' q => ⟨congrArg some q.1, q.2⟩) fun _ _ z => z)
      have un1 : A.in1.units < cLine := by show A.units + 1 < cLine; omega
      have close : wpAny (model X.prog X.w) A.in1 (do
          cRoomFor "comparison" [.ref a, v]
          match ← callSpecialIfBound? (.ref a) "__eq__" [v] with
          | some .notImplemented | none => ret .notImplemented
          | some r => ret (.bool (!(← truthy r)))) (GQ.FinOf X.prog X.w A (wants (fun r s' => r = .bool b ∧ GrB X pins σ H s') X.xe)) (fun e s' => wants (fun r s' => r = .bool b ∧ GrB X pins σ H s') X.xe (.error e) s') s := by
        refine wpAny_bind (wpAny_cRoomFor un1 (wpAny_bind (wpAny_mono inner (fun r s' q => ?_) fun _ _ z => z)))
        obtain ⟨rfl, g⟩ := q
        refine wpAny_bind (wpAny_truthy_bool ?_)
        refine wpAny_pure ?_
        exact ⟨by rw [Bool.not_not], g⟩
      exact close
    refine wpAny_bind (wpAny_holding (wpAny_bind (wpAny_bind (wpAny_bind (J.type.here ((PySem.W.looks_findIn I.kIn o.ne).here ?_))))))
    refine wpAny_bind (wpAny_askSetting (wpAny_ite ?_))
    have fin : ∀ Q' : Option Value → Shared → Prop, (∀ s', GrB X pins σ H s' → Q' (some (.bool b)) s') → wpAny (model X.prog X.w) A (call (.builtin "object.__ne__") ([.ref a] ++ [v]) >>= fun r => pure (some r)) Q' X.xe s := fun Q' k =>
      wpAny_bind (wpAny_mono body (fun r s' q => by obtain ⟨rfl, g⟩ := q; exact wpAny_pure (k s' g)) fun _ _ z => z)
    split
    · exact wpAny_bind (wpAny_of_eq (F.cmp_object.ne.bind _) (wpAny_pure (by exact fin _ fun s' g => wpAny_pure ⟨rfl, g⟩)))
    · exact wpAny_tryCatch (wpAny_bind (wpAny_of_eq (F.cmp_object.ne.bind _) (wpAny_pure (by exact fin _ fun s' g => wpAny_pure ⟨rfl, g⟩))))
  unfold richCompare
  simp only [oneThing_ref]
  refine wpAny_holding (wpAny_bind (wpAny_cRoomFor sb.room.units0 ?_))
  refine wpAny_bind (J.type.here (wpAny_bind (LT.here ?_)))
  have go : ∀ (k : Option Value → Sem Value), (∀ r s', k (some r) = pure r) → wpAny (model X.prog X.w) A (tryCompare (.ref a) "__ne__" v >>= k) (fun r s' => r = .bool b ∧ GrB X pins σ H s') X.xe s := fun k hk =>
    wpAny_bind (wpAny_mono one (fun r s' q => by obtain ⟨rfl, g⟩ := q; rw [hk _ s']; exact wpAny_pure ⟨rfl, g⟩) fun _ _ z => z)
  split
  · rename_i q
    have e : PySem.W.subIn X.K t (.ref C) = some false := by
      rcases Bool.or_eq_true_iff.mp hn with e | e
      · rw [beq_iff_eq.mp e] at q
        simp at q
      · exact beq_iff_eq.mp e
    refine wpAny_bind ((PySem.W.looks_subIn I.kIn e).here ?_)
    simp only [Bool.false_eq_true, if_false]
    exact go _ fun r s' => rfl
  · refine wpAny_bind (wpAny_pure ?_)
    simp only [Bool.false_eq_true, if_false]
    exact go _ fun r s' => rfl
end
end
/-! ### the operators -/
def rEqB (D : Eqb) : R2 := fun x y H Q => ∃ b, D x y H b ∧ ∀ H', Ext H H' → Q (.bl b) H'
/-- x in a list whose items D compares with it -/
def rInB (D : Eqb) : R2 := fun x y H Q => ∃ p xs e, y = .ref p ∧ H p = some (.lst xs) ∧ (∀ (i : Nat) z, xs[i]? = some z → D z x H (e i)) ∧ ∀ H', Ext H H' → Q (.bl ((List.range xs.length).any e)) H'
section
variable {X : Cx} {n : Nat} {D : Eqb}
theorem op_eqB (h : RcB X n .Eq D) (hr : Room n X.A) : OpR X (compareOp .Eq) (rEqB D) := by
  intro pins s σ H x y v u Q I rx ry hq
  obtain ⟨b, d, q⟩ := hq
  show wpAny (model X.prog X.w) X.A (richCompare .Eq v u) (EP X pins σ Q) X.xe s
  refine wpAny_mono (h X.A pins s σ H x y v u b ⟨hr, rfl⟩ I rx ry d) (fun r s' z => ?_) fun _ _ x => x
  obtain ⟨rfl, H', I', e⟩ := z
  exact ⟨.bl b, H', I', rfl, q H' e⟩
theorem op_neB (h : RcB X n .NotEq D) (hr : Room n X.A) : OpR X (compareOp .NotEq) (rEqB D) := by
  intro pins s σ H x y v u Q I rx ry hq
  obtain ⟨b, d, q⟩ := hq
  show wpAny (model X.prog X.w) X.A (richCompare .NotEq v u) (EP X pins σ Q) X.xe s
  refine wpAny_mono (h X.A pins s σ H x y v u b ⟨hr, rfl⟩ I rx ry d) (fun r s' z => ?_) fun _ _ x => x
  obtain ⟨rfl, H', I', e⟩ := z
  exact ⟨.bl b, H', I', rfl, q H' e⟩
theorem op_inB (hD : MonB D) (h : EqB X n D) (hr : Room (n + 1) X.A) : OpR X (compareOp .In) (rInB D) := by
  intro pins s σ H x y v u Q I rx ry hq
  obtain ⟨p, xs, e, rfl, hp, d, q⟩ := hq
  cases ry
  obtain ⟨z, us, k, r, o1⟩ := I.hok p _ hp
  refine PyProof.Rows.In_slot ⟨_, o1, rfl⟩ F.slot_list_contains ?_
  refine GQ.call_here F.slot_list_contains ⟨_, o1, rfl⟩ F.entry_list_contains (F.args_list_contains_2 _ _) ?_
  refine GE.list_inE (R := wants _ X.xe) p v xs.length e (GrB X pins σ H) (fun s1 g => ?_) (fun s1 g => ?_) ⟨H, I, Ext.rfl'⟩
  · obtain ⟨H1, I1, e1⟩ := g
    obtain ⟨z1, us1, k1, r1, o2⟩ := I1.hok p _ (e1 _ _ hp)
    refine ⟨us1.toArray, k1, o2, by rw [List.size_toArray, ← r1.length], fun i l1 => ?_⟩
    have m1 : i < us1.length := by simpa using l1
    have k1 : i < xs.length := by rw [r1.length]; exact m1
    obtain ⟨w, hw, rw'⟩ := r1.get (List.getElem?_eq_getElem k1)
    have eu : us1.toArray[i] = w := by
      rw [List.getElem?_eq_getElem m1] at hw
      simpa using Option.some.inj hw
    rw [eu]
    refine wpAny_mono (h X.A.in1 pins s1 σ H1 _ _ w v _ ⟨hr.in1, rfl⟩ I1 rw' rx (hD _ _ _ _ _ e1 (d i _ (List.getElem?_eq_getElem k1)))) (fun b s2 g => ?_) fun _ _ z => z
    obtain ⟨eb, H2, I2, e2⟩ := g
    exact ⟨eb, H2, I2, e1.trans e2⟩
  · obtain ⟨H1, I1, e1⟩ := g
    exact wpAny_truthy_bool ⟨.bl _, H1, I1, rfl, q H1 e1⟩
end
end L2
set_option Elab.async false
set_option linter.all false
set_option maxRecDepth 100000
set_option maxHeartbeats 4000000
namespace L2
open PySem PySem.Spec PyProof.Rows
/-! ### a list, or a tuple taken alike -/
def SqB (K : PySem.W.Frag) (t : Bool) (H : Hp) (a : Addr) (xs : List V) : Prop := match t with
  | true => SqT K H a xs
  | false => SqL K H a xs
def ItB (K : PySem.W.Frag) (t : Bool) (a : Addr) : It := match t with
  | true => Itt K a
  | false => Itl K a
def iSeq (K : PySem.W.Frag) (tl : TE) : TI := fun σ H R => tl σ H fun x H1 => ∃ a t, x = .ref a ∧ (∃ xs, SqB K t H1 a xs) ∧ R (ItB K t a) H1
theorem pi_seq {X : Cx} {tg l : Expr} {tl : TE} (hl : PE X l tl) : PI X tg l (iSeq X.K tl) := by
  refine ⟨fun pins s σ H R I h => thn (hl.run pins s σ H _ I h) fun v s1 got => ?_⟩
  obtain ⟨x, H1, I1, r1, a, t, ex, ⟨xs, hq⟩, q⟩ := got
  subst ex
  cases r1
  have fo : ∀ b, b ∈ [s1.heap.objs.size] → FpOk X pins H1 b := fun b hb => by
    rw [List.mem_singleton.mp hb]
    exact I1.fpOk (Nat.le_refl _) (I1.hok.fresh (Nat.le_refl _))
  cases t with
  | false =>
    obtain ⟨us, rv, p, _⟩ := I1.list hq
    exact wpAny_pyIter_list p.isList ⟨_, _, _, _, H1, rfl, I1.kept (t' := s1.toks) fun b o e => Heap.get?_push_of_some _ e, turn_list a _, ⟨_, Heap.get?_push_size _ rfl, rfl, rfl⟩, fo, q⟩
  | true =>
    obtain ⟨us, rv, p, _⟩ := I1.tuple hq
    exact wpAny_pyIter_tuple (show s1.heap.IsTuple a us.toArray from p) ⟨_, _, _, _, H1, rfl, I1.kept (t' := s1.toks) fun b o e => Heap.get?_push_of_some _ e, turn_tuple a _, ⟨_, Heap.get?_push_size _ rfl, rfl, rfl⟩, fo, q⟩
/-! enumerate of a tuple -/
def IteT (K : PySem.W.Frag) (a : Addr) : It :=
  ⟨fun i H => ∃ (xs : List V) (x : V), SqT K H a xs ∧ xs[i]? = some x, fun i H v H' => ∃ T x, v = .ref T ∧ H T = none ∧ H' = upd H T (.tup [.int (i : Nat), x]) ∧ ∀ xs, SqT K H a xs → xs[i]? = some x, fun i H => ∃ xs : List V, SqT K H a xs ∧ xs.length = i⟩
theorem turn_enumT {P : Program} {w : World} {K : PySem.W.Frag} {elts : List Expr} {kk : Nat} {tpos : Pos} (a e it : Addr) :
    Turn P w K (.Tuple elts kk tpos) (IteT K a) [e, it] e (fun i h => (∃ old, IsEnum h e it ((i : Nat) : Int) old) ∧ h.IsTupleIter it a i ∧ e ≠ it ∧ a ≠ e ∧ a ≠ it) where
  mem := by simp
  obj := fun i h st b hb => by
    obtain ⟨⟨old, he⟩, ⟨o, ho, hc, dt⟩, _⟩ := st
    rcases (show b = e ∨ b = it by simpa using hb) with z | z
    · rw [z]
      exact ⟨_, he, fun v q => nomatch q⟩
    · rw [z]
      exact ⟨o, ho, fun v q => by rw [dt] at q; cases q⟩
  keep := fun i h h' st k => by
    obtain ⟨⟨old, he⟩, si, n1, n2, n3⟩ := st
    exact ⟨⟨old, k e (by simp) _ he⟩, si.at fun o q => k it (by simp) o q, n1, n2, n3⟩
  item := by
    intro X hP hw hK hc i pins s σ H E I hf st hg
    subst hP hw hK
    obtain ⟨⟨old, he⟩, si, n1, n2, n3⟩ := st
    obtain ⟨xs, x, hq, hx⟩ := hg
    obtain ⟨us, rv, p, _⟩ := I.tuple hq
    obtain ⟨u, hu, ru⟩ := rv.get hx
    have le : e < s.heap.objs.size := Heap.lt_size he
    have li : it < s.heap.objs.size := by obtain ⟨_, q, _⟩ := si; exact Heap.lt_size q
    have lt : i < us.toArray.size := by
      have := (List.getElem?_eq_some_iff.mp hu).1
      simpa using this
    refine wpAny_pyNext_enum_itemC (c := (i : Nat)) (Draws.tuple (prog := X.prog) (w := X.w) (A := X.A.in1) (I.ok.hd hc) it a n3 us.toArray) he ⟨si, (show s.heap.IsTuple a us.toArray from p)⟩ lt n1 (by simp [n1, Ne.symm n2])
      fun y h' tk hP ho st' hT hsz hk => ?_
    have ey : y = u := by
      have e1 : us[i]? = some y := by simpa using hP
      rw [hu] at e1
      exact (Option.some.inj e1).symm
    subst ey
    refine ⟨_, rfl, wpAny_letOwnedTupleGo_enum (s := { s with heap := h', toks := tk + 1 }) ho fun h2 he' sb => ?_⟩
    have hT2 : h2.get? s.heap.objs.size = some { cls := .type "tuple", data := .seq #[.int i tk, y] } := (sb.2 _ (Nat.ne_of_gt le)).trans hT
    have new : ObjOk X.prog X.w (upd H s.heap.objs.size (.tup [.int (i : Nat), x])) h2 s.heap.objs.size (.tup [.int (i : Nat), x]) :=
      ⟨by show 2 ≤ sizeLine; decide, [.int i tk, y], .cons ⟨_, rfl⟩ (.cons ru .nil), ⟨_, hT2, rfl, _, rfl⟩⟩
    have I1 : Inv X pins σ (upd H s.heap.objs.size (.tup [.int (i : Nat), x])) { s with heap := h2, toks := tk + 1 } :=
      I.turnedNew (t' := tk + 1) (ch := [e, it]) (fun b ob hb q => (sb.2 b (fun z => hb (by simp [z]))).trans (hk b ob (fun z => hb (by simp [z])) (fun z => hb (by simp [z])) q)) hf (Nat.le_refl _) new
    refine ⟨.ref s.heap.objs.size, _, I1, rfl, ⟨_, x, rfl, I.hok.fresh (Nat.le_refl _), rfl, fun ys ey => by rw [I.tuple_inj ey hq]; exact hx⟩, ⟨⟨y, ?_⟩, st'.1.at fun o q => (sb.2 it (Ne.symm n1)).trans q, n1, n2, n3⟩, fun b hb => ?_⟩
    · rw [show ((i + 1 : Nat) : Int) = (i : Int) + 1 by omega]
      exact he'
    · have lb : b < s.heap.objs.size := by
        rcases (show b = e ∨ b = it by simpa using hb) with z | z
        · rw [z]; exact le
        · rw [z]; exact li
      rw [upd_ne (Nat.ne_of_lt lb)]
      exact (hf b hb).1
  done := by
    intro X hP hw hK hc i pins s σ H E I hf st hg
    subst hP hw hK
    obtain ⟨⟨old, he⟩, si, n1, n2, n3⟩ := st
    obtain ⟨xs, hq, hx⟩ := hg
    obtain ⟨us, rv, p, _⟩ := I.tuple hq
    obtain ⟨f0, f1, f2, f3, f4, f5⟩ := hf it (by simp)
    have ln : us.toArray.size = i := by
      rw [← hx, rv.length]
      simp
    subst ln
    exact wpAny_pyNext_enum_endD (Draws.tuple (prog := X.prog) (w := X.w) (A := X.A.in1) (I.ok.hd hc) it a n3 us.toArray) he ⟨si, (show s.heap.IsTuple a us.toArray from p)⟩ fun h' eb => ⟨rfl, I.turned (t' := s.toks) (fun b o hb q => eb b o hb q) f0 f1 f3 f4 f5⟩
  self := fun A i s Q E st h => by
    obtain ⟨⟨_, he⟩, _⟩ := st
    exact wpAny_pyIter_enum he h

theorem meets_enumB {v : Value} {o : Obj} {G : Heap → Prop} (B : Begins v o G) : Meets (Builtin.«enumerate.__new__» ⟨[.type "enumerate", v], []⟩) (fun _ R s => G s.heap ∧
      R (.ok (.ret (.ref (s.heap.push o).objs.size))) { s with heap := (s.heap.push o).push { cls := .type "enumerate", data := .fields #[.none, .bool false, .ref s.heap.objs.size, rawInt 0, .none, .none] } }) :=
  .of_wp fun prog w A R s hh => by
    obtain ⟨hp, gs, dr, tks, os⟩ := s
    obtain ⟨g, hR⟩ := hh
    have sub1 := sub_enumerate
    have it1 : ∀ {A' : Around} {E : Value → Shared → Prop} {Q : Value → Shared → Prop}, Q (.ref hp.objs.size) ⟨hp.push o, gs, dr, tks, os⟩ → wpAny (model prog w) A' (pyIter v) Q E ⟨hp, gs, dr, tks, os⟩ :=
      fun q => B.iter prog w _ _ ⟨hp, gs, dr, tks, os⟩ _ g q
    wp_walk using it1
    refine wpAny_stack_any fun st => wpAny_pure ?_
    split
    · rename_i c _ _ _ _ _
      cases (c == Value.type "enumerate")
      · wp_walk using it1
        exact ⟨_, rfl, hR⟩
      · wp_walk using it1
        exact ⟨_, rfl, hR⟩
    · wp_walk using it1
      exact ⟨_, rfl, hR⟩
theorem call_enumB {prog : Program} {w : World} {A : Around} {E : Value → Shared → Prop} {s : Shared} {v : Value} {o : Obj} {G : Heap → Prop} {Q : Value → Shared → Prop} (B : Begins v o G) (g : G s.heap)
    (k : ∀ h', IsEnum h' (s.heap.objs.size + 1) s.heap.objs.size 0 .none → h'.get? s.heap.objs.size = some o → (∀ b o', s.heap.get? b = some o' → h'.get? b = some o') → Q (.ref (s.heap.objs.size + 1)) { s with heap := h' }) :
    wpAny (model prog w) A (call (.type "enumerate") [v]) Q E s := by
  have z1 : (s.heap.push o).objs.size = s.heap.objs.size + 1 := Heap.size_push ..
  have e1 : IsEnum ((s.heap.push o).push { cls := .type "enumerate", data := .fields #[.none, .bool false, .ref s.heap.objs.size, rawInt 0, .none, .none] }) (s.heap.objs.size + 1) s.heap.objs.size 0 .none := by
    have e := Heap.get?_push_size (s.heap.push o) (o := { cls := .type "enumerate", data := .fields #[.none, .bool false, .ref s.heap.objs.size, rawInt 0, .none, .none] }) rfl
    rw [z1] at e
    exact e
  refine callType_new F.called_enumerate (by decide) (F.typeCall_enumerate_1 _) (F.newCall_enumerate_1 _) (fun ob => F.args_object_init_2 ob _) F.entry_enumerate_new (meets_enumB B) ⟨g, ?_⟩
  show _ ∧ _
  rw [z1]
  exact ⟨⟨_, e1, rfl⟩, k _ e1 (Heap.get?_push_of_some _ (Heap.get?_push_size _ B.free)) fun b o' q => Heap.get?_push_of_some _ (Heap.get?_push_of_some _ q)⟩
/-- at each turn the number and the item in a new pair -/
def IeB (K : PySem.W.Frag) (t : Bool) (a : Addr) : It := match t with
  | true => IteT K a
  | false => Ite K a
def iEnumB (K : PySem.W.Frag) (ta : TA) : TI := fun σ H R => ta σ H fun vs H1 => ∃ a t xs, vs = [.ref a] ∧ SqB K t H1 a xs ∧ R (IeB K t a) H1
theorem pi_enumB {X : Cx} {e : Expr} {ta : TA} {p pos tpos : Pos} {elts : List Expr} {kk : Nat} (hg : Gl X "enumerate") (hm : X.mg "enumerate" = none) (ha : PA X [e] ta) (hs : starEach [e] X.env = [(false, eval e X.env)] := by rfl) :
    PI X (.Tuple elts kk tpos) (.Call (.Name "enumerate" p) [e] [] pos) (iEnumB X.K ta) := by
  refine ⟨fun pins s σ H R I h => Call_ (ld_blt I hg hm boot_enumerate (PyProof.Rows.callWith_type1 (thn (ha.run pos pins s σ H _ I h) fun us s1 got => ?_) hs rfl))⟩
  obtain ⟨vs, H1, I1, r1, a, t, xs, ex, hq, q⟩ := got
  subst ex
  cases r1 with
  | cons r rr =>
    cases rr
    cases r
    have fo : ∀ b ∈ [s1.heap.objs.size + 1, s1.heap.objs.size], FpOk X pins H1 b := fun b hb => by
      have le : s1.heap.objs.size ≤ b := by
        rcases (show b = s1.heap.objs.size + 1 ∨ b = s1.heap.objs.size by simpa using hb) with z | z
        · rw [z]; exact Nat.le_add_right _ _
        · rw [z]; exact Nat.le_refl _
      exact I1.fpOk le (I1.hok.fresh le)
    cases t with
    | false =>
      obtain ⟨us, rv, p', _⟩ := I1.list hq
      exact call_enumerate_list p'.isList fun h' he hit hsz hk => wpAny_pyIter_enum he ⟨_, _, _, _, H1, rfl, I1.kept (t' := s1.toks) hk, turn_enum a (s1.heap.objs.size + 1) s1.heap.objs.size, ⟨⟨.none, he⟩, hit, Nat.succ_ne_self _⟩, fo, q⟩
    | true =>
      obtain ⟨us, rv, p', _⟩ := I1.tuple hq
      have p2 : s1.heap.IsTuple a us.toArray := p'
      have la : a < s1.heap.objs.size := by obtain ⟨o, ho, _⟩ := p2; exact Heap.lt_size ho
      exact call_enumB (begins_tuple a us.toArray) p2 fun h' he ho hk => wpAny_pyIter_enum he ⟨_, _, _, _, H1, rfl, I1.kept (t' := s1.toks) hk, turn_enumT a (s1.heap.objs.size + 1) s1.heap.objs.size, ⟨⟨.none, he⟩, ⟨_, ho, rfl, rfl⟩, Nat.succ_ne_self _, Nat.ne_of_lt (Nat.lt_succ_of_lt la), Nat.ne_of_lt la⟩, fo, q⟩
section
variable {K : PySem.W.Frag} {a : Addr} {xs : List V} {t : Bool}
theorem SqB.up {H H' : Hp} (h : SqB K t H a xs) (s : Same H H') : SqB K t H' a xs := by
  cases t with
  | false => exact s.seq h
  | true => exact Evl.ex_t s h
theorem walk_B : Walk (ItB K t a) xs.length (fun H => SqB K t H a xs) (fun i H x H' => H' = H ∧ x = xs.getD i .non) := by
  cases t with
  | false => exact walk_list.mono (fun _ h => h) (fun i H x H' _ _ y => ⟨y.1, by rw [List.getD_eq_getElem?_getD, y.2]; rfl⟩)
  | true => exact walk_tup.mono (fun _ h => h) (fun i H x H' _ _ y => ⟨y.1, by rw [List.getD_eq_getElem?_getD, y.2]; rfl⟩)
theorem walk_eB : Walk (IeB K t a) xs.length (fun H => SqB K t H a xs) (fun i H v H' => ∃ T : Addr, v = .ref T ∧ H T = none ∧ H' = upd H T (.tup [.int (i : Nat), xs.getD i .non])) := by
  cases t with
  | false =>
    refine ⟨fun i H hi h => ⟨xs, _, h, List.getElem?_eq_getElem hi⟩, fun H h => ⟨xs, h, Nat.le_refl _⟩, fun i H v H' hi h y => ?_⟩
    obtain ⟨T, x, rfl, n, rfl, e⟩ := y
    refine ⟨T, rfl, n, ?_⟩
    rw [List.getD_eq_getElem?_getD, e _ h]
    rfl
  | true =>
    refine ⟨fun i H hi h => ⟨xs, _, h, List.getElem?_eq_getElem hi⟩, fun H h => ⟨xs, h, rfl⟩, fun i H v H' hi h y => ?_⟩
    obtain ⟨T, x, rfl, n, rfl, e⟩ := y
    refine ⟨T, rfl, n, ?_⟩
    rw [List.getD_eq_getElem?_getD, e _ h]
    rfl
end
end L2
set_option Elab.async false
set_option linter.all false
set_option maxRecDepth 100000
set_option maxHeartbeats 4000000
/-! what conditions are like -/
namespace L2
open PySem PySem.Spec PyProof.Rows TL Mi
/-- a tuple is not nested too deep, and its texts are texts -/
def shT (d : PyData) : Prop := ∀ ds, d = .tuple ds → SeqAt.shaped (.tuple ds) = true
/-- texts and rows within a thing are not too long, two levels deep -/
def szw (d : PyData) : Prop := ∀ ds, d = .tuple ds → ∀ e ∈ ds, szd e
def szc2 (d : PyData) : Prop := szw d ∧ ∀ a b, d = .tuple [a, b] → szw b
def sz0 : C0 → Prop
  | .ends ts => ts.length ≤ 50000 ∧ ∀ t ∈ ts, t.length ≤ 50000
  | .shape s => s.length ≤ 50000
  | _ => True
def szc : Cond → Prop
  | .pos c => sz0 c
  | .neg c => sz0 c
/-- texts in a condition are texts -/
def ow0 : C0 → Prop
  | .ends ts => ∀ t ∈ ts, okS t
  | _ => True
def owc : Cond → Prop
  | .pos c => ow0 c
  | .neg c => ow0 c
def sm0 (z : Str) : C0 → Prop
  | .runs m => 0 ≤ m ∧ m ≤ 2
  | .ends ts => ts.length ≤ 2 ∧ ∀ t ∈ ts, t.length ≤ 2 ∧ ∀ c ∈ tl t, c ∈ tl z
  | .least k => 0 ≤ k ∧ k ≤ 3
  | .shape s => s.length ≤ 4 ∧ ∀ c ∈ tl s, c = 118 ∨ c = 111
  | _ => True
def smc (z : Str) : Cond → Prop
  | .pos c => sm0 z c
  | .neg c => sm0 z c
def menu : List Str := ["ab", "abc", "ba", "cab", "abcd", "a", "voz"]
theorem menu_len : ∀ s ∈ menu, 0 < s.length ∧ s.length ≤ 4 := by decide +kernel
theorem menu_at {d : Int} (h : 0 ≤ d) (h2 : d < 7) : ∃ s ∈ menu, (menu.map V.str)[d.toNat]? = some (.str s) := by
  have hl : d.toNat < menu.length := by show d.toNat < 7; omega
  exact ⟨menu[d.toNat], List.getElem_mem hl, by rw [List.getElem?_map, List.getElem?_eq_getElem hl]; rfl⟩
theorem menu_okS : ∀ s ∈ menu, okS s := by
  intro s hs c hc
  have h : ∀ s ∈ menu, ∀ c ∈ tl s, c < 1114112 := by decide +kernel
  exact h s hs c hc
theorem isPl2 (k v : PyData) : isPl (.tuple [k, v]) = (if inT ["runs", "least"] k = true then isNum v else if PyData.eqv k (.str "ends") = true then isTexts v else PyData.eqv k (.str "shape") && isTextOf v "vo") := rfl
theorem isCd2 (k v : PyData) : isCd (.tuple [k, v]) = (if PyData.eqv k (.str "not") = true then isPl v else isPl (.tuple [k, v])) := rfl
theorem isPl_enc {c : C0} (h : ok0 c) : isPl (enc0 c) = true := by
  cases c with
  | vowel => decide +kernel
  | double => decide +kernel
  | runs m =>
    show isPl (.tuple [.str "runs", .int m]) = true
    rw [isPl2, if_pos (by decide +kernel)]
    exact decide_eq_true h
  | least m =>
    show isPl (.tuple [.str "least", .int m]) = true
    rw [isPl2, if_pos (by decide +kernel)]
    exact decide_eq_true h
  | ends ts =>
    show isPl (.tuple [.str "ends", .tuple (ts.map .str)]) = true
    rw [isPl2, if_neg (by decide +kernel), if_pos (by decide +kernel)]
    show (ts.map PyData.str).all isStrD = true
    rw [List.all_map]
    exact List.all_eq_true.mpr fun _ _ => rfl
  | shape s =>
    show isPl (.tuple [.str "shape", .str s]) = true
    rw [isPl2, if_neg (by decide +kernel), if_neg (by decide +kernel)]
    refine Bool.and_eq_true_iff.mpr ⟨by decide +kernel, ?_⟩
    refine List.all_eq_true.mpr fun c hc => decide_eq_true ?_
    have e : tl ("vo" : Str) = [118, 111] := by decide +kernel
    rw [e]
    rcases h c hc with rfl | rfl <;> simp
theorem isCd_enc {c : Cond} (h : okc c) : isCd (enc c) = true := by
  cases c with
  | neg c =>
    show isCd (.tuple [.str "not", enc0 c]) = true
    rw [isCd2, if_pos (by decide +kernel)]
    exact isPl_enc h
  | pos c =>
    have h0 := isPl_enc h
    cases c with
    | vowel => exact h0
    | double => exact h0
    | runs m =>
      show isCd (.tuple [.str "runs", .int m]) = true
      rw [isCd2, if_neg (by decide +kernel)]
      exact h0
    | least m =>
      show isCd (.tuple [.str "least", .int m]) = true
      rw [isCd2, if_neg (by decide +kernel)]
      exact h0
    | ends ts =>
      show isCd (.tuple [.str "ends", .tuple (ts.map .str)]) = true
      rw [isCd2, if_neg (by decide +kernel)]
      exact h0
    | shape s =>
      show isCd (.tuple [.str "shape", .str s]) = true
      rw [isCd2, if_neg (by decide +kernel)]
      exact h0
/-- what a condition is like -/
structure Fit (c : Cond) : Prop where
  ok : okc c
  sz : szc c
  ow : owc c
  sh : shT (enc c)
  s2 : szc2 (enc c)
  cd : isCd (enc c) = true
theorem lay0_enc {c : C0} (hw : ow0 c) (hs : ∀ s, c = .shape s → okS s) : (enc0 c).canLay0 = true ∧ (enc0 c).depth ≤ 3 := by
  cases c with
  | vowel => exact ⟨by decide +kernel, by decide +kernel⟩
  | double => exact ⟨by decide +kernel, by decide +kernel⟩
  | runs m => exact ⟨by show (PyData.canLay0 (.str "runs") && true) = true; decide +kernel, by show max 0 (max 0 0) + 1 ≤ 3; decide⟩
  | least m => exact ⟨by show (PyData.canLay0 (.str "least") && true) = true; decide +kernel, by show max 0 (max 0 0) + 1 ≤ 3; decide⟩
  | ends ts =>
    refine ⟨?_, ?_⟩
    · show (PyData.canLay0 (.str "ends") && (PyData.canLayAll0 (ts.map .str) && true)) = true
      rw [lay_strs hw]
      decide +kernel
    · show max 0 (max (PyData.depthAll (ts.map .str) + 1) 0) + 1 ≤ 3
      rw [depth_strs]
      decide
  | shape s =>
    refine ⟨?_, by show max 0 (max 0 0) + 1 ≤ 3; decide⟩
    show (PyData.canLay0 (.str "shape") && (PyData.canLay0 (.str s) && true)) = true
    rw [(hs s rfl).lay]
    decide +kernel
theorem szE {c : C0} (hs : sz0 c) : szw (enc0 c) := by
  intro ds e x hx
  cases c with
  | vowel =>
    cases e
    rw [List.mem_singleton.mp hx]
    exact (by decide +kernel : ("vowel" : Str).length ≤ 50000)
  | double =>
    cases e
    rw [List.mem_singleton.mp hx]
    exact (by decide +kernel : ("double" : Str).length ≤ 50000)
  | runs m =>
    cases e
    rcases List.mem_cons.mp hx with rfl | hx
    · exact (by decide +kernel : ("runs" : Str).length ≤ 50000)
    · rw [List.mem_singleton.mp hx]
      trivial
  | least m =>
    cases e
    rcases List.mem_cons.mp hx with rfl | hx
    · exact (by decide +kernel : ("least" : Str).length ≤ 50000)
    · rw [List.mem_singleton.mp hx]
      trivial
  | ends ts =>
    cases e
    rcases List.mem_cons.mp hx with rfl | hx
    · exact (by decide +kernel : ("ends" : Str).length ≤ 50000)
    · rw [List.mem_singleton.mp hx]
      show (ts.map PyData.str).length ≤ 50000
      rw [List.length_map]
      exact hs.1
  | shape s =>
    cases e
    rcases List.mem_cons.mp hx with rfl | hx
    · exact (by decide +kernel : ("shape" : Str).length ≤ 50000)
    · rw [List.mem_singleton.mp hx]
      exact hs
theorem enl : ∀ c : C0, ∃ ds, enc0 c = .tuple ds ∧ ds.length ≤ 2 := by
  intro c
  cases c <;> exact ⟨_, rfl, by simp⟩
theorem fit_pos {c : C0} (o : ok0 c) (s : sz0 c) (ow : ow0 c) (sh : ∀ s, c = .shape s → okS s) : Fit (.pos c) := by
  have ly := lay0_enc ow sh
  refine { ok := o, sz := s, ow := ow, sh := fun ds e => ?_, s2 := ⟨szE s, fun a b e es eb x hx => ?_⟩, cd := isCd_enc (c := .pos c) o }
  · rw [← show enc0 c = .tuple ds from e]
    unfold SeqAt.shaped
    rw [ly.1, Bool.true_and, decide_eq_true_eq]
    omega
  · cases c with
    | ends ts =>
      cases e
      cases eb
      obtain ⟨t, ht, rfl⟩ := List.mem_map.mp hx
      exact s.2 t ht
    | runs m | least m | shape s => cases e; cases eb
    | vowel | double => cases e
theorem fit_neg {c : C0} (o : ok0 c) (s : sz0 c) (ow : ow0 c) (sh : ∀ s, c = .shape s → okS s) : Fit (.neg c) := by
  have ly := lay0_enc ow sh
  obtain ⟨es, ee, el⟩ := enl c
  refine { ok := o, sz := s, ow := ow, sh := fun ds e => ?_, s2 := ⟨fun ds e x hx => ?_, fun a b e es eb x hx => ?_⟩, cd := isCd_enc (c := .neg c) o }
  · cases e
    unfold SeqAt.shaped
    show (PyData.canLay0 (.str "not") && (PyData.canLay0 (enc0 c) && true) && decide (max 0 (max (PyData.depth (enc0 c)) 0) + 1 ≤ 64)) = true
    have h2 := ly.2
    rw [ly.1, decide_eq_true (show max 0 (max (PyData.depth (enc0 c)) 0) + 1 ≤ 64 by omega)]
    decide +kernel
  · cases e
    rcases List.mem_cons.mp hx with rfl | hx
    · exact (by decide +kernel : ("not" : Str).length ≤ 50000)
    · rw [List.mem_singleton.mp hx, ee]
      show es.length ≤ 50000
      omega
  · cases e
    exact szE s es eb x hx
theorem fit_of {z : Str} {c : Cond} (hz : okS z) (h : smc z c) : Fit c := by
  have h0 : ∀ {c : C0}, sm0 z c → ok0 c ∧ sz0 c ∧ ow0 c ∧ ∀ s, c = .shape s → okS s := by
    intro c h
    cases c with
    | vowel => exact ⟨trivial, trivial, trivial, fun _ e => nomatch e⟩
    | double => exact ⟨trivial, trivial, trivial, fun _ e => nomatch e⟩
    | runs m => exact ⟨h.1, trivial, trivial, fun _ e => nomatch e⟩
    | least m => exact ⟨h.1, trivial, trivial, fun _ e => nomatch e⟩
    | ends ts => exact ⟨trivial, ⟨by have := h.1; omega, fun t ht => by have := (h.2 t ht).1; omega⟩, fun t ht c hc => hz c ((h.2 t ht).2 c hc), fun _ e => nomatch e⟩
    | shape s => exact ⟨h.2, (by have := h.1; show s.length ≤ 50000; omega), trivial, fun s' e c hc => by cases e; rcases h.2 c hc with rfl | rfl <;> decide⟩
  cases c with
  | pos c =>
    obtain ⟨o, s, ow, sh⟩ := h0 h
    exact fit_pos o s ow sh
  | neg c =>
    obtain ⟨o, s, ow, sh⟩ := h0 h
    exact fit_neg o s ow sh
end L2
set_option Elab.async false
set_option linter.all false
set_option maxRecDepth 100000
set_option maxHeartbeats 4000000
/-! rules and steps as objects -/
namespace L2
open PySem PySem.Spec PyProof.Rows TL Mi
/-- an instance of the class at C with these attributes -/
structure RD where
  e : Str
  p : Str
  cs : List Cond
structure SD where
  rs : List RD
  mode : Str
def encs (cs : List Cond) : PyData := .tuple (cs.map enc)
def encR (r : RD) : PyData := .tuple [.str r.e, .str r.p, encs r.cs]
def reqv (r r' : RD) : Bool := PyData.eqv (encR r) (encR r')
/-- the thing is a rule, and this one -/
def RuA (K : PySem.W.Frag) (C : Addr) (H : Hp) (v : V) (r : RD) : Prop := ∃ a dx fs t xs, v = .ref a ∧ H a = some (.ins C dx fs) ∧ fs.lookup ("_ending" : Str) = some (.str r.e) ∧ fs.lookup ("_put" : Str) = some (.str r.p) ∧
  fs.lookup ("_conditions" : Str) = some (.ref t) ∧ SqT K H t xs ∧ DpAll K H xs (r.cs.map enc)
inductive RuAll (K : PySem.W.Frag) (C : Addr) (H : Hp) : List V → List RD → Prop
  | nil : RuAll K C H [] []
  | cons {v : V} {r : RD} {vs : List V} {rs : List RD} : RuA K C H v r → RuAll K C H vs rs → RuAll K C H (v :: vs) (r :: rs)
def StA (K : PySem.W.Frag) (CS CR : Addr) (H : Hp) (v : V) (s : SD) : Prop := ∃ a dx fs t xs, v = .ref a ∧ H a = some (.ins CS dx fs) ∧ fs.lookup ("_rules" : Str) = some (.ref t) ∧ fs.lookup ("_mode" : Str) = some (.str s.mode) ∧ SqT K H t xs ∧ RuAll K CR H xs s.rs
section
variable {K : PySem.W.Frag} {C CS CR : Addr} {H H' : Hp} {v : V} {r : RD} {vs : List V} {rs : List RD} {s : SD}
theorem RuA.up (h : RuA K C H v r) (e : Same H H') : RuA K C H' v r := by
  obtain ⟨a, dx, fs, t, xs, rfl, h1, h2, h3, h4, h5, h6⟩ := h
  exact ⟨a, dx, fs, t, xs, rfl, e _ _ h1, h2, h3, h4, Evl.ex_t e h5, DpAll.up e h6⟩
theorem RuAll.up (h : RuAll K C H vs rs) (e : Same H H') : RuAll K C H' vs rs := by
  induction h with
  | nil => exact .nil
  | cons a _ ih => exact .cons (a.up e) ih
theorem RuAll.len (h : RuAll K C H vs rs) : vs.length = rs.length := by
  induction h with
  | nil => rfl
  | cons _ _ ih => exact congrArg (· + 1) ih
theorem RuAll.append {ws : List V} {ss : List RD} (h : RuAll K C H vs rs) (g : RuAll K C H ws ss) : RuAll K C H (vs ++ ws) (rs ++ ss) := by
  induction h with
  | nil => exact g
  | cons a _ ih => exact .cons a ih
theorem RuAll.get (h : RuAll K C H vs rs) {i : Nat} {x : V} (e : vs[i]? = some x) : ∃ r, rs[i]? = some r ∧ RuA K C H x r := by
  induction h generalizing i with
  | nil => simp at e
  | cons a _ ih =>
    cases i with
    | zero =>
      cases Option.some.inj e
      exact ⟨_, rfl, a⟩
    | succ i => exact ih e
theorem RuAll.getR (h : RuAll K C H vs rs) {i : Nat} {r : RD} (e : rs[i]? = some r) : ∃ x, vs[i]? = some x ∧ RuA K C H x r := by
  induction h generalizing i with
  | nil => simp at e
  | cons a _ ih =>
    cases i with
    | zero =>
      cases Option.some.inj e
      exact ⟨_, rfl, a⟩
    | succ i => exact ih e
theorem RuAll.reverse (h : RuAll K C H vs rs) : RuAll K C H vs.reverse rs.reverse := by
  induction h with
  | nil => exact .nil
  | cons a _ ih =>
    rw [List.reverse_cons, List.reverse_cons]
    exact ih.append (.cons a .nil)
theorem RuAll.take (h : RuAll K C H vs rs) (n : Nat) : RuAll K C H (vs.take n) (rs.take n) := by
  induction h generalizing n with
  | nil => rw [List.take_nil, List.take_nil]; exact .nil
  | cons a _ ih =>
    cases n with
    | zero => exact .nil
    | succ n => exact .cons a (ih n)
theorem RuA.ins (h : RuA K C H v r) : ∃ a dx fs, v = .ref a ∧ H a = some (.ins C dx fs) := by
  obtain ⟨a, dx, fs, t, xs, rfl, h1, _⟩ := h
  exact ⟨a, dx, fs, rfl, h1⟩
theorem StA.up (h : StA K CS CR H v s) (e : Same H H') : StA K CS CR H' v s := by
  obtain ⟨a, dx, fs, t, xs, rfl, h1, h2, h3, h4, h5⟩ := h
  exact ⟨a, dx, fs, t, xs, rfl, e _ _ h1, h2, h3, Evl.ex_t e h4, h5.up e⟩
/-! whether a thing is an instance of the class at C -/
def Ob (K : PySem.W.Frag) (C : Addr) (H : Hp) (x : V) (b : Bool) : Prop := ∃ t, TyX K H x t ∧ PySem.W.kitOne K t (.ref C) = some b
theorem kit_self {K : PySem.W.Frag} {C : Addr} : PySem.W.kitOne K (.ref C) (.ref C) = some true := by
  unfold PySem.W.kitOne
  rw [if_pos (by simp)]
theorem kit_no (i : PySem.W.isClsIn K C = true) (t : PySem.W.typeIn K (.ref C) = some (.type "type")) : ∀ n ∈ tyNames, PySem.W.kitOne K (.type n) (.ref C) = some false := by
  intro n hn
  have c2 : ((PySem.W.clsIn K C).isSome && PySem.W.typeIn K (.ref C) == some (.type "type")) = true := by
    rw [show (PySem.W.clsIn K C).isSome = true from i, t]
    rfl
  have ne : ¬ ((Value.type n == Value.ref C) = true) := by simp
  unfold PySem.W.kitOne
  rw [if_neg ne]
  show (if _ then _ else _) = _
  rw [if_pos c2]
  show (fastBuiltinMro n).map (·.contains (.ref C)) = some false
  have all : ∀ n ∈ tyNames, ∃ ts : List String, fastBuiltinMro n = some (ts.map Value.type) := by
    have h : ∀ n ∈ tyNames, fastBuiltinMro n = some ((match n with
      | "bool" => ["bool", "int", "object"]
      | n => [n, "object"]).map Value.type) := by decide +kernel
    exact fun n hn => ⟨_, h n hn⟩
  obtain ⟨ts, e⟩ := all n hn
  rw [e]
  simp [List.contains_eq_any_beq]
theorem Ob.up {x : V} {b : Bool} (h : Ob K C H x b) (e : Same H H') (up : ∀ t, TyX K H x t → TyX K H' x t) : Ob K C H' x b := by
  obtain ⟨t, ty, k⟩ := h
  exact ⟨t, up t ty, k⟩
theorem TyX.up {x : V} {t : Value} (h : TyX K H x t) (e : Same H H') : TyX K H' x t := by
  cases h with
  | base b =>
    refine .base ?_
    cases b with
    | non => exact .non
    | bl x => exact .bl x
    | int i => exact .int i
    | str x => exact .str x
    | flt x => exact .flt x
    | lst h => exact .lst (e _ _ h)
    | frz h => exact .frz (e _ _ h)
    | tup h => exact .tup (e _ _ h)
    | dK h => exact .dK (e _ _ h)
    | dT h => exact .dT (e _ _ h)
    | ins h a b c d f => exact .ins (e _ _ h) a b c d f
  | byt b => exact .byt b
  | set h => exact .set (e _ _ h)
  | kList h c => exact .kList h c
  | kTuple h c => exact .kTuple h c
  | kDict h c => exact .kDict h c
  | fTuple h => exact .fTuple (e _ _ h)
  | fDict h => exact .fDict (e _ _ h)
theorem ins_ty {a dx : Addr} {fs : List (Str × V)} (c : C8.InsC K C) (h : H a = some (.ins C dx fs)) : TyX K H (.ref a) (.ref C) := .base (.ins h c.cl c.ha c.hn c.htk c.hm)
theorem ob_ins {a dx : Addr} {fs : List (Str × V)} (c : C8.InsC K C) (h : H a = some (.ins C dx fs)) : Ob K C H (.ref a) true := ⟨_, ins_ty c h, kit_self⟩
theorem ob_th {d : PyData} (i : PySem.W.isClsIn K C = true) (t : PySem.W.typeIn K (.ref C) = some (.type "type")) (h : Th K H v d) : Ob K C H v false := ⟨_, h.ty, kit_no i t _ (tyName_in d)⟩
theorem SqB.ty {a : Addr} {xs : List V} {t : Bool} (h : SqB K t H a xs) : TyX K H (.ref a) (.type (if t then "tuple" else "list")) := by
  cases t with
  | false => exact SqL.ty h
  | true => exact SqT.ty h
end
/-! reading -/
section
variable {K : PySem.W.Frag} {σ : St} {H : Hp} {ta tb te : TE} {Q : VK} {t : TA} {f : Str} {D : Ends} {tv : TE} {x y : V}
def fldR (K : PySem.W.Frag) (f : Str) (x : V) (H : Hp) (Q : VK) : Prop := ∃ a C dx fs v, x = .ref a ∧ H a = some (.ins C dx fs) ∧ Cls K C ∧ NoAttr K C f ∧ fs.lookup f = some v ∧ Q v H
theorem k_fld (k : ta σ H fun x H1 => fldR K f x H1 Q) : tFld K ta f σ H Q := k
theorem k_fldR {a C dx : Addr} {fs : List (Str × V)} {v : V} (h : H a = some (.ins C dx fs)) (c : Cls K C) (n : NoAttr K C f) (l : fs.lookup f = some v) (k : Q v H) : fldR K f (.ref a) H Q := ⟨a, C, dx, fs, v, rfl, h, c, n, l, k⟩
def fldS (K : PySem.W.Frag) (f : Str) (y x : V) (H : Hp) (R : Hp → Prop) : Prop := ∃ a C dx fs, x = .ref a ∧ H a = some (.ins C dx fs) ∧ Cls K C ∧ NoAttr K C f ∧ fs.length < 1000 ∧ R (upd H a (.ins C dx (putF f y fs)))
def propR (C : Addr) (sp : Sp) (dvs : List V) (E : XK) (x : V) (H : Hp) (Q : VK) : Prop := ∃ a dx fs, x = .ref a ∧ H a = some (.ins C dx fs) ∧ sp (.ref a :: dvs) H Q E
theorem k_prop {C : Addr} {sp : Sp} {dvs : List V} {E : XK} (k : ta σ H fun x H1 => propR C sp dvs E x H1 Q) : tProp C sp dvs E ta σ H Q := k
theorem k_isiX {x : V} {c : V} {t u : Value} {b : Bool} (h : TyX K H x t) (cv : ClsV c u) (e : PySem.W.kitOne K t u = some b) (k : Q (.bl b) H) : rIsi K [x, c] H Q := ⟨x, c, t, u, b, rfl, cv, h, e, k⟩
theorem k_ob {x : V} {C : Addr} {b : Bool} (h : Ob K C H x b) (k : Q (.bl b) H) : rIsi K [x, .ref C] H Q := by
  obtain ⟨t, ty, e⟩ := h
  exact k_isiX ty (.own C) e k
theorem k_isiT2 {x : V} {tp : Addr} {ns : List String} {t : Value} {b : Bool} (h : TyX K H x t) (ht : H tp = some (.tup (ns.map V.ty))) (e : PySem.W.kitAny K t (ns.map Value.type) = some b) (k : Q (.bl b) H) : rIsiT K [x, .ref tp] H Q := by
  refine ⟨x, tp, _, t, ns.map Value.type, b, rfl, ht, ?_, h, e, k⟩
  clear ht e
  induction ns with
  | nil => exact .nil
  | cons n r ih => exact .cons (.ty n) ih
theorem k_seqI {a : Addr} {t : Bool} {xs : List V} {g : TG} {tb : TS} (k : ta σ H fun v H1 => ∃ a t, v = .ref a ∧ (∃ xs, SqB K t H1 a xs) ∧ forOn g tb D σ (ItB K t a) H1) : tFor (iSeq K ta) g tb D σ H := k
def onEB (K : PySem.W.Frag) (vs : List V) (H : Hp) (R : It → Hp → Prop) : Prop := ∃ a t xs, vs = [.ref a] ∧ SqB K t H a xs ∧ R (IeB K t a) H
theorem k_forEB {g : TG} {tb : TS} (k : t σ H fun v H1 => onEB K v H1 (forOn g tb D σ)) : tFor (iEnumB K t) g tb D σ H := k
theorem k_onEB {a : Addr} {xs : List V} {b : Bool} {R : It → Hp → Prop} (h : SqB K b H a xs) (k : R (IeB K b a) H) : onEB K [.ref a] H R := ⟨a, b, xs, rfl, h, k⟩
def onSB (K : PySem.W.Frag) (v : V) (H : Hp) (R : It → Hp → Prop) : Prop := ∃ a t, v = .ref a ∧ (∃ xs, SqB K t H a xs) ∧ R (ItB K t a) H
theorem k_forSB {g : TG} {tb : TS} (k : ta σ H fun v H1 => onSB K v H1 (forOn g tb D σ)) : tFor (iSeq K ta) g tb D σ H := k
theorem k_lcSB {g : TG} {tt : TT} {te : TE} {vs : List Nat} (k : ta σ H fun v H1 => onSB K v H1 (lcOn g tt te vs σ Q)) : tLc (iSeq K ta) g tt te vs σ H Q := k
theorem k_onSB {a : Addr} {xs : List V} {b : Bool} {R : It → Hp → Prop} (h : SqB K b H a xs) (k : R (ItB K b a) H) : onSB K (.ref a) H R := ⟨a, b, rfl, ⟨xs, h⟩, k⟩
end
section
variable {X : Cx} (K : PySem.W.Frag)
theorem isiTK (h : X.K = K := by rfl) : CallR X (.builtin "isinstance") (rIsiT K) := by subst h; exact call_isiT
theorem seqK {tg l : Expr} {tl : TE} (hl : PE X l tl) (h : X.K = K := by rfl) : PI X tg l (iSeq K tl) := by subst h; exact pi_seq hl
theorem enumK {e : Expr} {ta : TA} {p pos tpos : Pos} {elts : List Expr} {kk : Nat} (hg : Gl X "enumerate") (hm : X.mg "enumerate" = none) (ha : PA X [e] ta) (h : X.K = K := by rfl) (hs : starEach [e] X.env = [(false, eval e X.env)] := by rfl) :
    PI X (.Tuple elts kk tpos) (.Call (.Name "enumerate" p) [e] [] pos) (iEnumB K ta) := by subst h; exact pi_enumB hg hm ha hs
end
end L2
set_option Elab.async false
set_option linter.all false
set_option maxRecDepth 100000
set_option maxHeartbeats 4000000
namespace L2
open PySem PySem.Spec PyProof.Rows TL Mi
/-! more rules with the written part said outright -/
def rNotInT (K : PySem.W.Frag) : R2 := fun x y H Q => ∃ d ds, Dp K H x d ∧ Dp K H y (.tuple ds) ∧ SeqAt.shaped d = true ∧ SeqAt.shaped (.tuple ds) = true ∧ Q (.bl (!ds.any fun z => PyData.eqv z d)) H
theorem rv_notInTD {K : PySem.W.Frag} {H : Hp} {d : PyData} {ds : List PyData} {x y : V} (h1 : Dp K H x d) (h2 : Dp K H y (.tuple ds)) (s1 : SeqAt.shaped d = true) (s2 : SeqAt.shaped (.tuple ds) = true) : RV0 (rNotInT K) x y H (.bl (!ds.any fun z => PyData.eqv z d)) := fun _ q => ⟨d, ds, h1, h2, s1, s2, q⟩
section
variable {X : Cx} (K : PySem.W.Frag)
theorem notInTK {k : Nat} (hr : Room k X.A) (h : X.K = K := by rfl) : OpR X (compareOp .NotIn) (rNotInT K) := by
  subst h
  intro pins s σ H x y v u Q I rx ry h
  obtain ⟨d, ds, hd, he, sd, se, q⟩ := h
  obtain ⟨as, r1⟩ := Dp.reads I d x v hd rx
  obtain ⟨bs, r2⟩ := Dp.reads I (.tuple ds) y u he ry
  exact SeqAt.notIn_tuple_reads r2 r1 (SeqAt.canLay_of_shaped se) (SeqAt.canLay_of_shaped sd) (room_in_shaped sd (hu65 hr)) ⟨.bl _, H, I, rfl, q⟩
theorem inSK (h : X.K = K := by rfl) : OpR X (compareOp .In) (rIn K false) := by subst h; exact op_in_seq
theorem notInSK (h : X.K = K := by rfl) : OpR X (compareOp .NotIn) (rIn K true) := by subst h; exact op_notIn_seq
end
section
variable {K : PySem.W.Frag} {σ : St} {H : Hp} {Q : VK}
theorem flat_strs (ts : List Str) : (ts.map V.str).all flatV = true := by
  rw [List.all_map]
  exact List.all_eq_true.mpr fun _ _ => rfl
theorem k_inS {z : Str} {ts : List Str} {p : Addr} {n : Bool} (h : SqL K H p (ts.map V.str)) (k : Q (.bl (if n then !(ts.any fun t => t == z) else ts.any fun t => t == z)) H) : rIn K n (.str z) (.ref p) H Q := by
  refine ⟨p, _, rfl, .inl h, rfl, flat_strs ts, ?_⟩
  have e : inV (.str z) (ts.map V.str) = ts.any fun t => t == z := by
    unfold inV
    rw [List.any_map]
    rfl
  rw [e]
  exact k
/-! what stands at an object that is being made -/
def fldP (K : PySem.W.Frag) (f : Str) (y x : V) (R : Hp → Prop) (H : Hp) : Prop := ∃ a C dx fs, x = .ref a ∧ H a = some (.ins C dx fs) ∧ Cls K C ∧ NoAttr K C f ∧ fs.length < 1000 ∧ R (upd H a (.ins C dx (putF f y fs)))
theorem k_sfld {ta tv : TE} {f : Str} {D : Ends} (k : tv σ H fun y H1 => ta σ H1 fun x H2 => fldP K f y x (D.nx σ) H2) : sFld K ta tv f D σ H := k
theorem k_fldP {f : Str} {y : V} {R : Hp → Prop} {a C dx : Addr} {fs : List (Str × V)} (h : H a = some (.ins C dx fs)) (c : Cls K C) (n : NoAttr K C f) (l : fs.length ≤ 100) (k : R (upd H a (.ins C dx (putF f y fs)))) : fldP K f y (.ref a) R H := ⟨a, C, dx, fs, rfl, h, c, n, by omega, k⟩
theorem k_tupB {a : Addr} {t : Bool} {xs : List V} (h : SqB K t H a xs) (k : ∀ l H', Same H H' → SqT K H' l xs → Q (.ref l) H') : rTupOf K [.ref a] H Q := by
  cases t with
  | false => exact ⟨a, xs, rfl, .inl ⟨h, fun l hl => k l _ (same_new hl) (Evl.st_of upd_same)⟩⟩
  | true => exact ⟨a, xs, rfl, .inr ⟨h, k a H (Same.refl H) h⟩⟩
/-- a new object, and its dict -/
theorem made_up {H H' : Hp} {x dx C : Addr} (h1 : H x = none) (h2 : H dx = none) (ne : dx ≠ x) (g : Gr [x] (upd (upd H dx (.own x)) x (.ins C dx [])) H') : Same H H' := fun a o e => by
  have n1 : a ≠ x := ne_of_none e h1
  have n2 : a ≠ dx := ne_of_none e h2
  refine g a o (by simpa using n1) ?_
  rw [upd_ne n1, upd_ne n2]
  exact e
theorem made_same {H : Hp} {x dx C : Addr} (h1 : H x = none) (h2 : H dx = none) (ne : dx ≠ x) : Same H (upd (upd H dx (.own x)) x (.ins C dx [])) := fun a o e => by
  rw [upd_ne (ne_of_none e h1), upd_ne (ne_of_none e h2)]
  exact e
/-! stores at instances leave data -/
def isIns : HO → Bool
  | .ins _ _ _ => true
  | _ => false
def SamD (H H' : Hp) : Prop := ∀ b o, H b = some o → isIns o = false → H' b = some o
theorem SamD.mut {H : Hp} {a : Addr} {o o' : HO} (h : H a = some o) (i : isIns o = true) : SamD H (upd H a o') := fun b u e z => by
  have ne : b ≠ a := fun q => by
    rw [q, h] at e
    cases Option.some.inj e
    rw [i] at z
    cases z
  rw [upd_ne ne]
  exact e
theorem SamD.of {H H' : Hp} (s : Same H H') : SamD H H' := fun b o e _ => s b o e
theorem SamD.trans {H H1 H2 : Hp} (a : SamD H H1) (b : SamD H1 H2) : SamD H H2 := fun x o e i => b x o (a x o e i) i
theorem SqT.upD {H H' : Hp} {a : Addr} {xs : List V} (h : SqT K H a xs) (s : SamD H H') : SqT K H' a xs :=
  h.elim (fun h => .inl (h.elim (fun h => .inl (s _ _ h rfl)) fun ⟨o, h⟩ => .inr ⟨o, s _ _ h rfl⟩)) fun h => .inr h
theorem SqL.upD {H H' : Hp} {a : Addr} {xs : List V} (h : SqL K H a xs) (s : SamD H H') : SqL K H' a xs :=
  h.elim (fun h => .inl (h.elim (fun h => .inl (s _ _ h rfl)) fun ⟨o, h⟩ => .inr ⟨o, s _ _ h rfl⟩)) fun h => .inr h
theorem SqB.upD {H H' : Hp} {a : Addr} {xs : List V} {t : Bool} (h : SqB K t H a xs) (s : SamD H H') : SqB K t H' a xs := by
  cases t with
  | false => exact SqL.upD h s
  | true => exact SqT.upD h s
mutual
theorem Dp.upD {H H' : Hp} (s : SamD H H') : ∀ {v : V} {d : PyData}, Dp K H v d → Dp K H' v d
  | _, _, .non => .non
  | _, _, .bl b => .bl b
  | _, _, .int i => .int i
  | _, _, .str x => .str x
  | _, _, .lst h a => .lst (SqL.upD h s) (DpAll.upD s a)
  | _, _, .tup h a => .tup (SqT.upD h s) (DpAll.upD s a)
theorem DpAll.upD {H H' : Hp} (s : SamD H H') : ∀ {vs : List V} {ds : List PyData}, DpAll K H vs ds → DpAll K H' vs ds
  | _, _, .nil => .nil
  | _, _, .cons h t => .cons (Dp.upD s h) (DpAll.upD s t)
end
theorem putF_ne {f g : Str} {v x : V} {r : List (Str × V)} (h : ¬ g = f) : putF f v ((g, x) :: r) = (g, x) :: putF f v r := if_neg h
theorem look_ne {f g : Str} {x : V} {r : List (Str × V)} (h : ¬ f = g) : ((g, x) :: r).lookup f = r.lookup f := by
  rw [List.lookup_cons]
  have : (f == g) = false := by simpa using h
  rw [this]
theorem look_eq {f : Str} {x : V} {r : List (Str × V)} : ((f, x) :: r).lookup f = some x := by
  rw [List.lookup_cons]
  simp
abbrev rF1 (e : Str) : List (Str × V) := [("_ending", .str e)]
abbrev rF2 (e p : Str) : List (Str × V) := [("_ending", .str e), ("_put", .str p)]
abbrev rF3 (e p : Str) (l : Addr) : List (Str × V) := [("_ending", .str e), ("_put", .str p), ("_conditions", .ref l)]
theorem put_rF1 (e : Str) : putF "_ending" (.str e) [] = rF1 e := rfl
theorem put_rF2 (e p : Str) : putF "_put" (.str p) (rF1 e) = rF2 e p := by
  show putF "_put" (.str p) [("_ending", .str e)] = _
  rw [putF_ne (by decide +kernel)]
  rfl
theorem put_rF3 (e p : Str) (l : Addr) : putF "_conditions" (.ref l) (rF2 e p) = rF3 e p l := by
  show putF "_conditions" (.ref l) [("_ending", .str e), ("_put", .str p)] = _
  rw [putF_ne (by decide +kernel), putF_ne (by decide +kernel)]
  rfl
theorem look_rF (e p : Str) (l : Addr) : (rF3 e p l).lookup ("_ending" : Str) = some (.str e) ∧ (rF3 e p l).lookup ("_put" : Str) = some (.str p) ∧ (rF3 e p l).lookup ("_conditions" : Str) = some (.ref l) := by
  refine ⟨look_eq, ?_, ?_⟩
  · show List.lookup _ (_ :: _) = _
    rw [look_ne (by decide +kernel)]
    exact look_eq
  · show List.lookup _ (_ :: _ :: _) = _
    rw [look_ne (by decide +kernel), look_ne (by decide +kernel)]
    exact look_eq
/-! calls of classes -/
def madeR (C : Addr) (sp : Sp) (dvs : List V) (E : XK) (vs : List V) (H : Hp) (Q : VK) : Prop := ∀ x dx, H x = none → H dx = none → dx ≠ x → sp (.ref x :: (vs ++ dvs)) (upd (upd H dx (.own x)) x (.ins C dx [])) (fun v H2 => v = .non ∧ Q (.ref x) H2) E
theorem k_make {C : Addr} {sp : Sp} {dvs : List V} {E : XK} {t : TA} (k : t σ H fun vs H1 => madeR C sp dvs E vs H1 Q) : tMake C sp dvs E t σ H Q := k
def madeK (C : Addr) (n m : Nat) (sp : Sp) (gV : List V → List V → List V) (E : XK) (vs zs : List V) (H : Hp) (Q : VK) : Prop := vs.length = n ∧ zs.length = m ∧ ∀ x dx, H x = none → H dx = none → dx ≠ x → sp (gV (.ref x :: vs) zs) (upd (upd H dx (.own x)) x (.ins C dx [])) (fun v H2 => v = .non ∧ Q (.ref x) H2) E
theorem k_makeK {C : Addr} {n m : Nat} {sp : Sp} {gV : List V → List V → List V} {E : XK} {t tk : TA} (k : t σ H fun vs H1 => tk σ H1 fun zs H2 => madeK C n m sp gV E vs zs H2 Q) : tMakeK C n m sp gV E t tk σ H Q := k
/-! an exception made of what is read -/
def mkR (C : Addr) (sp : Sp) (dvs : List V) (vs : List V) (H1 : Hp) (Q : XK) : Prop := vs.length ≤ 1000 ∧ ∀ a, H1 a = none → sp (.ref a :: (vs ++ dvs)) (upd H1 a (exo a C none))
  (fun v H2 => v = .non ∧ ∃ (d : Addr) (fs : List (Str × V)), H2 a = some (exo a C (some d)) ∧ H2 d = some (exd d fs) ∧ H1 d = none ∧ Q (.ref C) (some d) (upd (del H2 a) d (.xd fs))) fun _ _ _ => False
theorem k_mkO {C : Addr} {sp : Sp} {dvs : List V} {t : TA} {Q : XK} (k : t σ H fun vs H1 => mkR C sp dvs vs H1 Q) : tMkO C sp dvs t σ H Q := k
theorem k_mkR {C : Addr} {f : Str} {v : V} {Q : XK} (q : ∀ H' dd, Same H H' → H' dd = some (.xd [(f, v)]) → Q (.ref C) (some dd) H') : mkR C (spInit C f) [] [v] H Q := mkO_ok q
/-! two rules compared -/
def reqR (K : PySem.W.Frag) (C : Addr) : Eqb := fun x y H b => ∃ r, RuA K C H x r ∧ SeqAt.shaped (encs r.cs) = true ∧ ((∃ r', RuA K C H y r' ∧ SeqAt.shaped (encs r'.cs) = true ∧ Ob K C H y true ∧ b = reqv r r') ∨ (Ob K C H y false ∧ b = false))
theorem Ob.same {C : Addr} {H H' : Hp} {x : V} {b : Bool} (h : Ob K C H x b) (e : Same H H') : Ob K C H' x b := h.up e fun _ t => t.up e
theorem mon_reqR {C : Addr} : MonB (reqR K C) := fun x y H H' b e d => by
  obtain ⟨r, h1, h2, h⟩ := d
  refine ⟨r, h1.up e, h2, ?_⟩
  rcases h with ⟨r', h3, h4, h5, h6⟩ | ⟨h5, h6⟩
  · exact .inl ⟨r', h3.up e, h4, h5.same e, h6⟩
  · exact .inr ⟨h5.same e, h6⟩
/-- a rule on the left, on the right a rule too -/
def DRul (K : PySem.W.Frag) (C : Addr) : Eqb := fun x y H b => ∃ r r', RuA K C H x r ∧ RuA K C H y r' ∧ SeqAt.shaped (encs r.cs) = true ∧ SeqAt.shaped (encs r'.cs) = true ∧ b = reqv r r'
theorem mon_DRul {C : Addr} : MonB (DRul K C) := fun x y H H' b e d => by
  obtain ⟨r, r', h1, h2, h3, h4, h5⟩ := d
  exact ⟨r, r', h1.up e, h2.up e, h3, h4, h5⟩
end
section
variable {X : Cx} {C f : Addr} {fd : FuncData} {n : Nat}
theorem drul_one {pins : List (Addr × Obj)} {σ : St} {H : Hp} {s : Shared} {x : V} {b : Bool} (I : Inv X pins σ H s) (h : DRul X.K C x x H b) : b = true := by
  obtain ⟨r, r', h1, h2, s1, s2, rfl⟩ := h
  obtain ⟨a, dx, fs, t, xs, rfl, ha, l1, l2, l3, ht, hd⟩ := h1
  obtain ⟨a', dx', fs', t', xs', ea, ha', m1, m2, m3, ht', hd'⟩ := h2
  cases ea
  cases ha.symm.trans ha'
  have e1 : r.e = r'.e := V.str.inj (Option.some.inj (l1.symm.trans m1))
  have e2 : r.p = r'.p := V.str.inj (Option.some.inj (l2.symm.trans m2))
  cases l3.symm.trans m3
  obtain ⟨as, r1⟩ := Dp.reads I (encs r.cs) (.ref t) (.ref t) (.tup ht hd) rfl
  obtain ⟨bs, r2⟩ := Dp.reads I (encs r'.cs) (.ref t) (.ref t) (.tup ht' hd') rfl
  have e := SeqAt.Reads.unique _ _ _ _ _ (SeqAt.canLay_of_shaped s1) r1 r2
  show ((r.e == r'.e) && ((r.p == r'.p) && (PyData.eqv (encs r.cs) (encs r'.cs) && true))) = true
  rw [e1, e2, ← e, SeqAt.eqv_refl _ (SeqAt.canLay_of_shaped s1)]
  simp
/-- rules compared by their own == -/
theorem eqB_rul (F : FnOk X.prog X.w X.K X.mg X.base CX0 n f fd ["self", "other"] (spOwnEq (reqR X.K C))) (o : OwnC X.K C f) (hb : Binds X.K fd ["self", "other"] []) (c : C8.InsC X.K C) : EqB X n (DRul X.K C) := by
  refine RcB.eqB (D := DRul X.K C) (fun A pins s σ H x y u v b sb I rx ry d => ?_) (fun x y H b d => ?_) fun pins σ H s x b I d => drul_one I d
  · obtain ⟨r, r', h1, h2, s1, s2, rfl⟩ := id d
    obtain ⟨a, dx, fs, rfl, ha⟩ := h1.ins
    obtain ⟨a', dx', fs', rfl, ha'⟩ := h2.ins
    refine rcB_own F o hb pass0 A pins s σ H _ _ u v _ sb I rx ry ⟨⟨a, dx, fs, rfl, ha⟩, ⟨.ref C, ins_ty c ha', ?_⟩, r, h1, s1, .inl ⟨r', h2, s2, ob_ins c ha', rfl⟩⟩
    unfold PySem.W.notFirst
    simp
  · obtain ⟨r, r', h1, h2, _⟩ := d
    obtain ⟨a, dx, fs, rfl, ha⟩ := h1.ins
    obtain ⟨a', dx', fs', rfl, ha'⟩ := h2.ins
    exact ⟨a, a', rfl, rfl⟩
end

section
variable {K : PySem.W.Frag} {H H' : Hp} {C D : Addr} {v : V} {r : RD} {vs : List V} {rs : List RD}
/-- a store at an object that is no rule leaves rules -/
theorem RuA.mut {a dx : Addr} {fs : List (Str × V)} {o : HO} (h : RuA K C H v r) (ha : H a = some (.ins D dx fs)) (no : fs.lookup ("_ending" : Str) = none) : RuA K C (upd H a o) v r := by
  obtain ⟨b, dy, gs, t, xs, rfl, h1, h2, h3, h4, h5, h6⟩ := h
  have ne : b ≠ a := fun q => by
    subst q
    cases ha.symm.trans h1
    rw [no] at h2
    cases h2
  exact ⟨b, dy, gs, t, xs, rfl, by rw [upd_ne ne]; exact h1, h2, h3, h4, SqT.upD h5 (SamD.mut ha rfl), DpAll.upD (SamD.mut ha rfl) h6⟩
theorem RuAll.mut {a dx : Addr} {fs : List (Str × V)} {o : HO} (h : RuAll K C H vs rs) (ha : H a = some (.ins D dx fs)) (no : fs.lookup ("_ending" : Str) = none) : RuAll K C (upd H a o) vs rs := by
  induction h with
  | nil => exact .nil
  | cons a _ ih => exact .cons (a.mut ha no) ih
/-! comparing rows of rules -/
def reqvAll (rs rs' : List RD) : Bool := PyData.eqvAll (rs.map encR) (rs'.map encR)
def nul : RD := ⟨"", "", []⟩
theorem sameB_succ (e : Nat → Bool) (m n : Nat) : GE.sameB e (m + 1) (n + 1) = (e 0 && GE.sameB (fun i => e (i + 1)) m n) := by
  unfold GE.sameB
  rw [show min (m + 1) (n + 1) = min m n + 1 by omega, List.range_succ_eq_map, List.all_cons, List.all_map, Bool.and_assoc]
  congr 2
  simp
theorem same_reqv : ∀ rs rs' : List RD, GE.sameB (fun i => reqv (rs.getD i nul) (rs'.getD i nul)) rs.length rs'.length = reqvAll rs rs'
  | [], [] => rfl
  | [], _ :: _ => rfl
  | _ :: _, [] => rfl
  | r :: rs, r' :: rs' => by
    rw [List.length_cons, List.length_cons, sameB_succ]
    show (reqv r r' && GE.sameB (fun i => reqv (rs.getD i nul) (rs'.getD i nul)) rs.length rs'.length) = _
    rw [same_reqv rs rs']
    rfl
def wfR (r : RD) : Prop := SeqAt.shaped (encs r.cs) = true
theorem prB_rules {xs ys : List V} {rs rs' : List RD} (h : RuAll K C H xs rs) (h' : RuAll K C H ys rs') (w : ∀ r ∈ rs, wfR r) (w' : ∀ r ∈ rs', wfR r) : PrB (DRul K C) xs ys H fun i => reqv (rs.getD i nul) (rs'.getD i nul) := fun i x y ex ey => by
  obtain ⟨r, er, hr⟩ := h.get ex
  obtain ⟨r', er', hr'⟩ := h'.get ey
  refine ⟨r, r', hr, hr', w r (List.mem_of_getElem? er), w' r' (List.mem_of_getElem? er'), ?_⟩
  show reqv (rs.getD i nul) (rs'.getD i nul) = _
  rw [List.getD_eq_getElem?_getD, er, List.getD_eq_getElem?_getD, er']
  rfl
/-! two steps compared -/
def seqv (s s' : SD) : Bool := reqvAll s.rs s'.rs && decide (s.mode = s'.mode)
def wfS (s : SD) : Prop := ∀ r ∈ s.rs, wfR r
def stR (K : PySem.W.Frag) (CS CR : Addr) : Eqb := fun x y H b => ∃ s, StA K CS CR H x s ∧ wfS s ∧ ((∃ s', StA K CS CR H y s' ∧ wfS s' ∧ Ob K CS H y true ∧ b = seqv s s') ∨ (Ob K CS H y false ∧ b = false))
theorem mon_stR {CS CR : Addr} : MonB (stR K CS CR) := fun x y H H' b e d => by
  obtain ⟨r, h1, h2, h⟩ := d
  refine ⟨r, h1.up e, h2, ?_⟩
  rcases h with ⟨r', h3, h4, h5, h6⟩ | ⟨h5, h6⟩
  · exact .inl ⟨r', h3.up e, h4, h5.same e, h6⟩
  · exact .inr ⟨h5.same e, h6⟩
abbrev sF1 (l : Addr) : List (Str × V) := [("_rules", .ref l)]
abbrev sF2 (l : Addr) (m : Str) : List (Str × V) := [("_rules", .ref l), ("_mode", .str m)]
theorem put_sF1 (l : Addr) : putF "_rules" (.ref l) [] = sF1 l := rfl
theorem put_sF2 (l : Addr) (m : Str) : putF "_mode" (.str m) (sF1 l) = sF2 l m := by
  show putF "_mode" (.str m) [("_rules", .ref l)] = _
  rw [putF_ne (by decide +kernel)]
  rfl
theorem look_sF (l : Addr) (m : Str) : (sF2 l m).lookup ("_rules" : Str) = some (.ref l) ∧ (sF2 l m).lookup ("_mode" : Str) = some (.str m) := by
  refine ⟨look_eq, ?_⟩
  show List.lookup _ (_ :: _) = _
  rw [look_ne (by decide +kernel)]
  exact look_eq
theorem no_sF1 (l : Addr) : (sF1 l).lookup ("_ending" : Str) = none := by
  show List.lookup _ (_ :: _) = _
  rw [look_ne (by decide +kernel)]
  rfl
end
end L2
set_option Elab.async false
set_option linter.all false
set_option maxRecDepth 100000
set_option maxHeartbeats 4000000
namespace L2
open PySem PySem.Spec PyProof.Rows TL Mi
/-! data without lists does not lean on a list -/
mutual
def noLst : PyData → Bool
  | .list _ => false
  | .tuple ds => noLstA ds
  | _ => true
def noLstA : List PyData → Bool
  | [] => true
  | d :: ds => noLst d && noLstA ds
end
theorem noLstA_all : ∀ {ds : List PyData}, (∀ d ∈ ds, noLst d = true) → noLstA ds = true
  | [], _ => by simp [noLstA]
  | d :: ds, h => by
    simp only [noLstA, Bool.and_eq_true]
    exact ⟨h d (by simp), noLstA_all fun x hx => h x (by simp [hx])⟩
section
variable {K : PySem.W.Frag} {H : Hp} {S : List Addr} {D : Addr} {ys : List V}
theorem hd_cons {a : Addr} {o : HO} (hD : H D = some (.lst ys)) (h : Hd S H a = some o) (no : ∀ zs, o ≠ .lst zs) : Hd (D :: S) H a = some o := by
  by_cases m : a ∈ S
  · rw [hd_in m] at h
    cases h
  · rw [hd_out m] at h
    have ne : a ≠ D := fun e => by
      subst e
      rw [hD] at h
      exact no _ (Option.some.inj h).symm
    rw [hd_out (by simp [ne, m])]
    exact h
theorem SqT.avoid {a : Addr} {xs : List V} (hD : H D = some (.lst ys)) (h : SqT K (Hd S H) a xs) : SqT K (Hd (D :: S) H) a xs :=
  h.elim (fun h => .inl (h.elim (fun h => .inl (hd_cons hD h (fun _ z => nomatch z))) fun ⟨o, h⟩ => .inr ⟨o, hd_cons hD h (fun _ z => nomatch z)⟩)) fun h => .inr h
mutual
theorem Dp.avoid (hD : H D = some (.lst ys)) : ∀ {v : V} {d : PyData}, Dp K (Hd S H) v d → noLst d = true → Dp K (Hd (D :: S) H) v d
  | _, _, .non, _ => .non
  | _, _, .bl b, _ => .bl b
  | _, _, .int i, _ => .int i
  | _, _, .str x, _ => .str x
  | _, _, .lst h a, n => by simp [noLst] at n
  | _, _, .tup h a, n => .tup (SqT.avoid hD h) (DpAll.avoid hD a (by simpa [noLst] using n))
theorem DpAll.avoid (hD : H D = some (.lst ys)) : ∀ {vs : List V} {ds : List PyData}, DpAll K (Hd S H) vs ds → noLstA ds = true → DpAll K (Hd (D :: S) H) vs ds
  | _, _, .nil, _ => .nil
  | _, _, .cons h t, n => by
    simp only [noLstA, Bool.and_eq_true] at n
    exact .cons (Dp.avoid hD h n.1) (DpAll.avoid hD t n.2)
end
theorem hd_less : Same (Hd (D :: S) H) (Hd S H) := fun a o e => by
  by_cases m : a ∈ D :: S
  · rw [hd_in m] at e
    cases e
  · rw [hd_out m] at e
    rw [hd_out fun y => m (List.mem_cons_of_mem _ y)]
    exact e
theorem DqAll.less1 {vs : List V} {ds : List PyData} (h : DqAll K (D :: S) H vs ds) : DqAll K S H vs ds := DpAll.up hd_less h
theorem Dq.less1 {v : V} {d : PyData} (h : Dq K (D :: S) H v d) : Dq K S H v d := Dp.up hd_less h
theorem Dq.avoid {v : V} {d : PyData} (h : Dq K S H v d) (hD : H D = some (.lst ys)) (n : noLst d = true) : Dq K (D :: S) H v d := Dp.avoid hD h n
end
theorem noLst_strs : ∀ ts : List Str, noLstA (ts.map .str) = true := fun ts => noLstA_all fun d hd => by
  obtain ⟨t, _, rfl⟩ := List.mem_map.mp hd
  simp [noLst]
theorem noLst_enc0 : ∀ c : C0, noLst (enc0 c) = true := by
  intro c
  cases c with
  | ends ts => simp [enc0, noLst, noLstA, noLst_strs]
  | _ => simp [enc0, noLst, noLstA]
theorem noLst_enc : ∀ c : Cond, noLst (enc c) = true := by
  intro c
  cases c with
  | pos c => exact noLst_enc0 c
  | neg c => simp [enc, noLst, noLstA, noLst_enc0]
theorem noLst_encs (cs : List Cond) : noLst (encs cs) = true := by
  unfold encs
  simp only [noLst]
  exact noLstA_all fun d hd => by
    obtain ⟨c, _, rfl⟩ := List.mem_map.mp hd
    exact noLst_enc c
theorem noLst_encR (r : RD) : noLst (encR r) = true := by
  simp [encR, noLst, noLstA, noLst_encs]
/-! shapes of drawn rules -/
theorem depth_enc0 : ∀ c : C0, (enc0 c).depth ≤ 3 := by
  intro c
  cases c with
  | vowel => decide +kernel
  | double => decide +kernel
  | runs m => show max 0 (max 0 0) + 1 ≤ 3; decide
  | least m => show max 0 (max 0 0) + 1 ≤ 3; decide
  | shape s => show max 0 (max 0 0) + 1 ≤ 3; decide
  | ends ts =>
    show max 0 (max (PyData.depthAll (ts.map .str) + 1) 0) + 1 ≤ 3
    rw [depth_strs]
    decide
theorem depth_enc : ∀ c : Cond, (enc c).depth ≤ 4 := by
  intro c
  cases c with
  | pos c =>
    have := depth_enc0 c
    show (enc0 c).depth ≤ 4
    omega
  | neg c =>
    have := depth_enc0 c
    show max 0 (max (enc0 c).depth 0) + 1 ≤ 4
    omega
theorem depth_encA : ∀ cs : List Cond, PyData.depthAll (cs.map enc) ≤ 4
  | [] => by simp [PyData.depthAll]
  | c :: cs => by
    have h1 := depth_enc c
    have h2 := depth_encA cs
    show max (enc c).depth (PyData.depthAll (cs.map enc)) ≤ 4
    omega
theorem enc_tup : ∀ c : Cond, ∃ ds, enc c = .tuple ds := by
  intro c
  cases c with
  | pos c => cases c <;> exact ⟨_, rfl⟩
  | neg c => exact ⟨_, rfl⟩
theorem lay_encA : ∀ {cs : List Cond}, (∀ c ∈ cs, Fit c) → PyData.canLayAll0 (cs.map enc) = true
  | [], _ => rfl
  | c :: cs, h => by
    obtain ⟨ds, e⟩ := enc_tup c
    have h1 := SeqAt.canLay_of_shaped ((h c (by simp)).sh ds e)
    show ((enc c).canLay0 && PyData.canLayAll0 (cs.map enc)) = true
    rw [lay_encA fun x hx => h x (by simp [hx]), e, h1]
    rfl
theorem shaped_condsT {cs : List Cond} (h : ∀ c ∈ cs, Fit c) : SeqAt.shaped (encs cs) = true := by
  have hd := depth_encA cs
  unfold SeqAt.shaped encs
  show (PyData.canLayAll0 (cs.map enc) && decide (PyData.depthAll (cs.map enc) + 1 ≤ 64)) = true
  rw [lay_encA h, Bool.true_and, decide_eq_true_eq]
  omega
theorem lay_encR {r : RD} (he : okS r.e) (hp : okS r.p) (h : ∀ c ∈ r.cs, Fit c) : (encR r).canLay0 = true ∧ (encR r).depth ≤ 6 := by
  have hd := depth_encA r.cs
  constructor
  · show (PyData.canLay0 (.str r.e) && (PyData.canLay0 (.str r.p) && (PyData.canLayAll0 (r.cs.map enc) && true))) = true
    rw [he.lay, hp.lay, lay_encA h]
    rfl
  · show max 0 (max 0 (max (PyData.depthAll (r.cs.map enc) + 1) 0)) + 1 ≤ 6
    omega
theorem lay_encRA : ∀ {rs : List RD}, (∀ r ∈ rs, okS r.e ∧ okS r.p ∧ ∀ c ∈ r.cs, Fit c) → PyData.canLayAll0 (rs.map encR) = true ∧ PyData.depthAll (rs.map encR) ≤ 6
  | [], _ => ⟨rfl, by simp [PyData.depthAll]⟩
  | r :: rs, h => by
    have h0 := h r (by simp)
    have h1 := lay_encR h0.1 h0.2.1 h0.2.2
    have h2 := lay_encRA (rs := rs) fun x hx => h x (by simp [hx])
    constructor
    · show ((encR r).canLay0 && PyData.canLayAll0 (rs.map encR)) = true
      rw [h1.1, h2.1]
      rfl
    · show max (encR r).depth (PyData.depthAll (rs.map encR)) ≤ 6
      have a := h1.2
      have b := h2.2
      omega
theorem shaped_rulesL {rs : List RD} (h : ∀ r ∈ rs, okS r.e ∧ okS r.p ∧ ∀ c ∈ r.cs, Fit c) : SeqAt.shaped (.list (rs.map encR)) = true := by
  have h2 := lay_encRA h
  unfold SeqAt.shaped
  show (PyData.canLayAll0 (rs.map encR) && decide (PyData.depthAll (rs.map encR) + 1 ≤ 64)) = true
  rw [h2.1, Bool.true_and, decide_eq_true_eq]
  have := h2.2
  omega

section
variable {K : PySem.W.Frag} {σ : St} {H : Hp} {te : TE} {Q : VK}
def apR (a : Addr) (y : V) (H : Hp) (Q : VK) : Prop := ∃ xs, H a = some (.lst xs) ∧ xs.length ≤ 100000 ∧ Q .non (upd H a (.lst (xs ++ [y])))
theorem k_app {i : Nat} {a : Addr} {xs : List V} (v : σ[i]? = some (some (.ref a))) (e : H a = some (.lst xs)) (k : te σ H fun y H2 => apR a y H2 Q) (hm : ∀ {Q Q' : VK}, (∀ v H, Q v H → Q' v H) → te σ H Q → te σ H Q') : tBM K "list" rAppend (tVar i) (tCons te tNil) σ H Q :=
  ⟨.ref a, v, .inl ⟨rfl, xs, Evl.sq_of e⟩, hm (fun y H2 q => by
    obtain ⟨ys, h1, h2, h3⟩ := q
    exact ⟨a, ys, y, rfl, rfl, h1, Nat.lt_of_le_of_lt h2 (by decide), h3⟩) k⟩
theorem k_appV {i j : Nat} {a : Addr} {xs : List V} {y : V} (v : σ[i]? = some (some (.ref a))) (vy : σ[j]? = some (some y)) (e : H a = some (.lst xs)) (l : xs.length ≤ 100000) (k : Q .non (upd H a (.lst (xs ++ [y])))) : tBM K "list" rAppend (tVar i) (tCons (tVar j) tNil) σ H Q :=
  ⟨.ref a, v, .inl ⟨rfl, xs, Evl.sq_of e⟩, y, vy, a, xs, y, rfl, rfl, e, Nat.lt_of_le_of_lt l (by decide), k⟩
end
section
variable {σ : St} {H : Hp} {D : Ends}
def parR (i j : Nat) (σ : St) (R : St → Hp → Prop) (vs : List V) (H : Hp) : Prop := ∃ v w, vs = [v, w] ∧ R ((σ.set i (some v)).set j (some w)) H
theorem k_par {i j : Nat} {t : TA} (k : t σ H (parR i j σ D.nx)) : tPar i j t D σ H := k
theorem k_parR {i j : Nat} {v w : V} {R : St → Hp → Prop} (k : R ((σ.set i (some v)).set j (some w)) H) : parR i j σ R [v, w] H := ⟨v, w, rfl, k⟩
end
/-! a step as data -/
def encS (s : SD) : PyData := .tuple [.list (s.rs.map encR), .str s.mode]

/-! rules beside a list that is being made -/
section
variable {K : PySem.W.Frag} {H H' : Hp} {S : List Addr} {D C CS CR : Addr} {ys : List V} {v : V} {r : RD} {vs : List V} {rs : List RD} {s : SD}
theorem hd_nil : Same H (Hd [] H) := fun a o e => by rw [hd_out (by simp)]; exact e
theorem noLst_conds (cs : List Cond) : noLstA (cs.map enc) = true := noLstA_all fun d hd => by
  obtain ⟨c, _, rfl⟩ := List.mem_map.mp hd
  exact noLst_enc c
theorem RuA.avoid (h : RuA K C (Hd S H) v r) (hD : H D = some (.lst ys)) : RuA K C (Hd (D :: S) H) v r := by
  obtain ⟨a, dx, fs, t, xs, rfl, h1, h2, h3, h4, h5, h6⟩ := h
  exact ⟨a, dx, fs, t, xs, rfl, hd_cons hD h1 (fun _ z => nomatch z), h2, h3, h4, SqT.avoid hD h5, DpAll.avoid hD h6 (noLst_conds _)⟩
theorem RuAll.avoid (h : RuAll K C (Hd S H) vs rs) (hD : H D = some (.lst ys)) : RuAll K C (Hd (D :: S) H) vs rs := by
  induction h with
  | nil => exact .nil
  | cons a _ ih => exact .cons (a.avoid hD) ih
theorem StA.avoid (h : StA K CS CR (Hd S H) v s) (hD : H D = some (.lst ys)) : StA K CS CR (Hd (D :: S) H) v s := by
  obtain ⟨a, dx, fs, t, xs, rfl, h1, h2, h3, h4, h5⟩ := h
  exact ⟨a, dx, fs, t, xs, rfl, hd_cons hD h1 (fun _ z => nomatch z), h2, h3, SqT.avoid hD h4, h5.avoid hD⟩
theorem RuA.d1 (h : RuA K C H v r) (hD : H D = some (.lst ys)) : RuA K C (Hd [D] H) v r := (h.up hd_nil).avoid hD
end
end L2
set_option Elab.async false
set_option linter.all false
set_option maxRecDepth 100000
set_option maxHeartbeats 4000000
namespace L2
open PySem PySem.Spec PyProof.Rows TL Mi
/-! written things that are told -/
def szb : PyData → Bool
  | .str x => decide (x.length ≤ 50000)
  | .tuple ds => decide (ds.length ≤ 50000)
  | _ => true
theorem szb_ok {d : PyData} (h : szb d = true) : szd d := by
  cases d with
  | str x => exact (of_decide_eq_true h : x.length ≤ 50000)
  | tuple ds => exact (of_decide_eq_true h : ds.length ≤ 50000)
  | _ => trivial
def deepB : PyData → Bool
  | .tuple ds => SeqAt.shaped (.tuple ds) && (ds.all szb && (match ds with
    | [_, .tuple es] => es.all szb
    | _ => true))
  | _ => true
def plainB : PyData → Bool
  | .dict [] => true
  | d => !d.hasDict
theorem plainB_ok {d : PyData} (h : plainB d = true) : d = .dict [] ∨ d.hasDict = false := by
  unfold plainB at h
  split at h
  · exact .inl rfl
  · exact .inr (by simpa using h)
theorem deepB_ok {d : PyData} (h : deepB d = true) : shT d ∧ szc2 d := by
  cases d with
  | tuple ds =>
    have h' := Bool.and_eq_true_iff.mp h
    have h2 := Bool.and_eq_true_iff.mp h'.2
    refine ⟨fun es e => e ▸ h'.1, fun es e x hx => ?_, fun a b e es eb x hx => ?_⟩
    · cases e
      exact szb_ok (List.all_eq_true.mp h2.1 x hx)
    · cases e
      cases eb
      exact szb_ok (List.all_eq_true.mp h2.2 x hx)
  | _ => exact ⟨(fun _ e => nomatch e), (fun _ e => nomatch e), (fun _ _ e => nomatch e)⟩
section
variable {K : PySem.W.Frag} {H : Hp} {Q : VK} {a b : Addr} {xs ys vs : List V}
theorem k_newLG (hl : vs.length ≤ 100000) (k : ∀ p H', Same H H' → H p = none → H' p = some (.lst vs) → Q (.ref p) H') : newL vs H Q := ⟨Evl.sz_of hl, fun p hp => k p _ (same_new hp) hp upd_same⟩
theorem k_newTG (hl : vs.length ≤ 100000) (k : ∀ p H', Same H H' → H p = none → H' p = some (.tup vs) → Q (.ref p) H') : newT vs H Q := ⟨Evl.sz_of hl, fun p hp => k p _ (same_new hp) hp upd_same⟩
theorem k_catG (h1 : H a = some (.lst xs)) (h2 : H b = some (.lst ys)) (hl : xs.length + ys.length ≤ 100000) (k : ∀ p H', Same H H' → H p = none → H' p = some (.lst (xs ++ ys)) → Q (.ref p) H') : rAddA K (.ref a) (.ref b) H Q :=
  k_cat h1 h2 hl fun p hp => k p _ (same_new hp) hp upd_same
end
/-- neither a list nor a tuple -/
def loneB : PyData → Bool
  | .list _ => false
  | .tuple _ => false
  | _ => true
theorem kit_lone (K : PySem.W.Frag) {d : PyData} (h : loneB d = true) : PySem.W.kitAny K (.type (tyName d)) (["list", "tuple"].map Value.type) = some false := by
  have two : ∀ n ∈ ["NoneType", "bool", "int", "str", "dict"], PySem.W.kitAny K (.type n) (["list", "tuple"].map Value.type) = some false := by
    intro n hn
    simp only [List.mem_cons, List.not_mem_nil, or_false] at hn
    rcases hn with rfl | rfl | rfl | rfl | rfl <;>
      exact kitAny_cons (b := false) (kit_ty (by decide +kernel)) (fun _ => kitAny_cons (b := false) (kit_ty (by decide +kernel)) (fun _ => rfl) fun z => by cases z) fun z => by cases z
  cases d <;> first | (cases h; done) | exact two _ (by simp [tyName])
section
variable {K : PySem.W.Frag} {H : Hp} {Q : VK} {a : Addr} {xs : List V}
theorem k_slTake {n : Nat} {i : Int} (hi : i = (n : Int)) (h : SqL K H a xs) (hn : n ≤ xs.length) (k : ∀ p, H p = none → Q (.ref p) (upd H p (.lst (xs.take n)))) : rSlAny K (.ref a) none (some i) H Q := by
  subst hi
  refine .inr (.inl ⟨a, xs, rfl, h, fun p hp => ?_⟩)
  have e : cutV xs none (some (n : Int)) = xs.take n := by
    unfold cutV
    rw [HT.sIx_none, HT.sIx_nat, Nat.min_eq_left hn, List.drop_zero, Nat.sub_zero]
  rw [e]
  exact k p hp
theorem k_slInit (h : SqL K H a xs) (k : ∀ p, H p = none → Q (.ref p) (upd H p (.lst xs.dropLast))) : rSlAny K (.ref a) none (some (-1)) H Q := by
  refine .inr (.inl ⟨a, xs, rfl, h, fun p hp => ?_⟩)
  have e : cutV xs none (some (-1)) = xs.dropLast := by
    rw [List.dropLast_eq_take]
    simp [cutV, HT.sIx]
    omega
  rw [e]
  exact k p hp
theorem k_tupL {H : Hp} {Q : VK} {a : Addr} {xs : List V} (h : SqL K H a xs) (k : ∀ l, H l = none → Q (.ref l) (upd H l (.tup xs))) : rTupOf K [.ref a] H Q := ⟨a, xs, rfl, .inl ⟨h, k⟩⟩
end
theorem up_new {H : Hp} {o : HO} {Q : VK} (k : ∀ p H', Same H H' → H p = none → H' p = some o → Q (.ref p) H') : ∀ p, H p = none → Q (.ref p) (upd H p o) := fun p hp => k p _ (same_new hp) hp upd_same
theorem k_neSame {K : PySem.W.Frag} {H : Hp} {Q : VK} {i j : Str} (e : i = j) (k : Q (.bl false) H) : rNeA K (.str i) (.str j) H Q := k_neStr (by rw [e, decide_eq_true rfl]; exact k)
theorem k_eqSame {K : PySem.W.Frag} {H : Hp} {Q : VK} {i j : Str} (e : i = j) (k : Q (.bl true) H) : rEqA K (.str i) (.str j) H Q := k_eqStr (by rw [e, decide_eq_true rfl]; exact k)
theorem k_st {R : St → Hp → Prop} {σ : St} {H : Hp} (σ' : St) (e : σ = σ') (k : R σ' H) : R σ H := e ▸ k
theorem rAppG {H : Hp} {Q : VK} {a : Addr} {xs : List V} {y : V} (e : H a = some (.lst xs)) (l : xs.length ≤ 100000) (k : ∀ H', Gr [a] H H' → H' a = some (.lst (xs ++ [y])) → Q .non H') : rAppend (.ref a) [y] H Q :=
  ⟨a, xs, y, rfl, rfl, e, Nat.lt_of_le_of_lt l (by decide), k _ (Gr.mut (by simp)) upd_same⟩
def okB (x : Str) : Bool := (tl x).all fun c => decide (c < 1114112)
section
variable {K : PySem.W.Frag} {H : Hp} {Q : VK} {a b : Addr} {xs ys vs : List V}
theorem k_slTakeG {n : Nat} {i : Int} (hi : i = (n : Int)) (h : SqL K H a xs) (hn : n ≤ xs.length) (k : ∀ p H', Same H H' → H p = none → H' p = some (.lst (xs.take n)) → Q (.ref p) H') : rSlAny K (.ref a) none (some i) H Q := k_slTake hi h hn fun p hp => k p _ (same_new hp) hp upd_same
theorem k_slInitG (h : SqL K H a xs) (k : ∀ p H', Same H H' → H p = none → H' p = some (.lst xs.dropLast) → Q (.ref p) H') : rSlAny K (.ref a) none (some (-1)) H Q := k_slInit h fun p hp => k p _ (same_new hp) hp upd_same
theorem k_tupLG (h : SqL K H a xs) (k : ∀ p H', Same H H' → H p = none → H' p = some (.tup xs) → Q (.ref p) H') : rTupOf K [.ref a] H Q := k_tupL h fun p hp => k p _ (same_new hp) hp upd_same
end
theorem okB_ok {x : Str} (h : okB x = true) : okS x := fun c hc => of_decide_eq_true (List.all_eq_true.mp h c hc)
theorem DuAll.take {H : Hp} {vs : List V} {ds : List PyData} (h : DuAll H vs ds) (n : Nat) : DuAll H (vs.take n) (ds.take n) := by
  induction n generalizing vs ds with
  | zero => exact .nil
  | succ n ih =>
    cases h with
    | nil => exact .nil
    | cons h t => exact .cons h (ih t)
end L2
set_option Elab.async false
set_option linter.all false
set_option maxRecDepth 100000
set_option maxHeartbeats 4000000
namespace HT
open PySem PySem.Spec PyProof.Rows L2
section
variable {prog : Program} {w : World} {A : Around} {E : Value → Shared → Prop} {s : Shared}
theorem adjust_rev (n : Nat) : Builtin.Slice.sliceAdjust none none (-1) (n : Int) = ((n : Int) - 1, -1) := by
  unfold Builtin.Slice.sliceAdjust
  simp
theorem places_rev (n : Nat) : Builtin.Slice.slicePlaces ((n : Int) - 1) (-1) (-1) = n := by
  unfold Builtin.Slice.slicePlaces
  have h1 : ¬ ((-1 : Int) > 0) := by omega
  simp only [h1, if_false]
  by_cases h : n = 0
  · subst h
    simp
  · have : ((n : Int) - 1 > -1) := by omega
    simp
    try omega
theorem sliceApplied_rev {sl : Addr} {vl vu vs : Value} {n : Nat} {Q : Int × Int × Nat → Shared → Prop} (hs : s.heap.IsSliceOf sl vl vu vs) (pl : IsPart vl none) (pu : IsPart vu none) (ps : IsPart vs (some (-1)))
    (h : Q ((n : Int) - 1, -1, n) s) : wpAny (model prog w) A (Builtin.Slice.sliceApplied (.ref sl) (pure (n : Int))) Q E s := by
  obtain ⟨os, hos, hcs, hds⟩ := id hs
  unfold Builtin.Slice.sliceApplied Builtin.Slice.sliceFields
  refine wpAny_bind (wpAny_bind (wpAny_field hos hds (x := vl) rfl (wpAny_bind (wpAny_field hos hds (x := vu) rfl (wpAny_bind (wpAny_field hos hds (x := vs) rfl (wpAny_pure ?_)))))))
  refine wpAny_bind (slicePart_ ps ?_)
  show wpAny _ _ (if ((-1 : Int) == 0) = true then _ else _) _ _ s
  rw [if_neg (by decide)]
  refine wpAny_bind (slicePart_ pl (wpAny_bind (slicePart_ pu (wpAny_bind (wpAny_pure ?_)))))
  show wpAny _ _ (match Builtin.Slice.sliceAdjust none none (-1) (n : Int) with | (lo, hi) => pure (lo, (-1 : Int), Builtin.Slice.slicePlaces lo hi (-1))) _ _ s
  rw [adjust_rev n]
  show wpAny _ _ (pure ((n : Int) - 1, (-1 : Int), Builtin.Slice.slicePlaces ((n : Int) - 1) (-1) (-1))) _ _ s
  rw [places_rev]
  exact wpAny_pure h
theorem fm_congr {α β : Type} {f g : α → Option β} : ∀ {l : List α}, (∀ x ∈ l, f x = g x) → l.filterMap f = l.filterMap g
  | [], _ => rfl
  | x :: l, h => by
    rw [List.filterMap_cons, List.filterMap_cons, h x (by simp), fm_congr fun y hy => h y (by simp [hy])]
theorem pick_rev (xs : Array Value) : ((List.range xs.size).filterMap fun (m : Nat) => xs[((xs.size : Int) - 1 + (m : Int) * (-1)).toNat]?).toArray = xs.toList.reverse.toArray := by
  have e : ((List.range xs.size).filterMap fun (m : Nat) => xs[((xs.size : Int) - 1 + (m : Int) * (-1)).toNat]?) = ((List.range xs.size).map fun k => xs.size - 1 - k).filterMap (xs[·]?) := by
    rw [List.filterMap_map]
    apply fm_congr
    intro m hm
    have hm := List.mem_range.mp hm
    show xs[((xs.size : Int) - 1 + (m : Int) * (-1)).toNat]? = xs[xs.size - 1 - m]?
    have : ((xs.size : Int) - 1 + (m : Int) * (-1)).toNat = xs.size - 1 - m := by omega
    rw [this]
  rw [e, PySem.W.krv_range, List.filterMap_reverse, PySem.W.krv_all]
theorem getItem_tuple_rev {t sl : Addr} {items : Array Value} {vl vu vs : Value} {Q : Value → Shared → Prop} (ht : IsTup s.heap t items) (hs : s.heap.IsSliceOf sl vl vu vs) (pl : IsPart vl none) (pu : IsPart vu none) (ps : IsPart vs (some (-1)))
    (h : Q (.ref s.heap.objs.size) { s with heap := s.heap.push { cls := .type "tuple", data := .seq items.toList.reverse.toArray } })
    (hsz : items.size ≤ sizeLine) : wpAny (model prog w) A (getItem (.ref t) (.ref sl)) Q E s := by
  have htake : sizeOk (.seq items.toList.reverse.toArray) := by
    show items.toList.reverse.toArray.size ≤ sizeLine
    rw [List.size_toArray, List.length_reverse, Array.length_toList]
    exact hsz
  obtain ⟨os, hos, hcs, hds⟩ := id hs
  have hTs : s.TypeIs (.ref sl) "slice" := ⟨os, hos, hcs⟩
  unfold getItem
  try with_reducible refine wpAny_holding ?_
  first | refine wpAny_bind (wpAny_pure ?_) | skip
  refine wpAny_bind (wpAny_sequenceKey ht.typeIs (by decide) ?_)
  refine wpAny_bind (wpAny_callSpecial?_slot (name := Str.ofString "__getitem__") ht.typeIs PyProof.Rows.slot_tuple_getitem
    (wpAny_call_entry PyProof.Rows.slot_tuple_getitem ht.typeIs entry_tuple_getitem ?_ (args_tuple_getitem _ _)))
  show wpAny _ _ (Builtin.Tuple.tupleItemsOf (.ref t) >>= _) _ _ s
  refine wpAny_bind (tupleItemsOf_ ht ?_)
  refine wpAny_bind (wpAny_typeOf hTs ?_)
  rw [if_pos (by decide)]
  refine wpAny_bind (sliceApplied_rev hs pl pu ps ?_)
  have hno : ¬ ((((items.size : Int) - 1) == 0 && (-1 : Int) == 1 && items.size == items.size) = true) := by
    intro q
    rw [Bool.and_eq_true, Bool.and_eq_true] at q
    exact absurd q.1.2 (by decide)
  show wpAny _ _ (if (((items.size : Int) - 1) == 0 && (-1 : Int) == 1 && items.size == items.size) = true then _ else _) _ _ s
  rw [if_neg hno, pick_rev]
  first
    | exact wpAny_bind (m := Builtin.Tuple.tupleExact _) (wpAny_newObj_type (wpAny_pure ⟨_, rfl, wpAny_pure h⟩) htake)
    | exact wpAny_bind (m := Builtin.Tuple.tupleExact _) (wpAny_newObj_type (wpAny_bind (wpAny_pure (wpAny_pure ⟨_, rfl, wpAny_pure h⟩))) htake)
    | exact wpAny_bind (wpAny_bind (m := Builtin.Tuple.tupleExact _) (wpAny_newObj_type (wpAny_pure (wpAny_pure ⟨_, rfl, wpAny_pure h⟩)) htake))
    | exact wpAny_bind (wpAny_bind (m := Builtin.Tuple.tupleExact _) (wpAny_newObj_type (wpAny_pure ⟨_, rfl, wpAny_pure h⟩) htake))
end
end HT
namespace L2
open PySem PySem.Spec PyProof.Rows
section
variable {X : Cx}
/-! ### xs[::-1] -/
def tRevLG (K : PySem.W.Frag) (te : TE) : TE := fun σ H Q => te σ H fun x H1 => ∃ a xs, x = .ref a ∧ SqL K H1 a xs ∧ ∀ p H', Same H1 H' → H1 p = none → H' p = some (.lst xs.reverse) → Q (.ref p) H'
theorem pe_revLG {e : Expr} {te : TE} {k : Nat} {p1 p2 p3 pos : Pos} (he : PE X e te) : PE X (.Subscript e (.Slice none none (some (.UnaryOp .USub (.Constant (.int 1) k p1) p2)) p3) pos) (tRevLG X.K te) := by
  refine ⟨fun pins s σ H Q I h => ?_⟩
  refine Subscript_ (thn (he.run pins s σ H _ I h) fun v s1 ⟨x, H1, I1, r1, q1⟩ => ?_)
  obtain ⟨a, xs, ex, hx, q⟩ := q1
  subst ex
  cases r1
  have hst : PO X (some (.UnaryOp .USub (.Constant (.int 1) k p1) p2)) (tPart (tUn (rU fun i => .int (-i)) (tC (.int 1)))) := po_some (pe_un un_neg pe_int)
  refine wpAny_Slice (thn (po_none.run pins s1 σ H1 (fun o H2 => o = none ∧ H2 = H1) I1 ⟨rfl, rfl⟩) fun vl s2 ⟨l, H2, I2, pl, el, e2⟩ => ?_)
  subst el e2
  refine thn (po_none.run pins s2 σ H2 (fun o H3 => o = none ∧ H3 = H2) I2 ⟨rfl, rfl⟩) fun vu s3 ⟨u, H3, I3, pu, eu, e3⟩ => ?_
  subst eu e3
  refine thn (hst.run pins s3 σ H3 (fun o H4 => o = some (-1) ∧ H4 = H3) I3 ⟨1, rfl, -1, rfl, rfl, rfl⟩) fun vs s4 ⟨o, H4, I4, ps, eo, e4⟩ => ?_
  subst eo e4
  have I5 : Inv X pins σ H4 { s4 with heap := s4.heap.push { cls := .type "slice", data := .fields #[vl, vu, vs] } } := I4.kept (t' := s4.toks) fun b ob q => Heap.get?_push_of_some _ q
  obtain ⟨its, r, ht, hz⟩ := I5.list hx
  have hlen := r.length
  show wpAny (model X.prog X.w) X.A (subscriptTail e (.Slice none none (some (.UnaryOp .USub (.Constant (.int 1) k p1) p2)) p3) (.ref a) (.ref s4.heap.objs.size)) (EP X pins σ Q) X.xe { s4 with heap := s4.heap.push { cls := .type "slice", data := .fields #[vl, vu, vs] } }
  refine tail_any (ops := [.ref a, .ref s4.heap.objs.size]) ht.isList.typeIs (PySem.slot_list_getitem.lookup) ?_ (by with_unfolding_all rfl)
  refine wpAny_getItem_list_slice ht.isList (Heap.IsSliceOf.new _ vl vu vs) pl pu ps (by decide) ?_ (by rw [List.size_toArray]; omega)
  rw [PySem.W.krv_pick]
  refine ⟨.ref _, _, I5.laid (t' := s4.toks) (o := .lst xs.reverse) (fun b ob q => Heap.get?_push_of_some _ q) (Nat.le_refl _) ?_, rfl, q _ _ (same_new (I5.hok.fresh (Nat.le_refl _))) (I5.hok.fresh (Nat.le_refl _)) upd_same⟩
  exact ⟨by rw [List.length_reverse]; exact hz, _, 0, r.reverse, Heap.get?_push_size _ rfl⟩
/-! ### t[::-1] -/
def tRevT (K : PySem.W.Frag) (te : TE) : TE := fun σ H Q => te σ H fun x H1 => ∃ a xs, x = .ref a ∧ SqT K H1 a xs ∧ ∀ p H', Same H1 H' → H1 p = none → H' p = some (.tup xs.reverse) → Q (.ref p) H'
theorem pe_revT {e : Expr} {te : TE} {k : Nat} {p1 p2 p3 pos : Pos} (he : PE X e te) : PE X (.Subscript e (.Slice none none (some (.UnaryOp .USub (.Constant (.int 1) k p1) p2)) p3) pos) (tRevT X.K te) := by
  refine ⟨fun pins s σ H Q I h => ?_⟩
  refine Subscript_ (thn (he.run pins s σ H _ I h) fun v s1 ⟨x, H1, I1, r1, q1⟩ => ?_)
  obtain ⟨a, xs, ex, hx, q⟩ := q1
  subst ex
  cases r1
  have hst : PO X (some (.UnaryOp .USub (.Constant (.int 1) k p1) p2)) (tPart (tUn (rU fun i => .int (-i)) (tC (.int 1)))) := po_some (pe_un un_neg pe_int)
  refine wpAny_Slice (thn (po_none.run pins s1 σ H1 (fun o H2 => o = none ∧ H2 = H1) I1 ⟨rfl, rfl⟩) fun vl s2 ⟨l, H2, I2, pl, el, e2⟩ => ?_)
  subst el e2
  refine thn (po_none.run pins s2 σ H2 (fun o H3 => o = none ∧ H3 = H2) I2 ⟨rfl, rfl⟩) fun vu s3 ⟨u, H3, I3, pu, eu, e3⟩ => ?_
  subst eu e3
  refine thn (hst.run pins s3 σ H3 (fun o H4 => o = some (-1) ∧ H4 = H3) I3 ⟨1, rfl, -1, rfl, rfl, rfl⟩) fun vs s4 ⟨o, H4, I4, ps, eo, e4⟩ => ?_
  subst eo e4
  have I5 : Inv X pins σ H4 { s4 with heap := s4.heap.push { cls := .type "slice", data := .fields #[vl, vu, vs] } } := I4.kept (t' := s4.toks) fun b ob q => Heap.get?_push_of_some _ q
  obtain ⟨its, r, ht, hz⟩ := I5.tuple hx
  have hlen := r.length
  show wpAny (model X.prog X.w) X.A (subscriptTail e (.Slice none none (some (.UnaryOp .USub (.Constant (.int 1) k p1) p2)) p3) (.ref a) (.ref s4.heap.objs.size)) (EP X pins σ Q) X.xe { s4 with heap := s4.heap.push { cls := .type "slice", data := .fields #[vl, vu, vs] } }
  refine tail_any (ops := [.ref a, .ref s4.heap.objs.size]) ht.typeIs (PyProof.Rows.slot_tuple_getitem.lookup) ?_ (by with_unfolding_all rfl)
  refine HT.getItem_tuple_rev ht (Heap.IsSliceOf.new _ vl vu vs) pl pu ps ?_ (by rw [List.size_toArray]; omega)
  refine ⟨.ref _, _, I5.laid (t' := s4.toks) (o := .tup xs.reverse) (fun b ob q => Heap.get?_push_of_some _ q) (Nat.le_refl _) ?_, rfl, q _ _ (same_new (I5.hok.fresh (Nat.le_refl _))) (I5.hok.fresh (Nat.le_refl _)) upd_same⟩
  exact ⟨by rw [List.length_reverse]; exact hz, _, r.reverse, IsTup.new _ _⟩
end
section
variable {X : Cx} (K : PySem.W.Frag)
theorem revLK {e : Expr} {te : TE} {k : Nat} {p1 p2 p3 pos : Pos} (he : PE X e te) (h : X.K = K := by rfl) : PE X (.Subscript e (.Slice none none (some (.UnaryOp .USub (.Constant (.int 1) k p1) p2)) p3) pos) (tRevLG K te) := by subst h; exact pe_revLG he
theorem revTK {e : Expr} {te : TE} {k : Nat} {p1 p2 p3 pos : Pos} (he : PE X e te) (h : X.K = K := by rfl) : PE X (.Subscript e (.Slice none none (some (.UnaryOp .USub (.Constant (.int 1) k p1) p2)) p3) pos) (tRevT K te) := by subst h; exact pe_revT he
end
end L2
set_option Elab.async false
set_option linter.all false
set_option maxRecDepth 100000
set_option maxHeartbeats 4000000
namespace L2
open PySem PySem.Spec PyProof.Rows
/-! str(a bool) -/
def rStrB : List V → Hp → VK → Prop := fun xs H Q => ∃ b, xs = [.bl b] ∧ Q (.str (if b then "True" else "False")) H
theorem strBK {X : Cx} : CallR X (.type "str") rStrB := by
  intro pins s σ H xs us Q I r h
  obtain ⟨b, rfl, q⟩ := h
  obtain ⟨u, rfl, r1⟩ := vals1 r
  cases r1
  exact PySem.P.str_of_bool ⟨.str _, H, I.tok _, ⟨_, rfl⟩, q⟩
/-! rows of the very same objects -/
def Refs (xs : List V) : Prop := ∀ v ∈ xs, ∃ b, v = .ref b
theorem vals_refs : ∀ {xs : List V} {us vs : List Value}, Refs xs → Vals xs us → Vals xs vs → us = vs
  | _, _, _, _, .nil, .nil => rfl
  | _, _, _, h, .cons r t, .cons r' t' => by
    obtain ⟨b, rfl⟩ := h _ (List.mem_cons_self ..)
    cases r
    cases r'
    rw [vals_refs (fun v hv => h v (List.mem_cons_of_mem _ hv)) t t']
def rSameL (K : PySem.W.Frag) : R2 := fun x y H Q => ∃ a c xs, x = .ref a ∧ y = .ref c ∧ SqL K H a xs ∧ SqL K H c xs ∧ Refs xs ∧ Q (.bl false) H
def rSameT (K : PySem.W.Frag) : R2 := fun x y H Q => ∃ a c xs, x = .ref a ∧ y = .ref c ∧ SqT K H a xs ∧ SqT K H c xs ∧ Refs xs ∧ Q (.bl false) H
section
variable {X : Cx}
theorem op_neSameL {k : Nat} (hr : Room k X.A) : OpR X (compareOp .NotEq) (rSameL X.K) := by
  intro pins s σ H x y v u Q I rx ry h
  obtain ⟨a, c, xs, rfl, rfl, ha, hc, rf, q⟩ := h
  cases rx
  cases ry
  obtain ⟨us, r1, p1, z1⟩ := I.list ha
  obtain ⟨vs, r2, p2, z2⟩ := I.list hc
  have e := vals_refs rf r1 r2
  subst e
  have un := hu64 hr
  have := SeqAt.RcNeAt.lists (A := X.A) (e := fun _ => true) p1.isList p2.isList rfl (by omega) (fun j h1 h2 => SeqAt.EqAt.same _)
  refine this X.prog X.w X.xe _ ⟨.bl _, H, I, rfl, ?_⟩
  rw [show (List.range us.toArray.size).all (fun _ => true) = true from List.all_eq_true.mpr fun _ _ => rfl]
  exact q
theorem op_neSameT {k : Nat} (hr : Room k X.A) : OpR X (compareOp .NotEq) (rSameT X.K) := by
  intro pins s σ H x y v u Q I rx ry h
  obtain ⟨a, c, xs, rfl, rfl, ha, hc, rf, q⟩ := h
  cases rx
  cases ry
  obtain ⟨us, r1, p1, z1⟩ := I.tuple ha
  obtain ⟨vs, r2, p2, z2⟩ := I.tuple hc
  have e := vals_refs rf r1 r2
  subst e
  have un := hu64 hr
  have := SeqAt.RcNeAt.tuples (A := X.A) (e := fun _ => true) p1 p2 (by omega) (fun j h1 h2 => SeqAt.EqAt.same _)
  refine this X.prog X.w X.xe _ ⟨.bl _, H, I, rfl, ?_⟩
  rw [show (List.range (min us.toArray.size us.toArray.size)).all (fun _ => true) = true from List.all_eq_true.mpr fun _ _ => rfl]
  simpa using q
end
section
variable {X : Cx} (K : PySem.W.Frag)
theorem sameLK {k : Nat} (hr : Room k X.A) (h : X.K = K := by rfl) : OpR X (compareOp .NotEq) (rSameL K) := by subst h; exact op_neSameL hr
theorem sameTK {k : Nat} (hr : Room k X.A) (h : X.K = K := by rfl) : OpR X (compareOp .NotEq) (rSameT K) := by subst h; exact op_neSameT hr
end
section
variable {X : Cx} {CR CS : Addr}
/-! own == of rules and steps, for either thing -/
def rOwnEq (K : PySem.W.Frag) (C : Addr) (R : Eqb) : R2 := rEqB (DOwn K C R)
def rOwnNe (K : PySem.W.Frag) (C : Addr) (R : Eqb) : R2 := rEqB (fun x y H b => DOwn K C R x y H (!b))
end
end L2
namespace L2
open PySem PySem.Spec PyProof.Rows
section
variable {K : PySem.W.Frag} {H : Hp} {Q : VK} {a : Addr} {xs : List V}
def revTR (K : PySem.W.Frag) (x : V) (H1 : Hp) (Q : VK) : Prop := ∃ a xs, x = .ref a ∧ SqT K H1 a xs ∧ ∀ p H', Same H1 H' → H1 p = none → H' p = some (.tup xs.reverse) → Q (.ref p) H'
def revLR (K : PySem.W.Frag) (x : V) (H1 : Hp) (Q : VK) : Prop := ∃ a xs, x = .ref a ∧ SqL K H1 a xs ∧ ∀ p H', Same H1 H' → H1 p = none → H' p = some (.lst xs.reverse) → Q (.ref p) H'
theorem k_revT {te : TE} {σ : St} (k : te σ H fun x H1 => revTR K x H1 Q) : tRevT K te σ H Q := k
theorem k_revL {te : TE} {σ : St} (k : te σ H fun x H1 => revLR K x H1 Q) : tRevLG K te σ H Q := k
theorem k_eqD {x y : V} {d e : PyData} (hd : Dp K H x d) (he : Dp K H y e) (sd : SeqAt.shaped d = true) (se : SeqAt.shaped e = true) (k : Q (.bl (PyData.eqv d e)) H) : rEqA K x y H Q := rv_eqD hd he sd se Q k
theorem k_strB {b : Bool} (k : Q (.str (if b then "True" else "False")) H) : rStrB [.bl b] H Q := ⟨b, rfl, k⟩
theorem k_catT {b : Addr} {ys : List V} (ha : SqT K H a xs) (hb : SqT K H b ys) (sz : xs.length + ys.length ≤ 100000) (k : ∀ p H', Same H H' → SqT K H' p (xs ++ ys) → Q (.ref p) H') : rAddA K (.ref a) (.ref b) H Q := by
  refine .inr (.inr (.inr ⟨a, b, xs, ys, rfl, rfl, ha, hb, Evl.sz_of sz, fun e => ?_, fun _ e => ?_, fun _ _ p hp => k p _ (same_new hp) (Evl.st_of upd_same)⟩))
  · subst e
    exact k b H (Same.refl H) hb
  · subst e
    refine k a H (Same.refl H) ?_
    rw [List.append_nil]
    exact ha
theorem k_lstG {t : Bool} (h : SqB K t H a xs) (k : ∀ l H', Same H H' → H l = none → H' l = some (.lst xs) → Q (.ref l) H') : rLstOf K [.ref a] H Q := by
  refine ⟨a, xs, rfl, ?_, fun l hl => k l _ (same_new hl) hl upd_same⟩
  cases t with
  | false => exact .inl h
  | true => exact .inr h
end
end L2
set_option Elab.async false
set_option linter.all false
set_option maxRecDepth 100000
set_option maxHeartbeats 4000000
namespace K02
open PySem PySem.Spec PyProof.Rows L2
def topS (i : Nat) : Stmt := PySem.Challenge.pw_stemsteps_k02_rules_and_steps.main.body.getD i (.Pass ⟨0, 0, 0, 0⟩)
abbrev s_is_list : Stmt := topS 9
theorem sc_is_list : FnScope ["thing"] ["thing"] (defScope s_is_list) := ⟨rfl, rfl, rfl, by decide +kernel, rfl, by decide +kernel, by decide +kernel⟩
abbrev s_is_number : Stmt := topS 10
theorem sc_is_number : FnScope ["thing"] ["thing"] (defScope s_is_number) := ⟨rfl, rfl, rfl, by decide +kernel, rfl, by decide +kernel, by decide +kernel⟩
abbrev s_is_text_of : Stmt := topS 11
theorem sc_is_text_of : FnScope ["thing", "letters", "letter"] ["thing", "letters"] (defScope s_is_text_of) := ⟨rfl, rfl, rfl, by decide +kernel, rfl, by decide +kernel, by decide +kernel⟩
abbrev s_is_word_of : Stmt := topS 12
theorem sc_is_word_of : FnScope ["thing", "letters"] ["thing", "letters"] (defScope s_is_word_of) := ⟨rfl, rfl, rfl, by decide +kernel, rfl, by decide +kernel, by decide +kernel⟩
abbrev s_is_condition : Stmt := topS 14
theorem sc_is_condition : FnScope ["thing"] ["thing"] (defScope s_is_condition) := ⟨rfl, rfl, rfl, by decide +kernel, rfl, by decide +kernel, by decide +kernel⟩
abbrev s_is_plain : Stmt := topS 15
theorem sc_is_plain : FnScope ["thing", "kind", "value", "text"] ["thing"] (defScope s_is_plain) := ⟨rfl, rfl, rfl, by decide +kernel, rfl, by decide +kernel, by decide +kernel⟩
abbrev s_check_mode : Stmt := topS 19
theorem sc_check_mode : FnScope ["mode"] ["mode"] (defScope s_check_mode) := ⟨rfl, rfl, rfl, by decide +kernel, rfl, by decide +kernel, by decide +kernel⟩
abbrev s_check_conditions : Stmt := topS 20
theorem sc_check_conditions : FnScope ["conditions", "place", "condition"] ["conditions"] (defScope s_check_conditions) := ⟨rfl, rfl, rfl, by decide +kernel, rfl, by decide +kernel, by decide +kernel⟩
abbrev s_check_rules : Stmt := topS 21
theorem sc_check_rules : FnScope ["rules", "place", "rule"] ["rules"] (defScope s_check_rules) := ⟨rfl, rfl, rfl, by decide +kernel, rfl, by decide +kernel, by decide +kernel⟩
abbrev s_check_endings : Stmt := topS 22
theorem sc_check_endings : FnScope ["rules", "seen", "rule"] ["rules"] (defScope s_check_endings) := ⟨rfl, rfl, rfl, by decide +kernel, rfl, by decide +kernel, by decide +kernel⟩
abbrev s_law_mixed : Stmt := topS 24
theorem sc_law_mixed : FnScope ["cell", "k", "stirred"] ["cell", "k"] (defScope s_law_mixed) := ⟨rfl, rfl, rfl, by decide +kernel, rfl, by decide +kernel, by decide +kernel⟩
abbrev s_law_purse : Stmt := topS 25
theorem sc_law_purse : FnScope ["cells", "at", "cell"] ["cells", "at"] (defScope s_law_purse) := ⟨rfl, rfl, rfl, by decide +kernel, rfl, by decide +kernel, by decide +kernel⟩
abbrev s_law_draw : Stmt := topS 26
theorem sc_law_draw : FnScope ["purse", "out_of", "drawn"] ["purse", "out_of"] (defScope s_law_draw) := ⟨rfl, rfl, rfl, by decide +kernel, rfl, by decide +kernel, by decide +kernel⟩
abbrev s_law_letters : Stmt := topS 28
theorem sc_law_letters : FnScope ["purse", "signs", "one"] ["purse"] (defScope s_law_letters) := ⟨rfl, rfl, rfl, by decide +kernel, rfl, by decide +kernel, by decide +kernel⟩
abbrev s_law_text : Stmt := topS 29
theorem sc_law_text : FnScope ["purse", "signs", "least", "top", "many", "turn"] ["purse", "signs", "least", "top"] (defScope s_law_text) := ⟨rfl, rfl, rfl, by decide +kernel, rfl, by decide +kernel, by decide +kernel⟩
abbrev s_law_condition : Stmt := topS 30
theorem sc_law_condition : FnScope ["purse", "signs", "texts", "shape", "some", "found", "turn"] ["purse", "signs"] (defScope s_law_condition) := ⟨rfl, rfl, rfl, by decide +kernel, rfl, by decide +kernel, by decide +kernel⟩
abbrev s_law_rule : Stmt := topS 31
theorem sc_law_rule : FnScope ["purse", "signs", "lots", "turn"] ["purse", "signs"] (defScope s_law_rule) := ⟨rfl, rfl, rfl, by decide +kernel, rfl, by decide +kernel, by decide +kernel⟩
abbrev s_law_step : Stmt := topS 32
theorem sc_law_step : FnScope ["purse", "signs", "top", "found", "how", "turn", "one", "one_rule"] ["purse", "signs", "top"] (defScope s_law_step) := ⟨rfl, rfl, rfl, by decide +kernel, rfl, by decide +kernel, by decide +kernel⟩
abbrev s_law_made_step : Stmt := topS 33
theorem sc_law_made_step : FnScope ["raw", "one"] ["raw"] (defScope s_law_made_step) := ⟨rfl, rfl, rfl, by decide +kernel, rfl, by decide +kernel, by decide +kernel⟩
abbrev s_law_asked : Stmt := topS 34
theorem sc_law_asked : FnScope ["kind", "some"] ["kind", "some"] (defScope s_law_asked) := ⟨rfl, rfl, rfl, by decide +kernel, rfl, by decide +kernel, by decide +kernel⟩
abbrev s_law_caught : Stmt := topS 35
theorem sc_law_caught : FnScope ["kind", "some", "caught", "error"] ["kind", "some"] (defScope s_law_caught) := ⟨rfl, rfl, rfl, by decide +kernel, rfl, by decide +kernel, by decide +kernel⟩
abbrev s_law_doors_right : Stmt := topS 36
theorem sc_law_doors_right : FnScope ["purse", "odd", "bad", "at", "spoilt", "none", "asked", "due", "manner", "one", "two", "lots", "spot", "wrong", "twice", "nested", "some"] ["purse"] (defScope s_law_doors_right) := ⟨rfl, rfl, rfl, by decide +kernel, rfl, by decide +kernel, by decide +kernel⟩
abbrev s_law_right : Stmt := topS 37
theorem sc_law_right : FnScope ["purse", "signs", "soft", "raw", "one", "handed", "made", "others", "unlike", "step", "lots", "kept", "turned", "each"] ["purse"] (defScope s_law_right) := ⟨rfl, rfl, rfl, by decide +kernel, rfl, by decide +kernel, by decide +kernel⟩
abbrev s_law : Stmt := topS 38
theorem sc_law : FnScope ["script", "at", "purse", "turn", "far"] ["script"] (defScope s_law) := ⟨rfl, rfl, rfl, by decide +kernel, rfl, by decide +kernel, by decide +kernel⟩
abbrev s_InvalidText_init : Stmt := inClass (topS 2) 0
theorem sc_InvalidText_init : FnScope ["self", "thing"] ["self", "thing"] (defScope s_InvalidText_init) := ⟨rfl, rfl, rfl, by decide +kernel, rfl, by decide +kernel, by decide +kernel⟩
abbrev s_InvalidConditions_init : Stmt := inClass (topS 3) 0
theorem sc_InvalidConditions_init : FnScope ["self", "place"] ["self", "place"] (defScope s_InvalidConditions_init) := ⟨rfl, rfl, rfl, by decide +kernel, rfl, by decide +kernel, by decide +kernel⟩
abbrev s_InvalidRules_init : Stmt := inClass (topS 4) 0
theorem sc_InvalidRules_init : FnScope ["self", "place"] ["self", "place"] (defScope s_InvalidRules_init) := ⟨rfl, rfl, rfl, by decide +kernel, rfl, by decide +kernel, by decide +kernel⟩
abbrev s_InvalidMode_init : Stmt := inClass (topS 5) 0
theorem sc_InvalidMode_init : FnScope ["self", "thing"] ["self", "thing"] (defScope s_InvalidMode_init) := ⟨rfl, rfl, rfl, by decide +kernel, rfl, by decide +kernel, by decide +kernel⟩
abbrev s_SameEnding_init : Stmt := inClass (topS 6) 0
theorem sc_SameEnding_init : FnScope ["self", "ending"] ["self", "ending"] (defScope s_SameEnding_init) := ⟨rfl, rfl, rfl, by decide +kernel, rfl, by decide +kernel, by decide +kernel⟩
abbrev s_Rule_init : Stmt := inClass (topS 17) 0
theorem sc_Rule_init : FnScope ["self", "ending", "put", "conditions"] ["self", "ending", "put", "conditions"] (defScope s_Rule_init) := ⟨rfl, rfl, rfl, by decide +kernel, rfl, by decide +kernel, by decide +kernel⟩
abbrev s_Rule_ending : Stmt := inClass (topS 17) 1
theorem sc_Rule_ending : FnScope ["self"] ["self"] (defScope s_Rule_ending) := ⟨rfl, rfl, rfl, by decide +kernel, rfl, by decide +kernel, by decide +kernel⟩
abbrev s_Rule_put : Stmt := inClass (topS 17) 3
theorem sc_Rule_put : FnScope ["self"] ["self"] (defScope s_Rule_put) := ⟨rfl, rfl, rfl, by decide +kernel, rfl, by decide +kernel, by decide +kernel⟩
abbrev s_Rule_conditions : Stmt := inClass (topS 17) 4
theorem sc_Rule_conditions : FnScope ["self"] ["self"] (defScope s_Rule_conditions) := ⟨rfl, rfl, rfl, by decide +kernel, rfl, by decide +kernel, by decide +kernel⟩
abbrev s_Rule_eq : Stmt := inClass (topS 17) 5
theorem sc_Rule_eq : FnScope ["self", "other"] ["self", "other"] (defScope s_Rule_eq) := ⟨rfl, rfl, rfl, by decide +kernel, rfl, by decide +kernel, by decide +kernel⟩
abbrev s_Step_init : Stmt := inClass (topS 18) 0
theorem sc_Step_init : FnScope ["self", "rules", "mode"] ["self", "rules", "mode"] (defScope s_Step_init) := ⟨rfl, rfl, rfl, by decide +kernel, rfl, by decide +kernel, by decide +kernel⟩
abbrev s_Step_rules : Stmt := inClass (topS 18) 1
theorem sc_Step_rules : FnScope ["self"] ["self"] (defScope s_Step_rules) := ⟨rfl, rfl, rfl, by decide +kernel, rfl, by decide +kernel, by decide +kernel⟩
abbrev s_Step_mode : Stmt := inClass (topS 18) 2
theorem sc_Step_mode : FnScope ["self"] ["self"] (defScope s_Step_mode) := ⟨rfl, rfl, rfl, by decide +kernel, rfl, by decide +kernel, by decide +kernel⟩
abbrev s_Step_eq : Stmt := inClass (topS 18) 3
theorem sc_Step_eq : FnScope ["self", "other"] ["self", "other"] (defScope s_Step_eq) := ⟨rfl, rfl, rfl, by decide +kernel, rfl, by decide +kernel, by decide +kernel⟩
structure Txt (K : PySem.W.Frag) (mg : Str → Option Value) where
  a_is_list : Addr
  fd_is_list : FuncData
  F_is_list : Fun K "is_list" "is_list" s_is_list a_is_list fd_is_list
  m_is_list : mg "is_list" = some (.ref a_is_list)
  b_is_list : Binds K fd_is_list ["thing"] []
  a_is_number : Addr
  fd_is_number : FuncData
  F_is_number : Fun K "is_number" "is_number" s_is_number a_is_number fd_is_number
  m_is_number : mg "is_number" = some (.ref a_is_number)
  b_is_number : Binds K fd_is_number ["thing"] []
  a_is_text_of : Addr
  fd_is_text_of : FuncData
  F_is_text_of : Fun K "is_text_of" "is_text_of" s_is_text_of a_is_text_of fd_is_text_of
  m_is_text_of : mg "is_text_of" = some (.ref a_is_text_of)
  b_is_text_of : Binds K fd_is_text_of ["thing", "letters"] []
  a_is_word_of : Addr
  fd_is_word_of : FuncData
  F_is_word_of : Fun K "is_word_of" "is_word_of" s_is_word_of a_is_word_of fd_is_word_of
  m_is_word_of : mg "is_word_of" = some (.ref a_is_word_of)
  b_is_word_of : Binds K fd_is_word_of ["thing", "letters"] []
  a_is_condition : Addr
  fd_is_condition : FuncData
  F_is_condition : Fun K "is_condition" "is_condition" s_is_condition a_is_condition fd_is_condition
  m_is_condition : mg "is_condition" = some (.ref a_is_condition)
  b_is_condition : Binds K fd_is_condition ["thing"] []
  a_is_plain : Addr
  fd_is_plain : FuncData
  F_is_plain : Fun K "_is_plain" "_is_plain" s_is_plain a_is_plain fd_is_plain
  m_is_plain : mg "_is_plain" = some (.ref a_is_plain)
  b_is_plain : Binds K fd_is_plain ["thing"] []
  a_check_mode : Addr
  fd_check_mode : FuncData
  F_check_mode : Fun K "check_mode" "check_mode" s_check_mode a_check_mode fd_check_mode
  m_check_mode : mg "check_mode" = some (.ref a_check_mode)
  b_check_mode : Binds K fd_check_mode ["mode"] []
  a_check_conditions : Addr
  fd_check_conditions : FuncData
  F_check_conditions : Fun K "_check_conditions" "_check_conditions" s_check_conditions a_check_conditions fd_check_conditions
  m_check_conditions : mg "_check_conditions" = some (.ref a_check_conditions)
  b_check_conditions : Binds K fd_check_conditions ["conditions"] []
  a_check_rules : Addr
  fd_check_rules : FuncData
  F_check_rules : Fun K "_check_rules" "_check_rules" s_check_rules a_check_rules fd_check_rules
  m_check_rules : mg "_check_rules" = some (.ref a_check_rules)
  b_check_rules : Binds K fd_check_rules ["rules"] []
  a_check_endings : Addr
  fd_check_endings : FuncData
  F_check_endings : Fun K "_check_endings" "_check_endings" s_check_endings a_check_endings fd_check_endings
  m_check_endings : mg "_check_endings" = some (.ref a_check_endings)
  b_check_endings : Binds K fd_check_endings ["rules"] []
  a_law_mixed : Addr
  fd_law_mixed : FuncData
  F_law_mixed : Fun K "_law_mixed" "_law_mixed" s_law_mixed a_law_mixed fd_law_mixed
  m_law_mixed : mg "_law_mixed" = some (.ref a_law_mixed)
  b_law_mixed : Binds K fd_law_mixed ["cell", "k"] []
  a_law_purse : Addr
  fd_law_purse : FuncData
  F_law_purse : Fun K "_law_purse" "_law_purse" s_law_purse a_law_purse fd_law_purse
  m_law_purse : mg "_law_purse" = some (.ref a_law_purse)
  b_law_purse : Binds K fd_law_purse ["cells", "at"] []
  a_law_draw : Addr
  fd_law_draw : FuncData
  F_law_draw : Fun K "_law_draw" "_law_draw" s_law_draw a_law_draw fd_law_draw
  m_law_draw : mg "_law_draw" = some (.ref a_law_draw)
  b_law_draw : Binds K fd_law_draw ["purse", "out_of"] []
  a_law_letters : Addr
  fd_law_letters : FuncData
  F_law_letters : Fun K "_law_letters" "_law_letters" s_law_letters a_law_letters fd_law_letters
  m_law_letters : mg "_law_letters" = some (.ref a_law_letters)
  b_law_letters : Binds K fd_law_letters ["purse"] []
  a_law_text : Addr
  fd_law_text : FuncData
  F_law_text : Fun K "_law_text" "_law_text" s_law_text a_law_text fd_law_text
  m_law_text : mg "_law_text" = some (.ref a_law_text)
  b_law_text : Binds K fd_law_text ["purse", "signs", "least", "top"] []
  a_law_condition : Addr
  fd_law_condition : FuncData
  F_law_condition : Fun K "_law_condition" "_law_condition" s_law_condition a_law_condition fd_law_condition
  m_law_condition : mg "_law_condition" = some (.ref a_law_condition)
  b_law_condition : Binds K fd_law_condition ["purse", "signs"] []
  a_law_rule : Addr
  fd_law_rule : FuncData
  F_law_rule : Fun K "_law_rule" "_law_rule" s_law_rule a_law_rule fd_law_rule
  m_law_rule : mg "_law_rule" = some (.ref a_law_rule)
  b_law_rule : Binds K fd_law_rule ["purse", "signs"] []
  a_law_step : Addr
  fd_law_step : FuncData
  F_law_step : Fun K "_law_step" "_law_step" s_law_step a_law_step fd_law_step
  m_law_step : mg "_law_step" = some (.ref a_law_step)
  b_law_step : Binds K fd_law_step ["purse", "signs", "top"] []
  a_law_made_step : Addr
  fd_law_made_step : FuncData
  F_law_made_step : Fun K "_law_made_step" "_law_made_step" s_law_made_step a_law_made_step fd_law_made_step
  m_law_made_step : mg "_law_made_step" = some (.ref a_law_made_step)
  b_law_made_step : Binds K fd_law_made_step ["raw"] []
  a_law_asked : Addr
  fd_law_asked : FuncData
  F_law_asked : Fun K "_law_asked" "_law_asked" s_law_asked a_law_asked fd_law_asked
  m_law_asked : mg "_law_asked" = some (.ref a_law_asked)
  b_law_asked : Binds K fd_law_asked ["kind", "some"] []
  a_law_caught : Addr
  fd_law_caught : FuncData
  F_law_caught : Fun K "_law_caught" "_law_caught" s_law_caught a_law_caught fd_law_caught
  m_law_caught : mg "_law_caught" = some (.ref a_law_caught)
  b_law_caught : Binds K fd_law_caught ["kind", "some"] []
  a_law_doors_right : Addr
  fd_law_doors_right : FuncData
  F_law_doors_right : Fun K "_law_doors_right" "_law_doors_right" s_law_doors_right a_law_doors_right fd_law_doors_right
  m_law_doors_right : mg "_law_doors_right" = some (.ref a_law_doors_right)
  b_law_doors_right : Binds K fd_law_doors_right ["purse"] []
  a_law_right : Addr
  fd_law_right : FuncData
  F_law_right : Fun K "_law_right" "_law_right" s_law_right a_law_right fd_law_right
  m_law_right : mg "_law_right" = some (.ref a_law_right)
  b_law_right : Binds K fd_law_right ["purse"] []
  a_law : Addr
  fd_law : FuncData
  F_law : Fun K "law" "law" s_law a_law fd_law
  m_law : mg "law" = some (.ref a_law)
  b_law : Binds K fd_law ["script"] []
  z_AttributeError : mg "AttributeError" = none
  z_all : mg "all" = none
  z_bool : mg "bool" = none
  z_enumerate : mg "enumerate" = none
  z_int : mg "int" = none
  z_isinstance : mg "isinstance" = none
  z_len : mg "len" = none
  z_list : mg "list" = none
  z_max : mg "max" = none
  z_min : mg "min" = none
  z_property : mg "property" = none
  z_range : mg "range" = none
  z_set : mg "set" = none
  z_str : mg "str" = none
  z_tuple : mg "tuple" = none
  c_ALPHABET : ∃ u, mg "ALPHABET" = some u ∧ RelV (.str "abcdefghijklmnopqrstuvwxyz") u
  C_StemError : Addr
  mc_StemError : mg "StemError" = some (.ref C_StemError)
  C_InvalidText : Addr
  mc_InvalidText : mg "InvalidText" = some (.ref C_InvalidText)
  x_InvalidText : OexC K C_InvalidText
  xf_InvalidText : XfC K C_InvalidText
  aI_InvalidText : Addr
  fdI_InvalidText : FuncData
  FI_InvalidText : Fun K "__init__" "InvalidText.__init__" s_InvalidText_init aI_InvalidText fdI_InvalidText
  bI_InvalidText : Binds K fdI_InvalidText ["self", "thing"] []
  i_InvalidText : PySem.W.findIn K (.ref C_InvalidText) "__init__" = some (some (.ref aI_InvalidText))
  t_InvalidText : PySem.W.typeIn K (.ref aI_InvalidText) = some (.type "function")
  n_InvalidText_thing : PySem.W.findIn K (.ref C_InvalidText) "thing" = some none
  C_InvalidConditions : Addr
  mc_InvalidConditions : mg "InvalidConditions" = some (.ref C_InvalidConditions)
  x_InvalidConditions : OexC K C_InvalidConditions
  xf_InvalidConditions : XfC K C_InvalidConditions
  aI_InvalidConditions : Addr
  fdI_InvalidConditions : FuncData
  FI_InvalidConditions : Fun K "__init__" "InvalidConditions.__init__" s_InvalidConditions_init aI_InvalidConditions fdI_InvalidConditions
  bI_InvalidConditions : Binds K fdI_InvalidConditions ["self", "place"] []
  i_InvalidConditions : PySem.W.findIn K (.ref C_InvalidConditions) "__init__" = some (some (.ref aI_InvalidConditions))
  t_InvalidConditions : PySem.W.typeIn K (.ref aI_InvalidConditions) = some (.type "function")
  n_InvalidConditions_place : PySem.W.findIn K (.ref C_InvalidConditions) "place" = some none
  C_InvalidRules : Addr
  mc_InvalidRules : mg "InvalidRules" = some (.ref C_InvalidRules)
  x_InvalidRules : OexC K C_InvalidRules
  xf_InvalidRules : XfC K C_InvalidRules
  aI_InvalidRules : Addr
  fdI_InvalidRules : FuncData
  FI_InvalidRules : Fun K "__init__" "InvalidRules.__init__" s_InvalidRules_init aI_InvalidRules fdI_InvalidRules
  bI_InvalidRules : Binds K fdI_InvalidRules ["self", "place"] []
  i_InvalidRules : PySem.W.findIn K (.ref C_InvalidRules) "__init__" = some (some (.ref aI_InvalidRules))
  t_InvalidRules : PySem.W.typeIn K (.ref aI_InvalidRules) = some (.type "function")
  n_InvalidRules_place : PySem.W.findIn K (.ref C_InvalidRules) "place" = some none
  C_InvalidMode : Addr
  mc_InvalidMode : mg "InvalidMode" = some (.ref C_InvalidMode)
  x_InvalidMode : OexC K C_InvalidMode
  xf_InvalidMode : XfC K C_InvalidMode
  aI_InvalidMode : Addr
  fdI_InvalidMode : FuncData
  FI_InvalidMode : Fun K "__init__" "InvalidMode.__init__" s_InvalidMode_init aI_InvalidMode fdI_InvalidMode
  bI_InvalidMode : Binds K fdI_InvalidMode ["self", "thing"] []
  i_InvalidMode : PySem.W.findIn K (.ref C_InvalidMode) "__init__" = some (some (.ref aI_InvalidMode))
  t_InvalidMode : PySem.W.typeIn K (.ref aI_InvalidMode) = some (.type "function")
  n_InvalidMode_thing : PySem.W.findIn K (.ref C_InvalidMode) "thing" = some none
  C_SameEnding : Addr
  mc_SameEnding : mg "SameEnding" = some (.ref C_SameEnding)
  x_SameEnding : OexC K C_SameEnding
  xf_SameEnding : XfC K C_SameEnding
  aI_SameEnding : Addr
  fdI_SameEnding : FuncData
  FI_SameEnding : Fun K "__init__" "SameEnding.__init__" s_SameEnding_init aI_SameEnding fdI_SameEnding
  bI_SameEnding : Binds K fdI_SameEnding ["self", "ending"] []
  i_SameEnding : PySem.W.findIn K (.ref C_SameEnding) "__init__" = some (some (.ref aI_SameEnding))
  t_SameEnding : PySem.W.typeIn K (.ref aI_SameEnding) = some (.type "function")
  n_SameEnding_ending : PySem.W.findIn K (.ref C_SameEnding) "ending" = some none
  e_InvalidText_StemError : PySem.W.exmOne K (.ref C_InvalidText) (.ref C_StemError) = some true
  e_InvalidText_InvalidText : PySem.W.exmOne K (.ref C_InvalidText) (.ref C_InvalidText) = some true
  e_InvalidText_InvalidConditions : PySem.W.exmOne K (.ref C_InvalidText) (.ref C_InvalidConditions) = some false
  e_InvalidText_InvalidRules : PySem.W.exmOne K (.ref C_InvalidText) (.ref C_InvalidRules) = some false
  e_InvalidText_InvalidMode : PySem.W.exmOne K (.ref C_InvalidText) (.ref C_InvalidMode) = some false
  e_InvalidText_SameEnding : PySem.W.exmOne K (.ref C_InvalidText) (.ref C_SameEnding) = some false
  e_InvalidConditions_StemError : PySem.W.exmOne K (.ref C_InvalidConditions) (.ref C_StemError) = some true
  e_InvalidConditions_InvalidText : PySem.W.exmOne K (.ref C_InvalidConditions) (.ref C_InvalidText) = some false
  e_InvalidConditions_InvalidConditions : PySem.W.exmOne K (.ref C_InvalidConditions) (.ref C_InvalidConditions) = some true
  e_InvalidConditions_InvalidRules : PySem.W.exmOne K (.ref C_InvalidConditions) (.ref C_InvalidRules) = some false
  e_InvalidConditions_InvalidMode : PySem.W.exmOne K (.ref C_InvalidConditions) (.ref C_InvalidMode) = some false
  e_InvalidConditions_SameEnding : PySem.W.exmOne K (.ref C_InvalidConditions) (.ref C_SameEnding) = some false
  e_InvalidRules_StemError : PySem.W.exmOne K (.ref C_InvalidRules) (.ref C_StemError) = some true
  e_InvalidRules_InvalidText : PySem.W.exmOne K (.ref C_InvalidRules) (.ref C_InvalidText) = some false
  e_InvalidRules_InvalidConditions : PySem.W.exmOne K (.ref C_InvalidRules) (.ref C_InvalidConditions) = some false
  e_InvalidRules_InvalidRules : PySem.W.exmOne K (.ref C_InvalidRules) (.ref C_InvalidRules) = some true
  e_InvalidRules_InvalidMode : PySem.W.exmOne K (.ref C_InvalidRules) (.ref C_InvalidMode) = some false
  e_InvalidRules_SameEnding : PySem.W.exmOne K (.ref C_InvalidRules) (.ref C_SameEnding) = some false
  e_InvalidMode_StemError : PySem.W.exmOne K (.ref C_InvalidMode) (.ref C_StemError) = some true
  e_InvalidMode_InvalidText : PySem.W.exmOne K (.ref C_InvalidMode) (.ref C_InvalidText) = some false
  e_InvalidMode_InvalidConditions : PySem.W.exmOne K (.ref C_InvalidMode) (.ref C_InvalidConditions) = some false
  e_InvalidMode_InvalidRules : PySem.W.exmOne K (.ref C_InvalidMode) (.ref C_InvalidRules) = some false
  e_InvalidMode_InvalidMode : PySem.W.exmOne K (.ref C_InvalidMode) (.ref C_InvalidMode) = some true
  e_InvalidMode_SameEnding : PySem.W.exmOne K (.ref C_InvalidMode) (.ref C_SameEnding) = some false
  e_SameEnding_StemError : PySem.W.exmOne K (.ref C_SameEnding) (.ref C_StemError) = some true
  e_SameEnding_InvalidText : PySem.W.exmOne K (.ref C_SameEnding) (.ref C_InvalidText) = some false
  e_SameEnding_InvalidConditions : PySem.W.exmOne K (.ref C_SameEnding) (.ref C_InvalidConditions) = some false
  e_SameEnding_InvalidRules : PySem.W.exmOne K (.ref C_SameEnding) (.ref C_InvalidRules) = some false
  e_SameEnding_InvalidMode : PySem.W.exmOne K (.ref C_SameEnding) (.ref C_InvalidMode) = some false
  e_SameEnding_SameEnding : PySem.W.exmOne K (.ref C_SameEnding) (.ref C_SameEnding) = some true
  C_Rule : Addr
  C_Step : Addr
  mc_Rule : mg "Rule" = some (.ref C_Rule)
  cl_Rule : Cls K C_Rule
  in_Rule : C8.InsC K C_Rule
  ki_Rule : PySem.W.isClsIn K C_Rule = true
  kt_Rule : PySem.W.typeIn K (.ref C_Rule) = some (.type "type")
  aM_Rule_init : Addr
  fdM_Rule_init : FuncData
  FM_Rule_init : Fun K "__init__" "Rule.__init__" s_Rule_init aM_Rule_init fdM_Rule_init
  aM_Rule_ending : Addr
  fdM_Rule_ending : FuncData
  FM_Rule_ending : Fun K "ending" "Rule.ending" s_Rule_ending aM_Rule_ending fdM_Rule_ending
  bM_Rule_ending : Binds K fdM_Rule_ending ["self"] []
  pr_Rule_ending : Addr
  pp_Rule_ending : PropOf K C_Rule "ending" pr_Rule_ending aM_Rule_ending
  aM_Rule_put : Addr
  fdM_Rule_put : FuncData
  FM_Rule_put : Fun K "put" "Rule.put" s_Rule_put aM_Rule_put fdM_Rule_put
  bM_Rule_put : Binds K fdM_Rule_put ["self"] []
  pr_Rule_put : Addr
  pp_Rule_put : PropOf K C_Rule "put" pr_Rule_put aM_Rule_put
  aM_Rule_conditions : Addr
  fdM_Rule_conditions : FuncData
  FM_Rule_conditions : Fun K "conditions" "Rule.conditions" s_Rule_conditions aM_Rule_conditions fdM_Rule_conditions
  bM_Rule_conditions : Binds K fdM_Rule_conditions ["self"] []
  pr_Rule_conditions : Addr
  pp_Rule_conditions : PropOf K C_Rule "conditions" pr_Rule_conditions aM_Rule_conditions
  aM_Rule_eq : Addr
  fdM_Rule_eq : FuncData
  FM_Rule_eq : Fun K "__eq__" "Rule.__eq__" s_Rule_eq aM_Rule_eq fdM_Rule_eq
  bM_Rule_eq : Binds K fdM_Rule_eq ["self", "other"] []
  ow_Rule : OwnC K C_Rule aM_Rule_eq
  mk_Rule : Mk K C_Rule aM_Rule_init
  n_Rule_ending : NoAttr K C_Rule "_ending"
  n_Rule_put : NoAttr K C_Rule "_put"
  n_Rule_conditions : NoAttr K C_Rule "_conditions"
  e_Rule_conditions : Addr
  te_Rule_conditions : ∀ H : Hp, SqT K H e_Rule_conditions []
  ko_Rule_Rule : PySem.W.subIn K (.ref C_Rule) (.ref C_Rule) = some true
  ko_Rule_Step : PySem.W.subIn K (.ref C_Rule) (.ref C_Step) = some false
  mc_Step : mg "Step" = some (.ref C_Step)
  cl_Step : Cls K C_Step
  in_Step : C8.InsC K C_Step
  ki_Step : PySem.W.isClsIn K C_Step = true
  kt_Step : PySem.W.typeIn K (.ref C_Step) = some (.type "type")
  aM_Step_init : Addr
  fdM_Step_init : FuncData
  FM_Step_init : Fun K "__init__" "Step.__init__" s_Step_init aM_Step_init fdM_Step_init
  aM_Step_rules : Addr
  fdM_Step_rules : FuncData
  FM_Step_rules : Fun K "rules" "Step.rules" s_Step_rules aM_Step_rules fdM_Step_rules
  bM_Step_rules : Binds K fdM_Step_rules ["self"] []
  pr_Step_rules : Addr
  pp_Step_rules : PropOf K C_Step "rules" pr_Step_rules aM_Step_rules
  aM_Step_mode : Addr
  fdM_Step_mode : FuncData
  FM_Step_mode : Fun K "mode" "Step.mode" s_Step_mode aM_Step_mode fdM_Step_mode
  bM_Step_mode : Binds K fdM_Step_mode ["self"] []
  pr_Step_mode : Addr
  pp_Step_mode : PropOf K C_Step "mode" pr_Step_mode aM_Step_mode
  aM_Step_eq : Addr
  fdM_Step_eq : FuncData
  FM_Step_eq : Fun K "__eq__" "Step.__eq__" s_Step_eq aM_Step_eq fdM_Step_eq
  bM_Step_eq : Binds K fdM_Step_eq ["self", "other"] []
  ow_Step : OwnC K C_Step aM_Step_eq
  mk_Step : Mk K C_Step aM_Step_init
  n_Step_rules : NoAttr K C_Step "_rules"
  n_Step_mode : NoAttr K C_Step "_mode"
  ko_Step_Rule : PySem.W.subIn K (.ref C_Step) (.ref C_Rule) = some false
  ko_Step_Step : PySem.W.subIn K (.ref C_Step) (.ref C_Step) = some true
  kb_Step_init_1_mode : KBn K fdM_Step_init ["self", "rules", "mode"] 2 ["mode"] (fun us ws => us ++ pick [0] ws) (fun vs zs => vs ++ pick [0] zs)
  kb_Rule_init_2_conditions : KBn K fdM_Rule_init ["self", "ending", "put", "conditions"] 3 ["conditions"] (fun us ws => us ++ pick [0] ws) (fun vs zs => vs ++ pick [0] zs)
  dD_Rule : List Value
  vD_Rule : Vals [.ref e_Rule_conditions] dD_Rule
  bD_Rule : Binds K fdM_Rule_init ["self", "ending", "put", "conditions"] dD_Rule
  kb_Rule_init_0_ending_put_conditions : KBn K fdM_Rule_init ["self", "ending", "put", "conditions"] 1 ["ending", "put", "conditions"] (fun us ws => us ++ pick [0, 1, 2] ws) (fun vs zs => vs ++ pick [0, 1, 2] zs)
  kb_Step_init_0_rules_mode : KBn K fdM_Step_init ["self", "rules", "mode"] 1 ["rules", "mode"] (fun us ws => us ++ pick [0, 1] ws) (fun vs zs => vs ++ pick [0, 1] zs)
  dD_Step : List Value
  vD_Step : Vals [.str "longest"] dD_Step
  bD_Step : Binds K fdM_Step_init ["self", "rules", "mode"] dD_Step

end K02

set_option Elab.async false
set_option linter.all false
set_option maxRecDepth 100000
set_option maxHeartbeats 4000000
namespace K02
open PySem PySem.Spec PyProof.Rows L2
/-! ### short words -/
local macro_rules | `(tactic| walk_at "idx") => `(tactic| first | assumption | exact Evl.sq_of (by assumption) | exact Evl.st_of (by assumption) | exact Evl.sq_of upd_same | exact Evl.st_of upd_same)
local macro_rules | `(tactic| walk_at "side") => `(tactic| first | omega | exact Or.inl ⟨by omega, by omega⟩ | exact Or.inr ⟨by omega, by omega⟩ | exact ⟨by omega, by omega⟩ | decide +kernel)
local macro_rules | `(tactic| walk_at "div") => `(tactic| exact wide_div (b := 30) (by omega) (by omega) (by decide) (by decide))
local macro_rules | `(tactic| walk_at "pow") => `(tactic| exact ⟨by decide +kernel, by decide +kernel, by decide +kernel⟩)
local macro_rules | `(tactic| walk_at "rv") => `(tactic| first
  | with_reducible exact rv_addI | with_reducible exact rv_sub | with_reducible exact rv_lt | with_reducible exact rv_le | with_reducible exact rv_gt | with_reducible exact rv_ge
  | with_reducible exact rv_inC | with_reducible exact rv_notInC | with_reducible exact rv_isB
  | (with_reducible apply rv_mul
     walk_at "side")
  | (with_reducible apply rv_mod
     walk_at "side")
  | (with_reducible apply rv_div
     walk_at "div")
  | (with_reducible apply rv_pow
     walk_at "pow")
  | (with_reducible apply rv_eq
     exact rfl)
  | (with_reducible apply rv_ne
     exact rfl)
  | (with_reducible apply rv_ixL
     · walk_at "idx"
     · exact rfl)
  | (with_reducible apply rv_ixT
     · walk_at "idx"
     · exact rfl)
  | (with_reducible apply rv_ixS
     · walk_at "side"
     · exact rfl)
  | (with_reducible apply rv_addS
     walk_at "side"))
local macro_rules | `(tactic| walk_at "val") => `(tactic| first
  | with_reducible exact val_c | exact val_c
  | (with_reducible apply val_var
     exact rfl)
  | (with_reducible apply val_bin
     · walk_at "val"
     · walk_at "val"
     · walk_at "rv")
  | (with_reducible apply val_int1
     walk_at "val")
  | (with_reducible apply val_max2
     · walk_at "val"
     · walk_at "val")
  | (with_reducible apply val_min2
     · walk_at "val"
     · walk_at "val")
  | (with_reducible apply val_endsw
     · walk_at "val"
     · walk_at "val")
  | (with_reducible apply val_lenS
     · walk_at "val"
     · walk_at "side")
  | (with_reducible apply val_lenL
     · walk_at "val"
     · walk_at "idx")
  | (with_reducible apply val_lenT
     · walk_at "val"
     · walk_at "idx")
  | (with_reducible apply val_notV
     walk_at "val"))
local macro_rules | `(tactic| walk_at "ans") => `(tactic| first
  | (with_reducible apply ans_T
     walk_at "val")
  | (with_reducible apply ans_B
     walk_at "val")
  | (with_reducible apply ans_not
     walk_at "ans"))
local macro_rules | `(tactic| walk_at "ifp") => `(tactic| first
  | (with_reducible refine Eq.mpr (if_pos ?_) ?_
     · decide +kernel)
  | (with_reducible refine Eq.mpr (if_neg ?_) ?_
     · decide +kernel))
local macro_rules | `(tactic| walk_at "k") => `(tactic| first
  | with_reducible apply k_seq | with_reducible apply k_asg | with_reducible apply k_ret | with_reducible apply k_ifS | with_reducible apply k_drop | with_reducible apply k_name
  | (with_reducible apply k_var
     · exact rfl)
  | with_reducible apply k_c
  | with_reducible apply k_op | with_reducible apply k_cb | with_reducible apply k_call | with_reducible apply k_cons | with_reducible apply k_nil | with_reducible apply k_tup | with_reducible apply k_lst
  | with_reducible apply k_ifE | with_reducible apply k_test | with_reducible apply k_tb | with_reducible apply k_not | with_reducible apply k_and | with_reducible apply k_or | with_reducible apply k_bl
  | with_reducible apply k_sl | with_reducible apply k_part | with_reducible apply k_isI | with_reducible apply k_nopart
  | with_reducible apply k_lcZS | with_reducible apply k_onZS | with_reducible apply k_un | with_reducible apply k_neg
  | with_reducible apply k_lcS | with_reducible apply k_lcR | with_reducible apply k_lcL | with_reducible apply k_lcT | with_reducible apply k_forS | with_reducible apply k_forR | with_reducible apply k_forL | with_reducible apply k_forT | with_reducible apply k_onS | with_reducible apply k_yes
  | (with_reducible apply k_augC
     · exact rfl)
  | with_reducible apply k_next | with_reducible apply k_eqInt | with_reducible apply k_neInt | with_reducible apply k_eqStr | with_reducible apply k_neStr
  | with_reducible apply k_andV | with_reducible apply k_orV | with_reducible apply k_notV
  | with_reducible apply k_m1 | with_reducible apply k_onStr | with_reducible apply k_endsw
  | (with_reducible apply k_slS
     · walk_at "side")
  | (with_reducible apply k_newT
     · walk_at "len")
  | (with_reducible apply k_newL
     · walk_at "len")
  | with_reducible apply k_int1 | with_reducible apply k_max2 | with_reducible apply k_min2
  | (with_reducible apply k_lenS
     · walk_at "side")
  | (with_reducible apply k_lenL
     · walk_at "idx")
  | (with_reducible apply k_lenT
     · walk_at "idx")
  | (with_reducible apply k_rv
     · walk_at "rv")
  | walk_at "ifp")
local macro_rules | `(tactic| walk_at "kk") => `(tactic| (repeat (walk_at "k")))
local macro_rules | `(tactic| walk_at "len") => `(tactic| first | exact (by decide : (1:Nat) ≤ 100000) | exact (by decide : (2:Nat) ≤ 100000) | exact (by decide : (3:Nat) ≤ 100000) | exact (by decide : (4:Nat) ≤ 100000) | exact (by decide : (7:Nat) ≤ 100000) | (simp only [List.length_cons, List.length_nil]; omega) | omega)
local macro_rules | `(tactic| walk_at "up") => `(tactic| first
  | assumption
  | (refine Dq.up ?_ (Gr.new (by assumption))
     walk_at "up")
  | (refine Dq.up ?_ (by assumption)
     walk_at "up"))

section
variable {P : Program} {w : World} {K : PySem.W.Frag} {mg : Str → Option Value} {base : Heap}
/-! ### the law's draws -/
def Pu (H : Hp) (p : Addr) (n : Nat) : Prop := ∃ a b k : Int, H p = some (.lst [.int a, .int b, .int k]) ∧ 0 ≤ a ∧ 0 ≤ b ∧ b < 2147483648 ∧ 0 ≤ k ∧ k ≤ n
def spMixed : Sp := fun vs H Q _ => ∃ c k : Int, vs = [.int c, .int k] ∧ 0 ≤ c ∧ c < 2147483648 ∧ 0 ≤ k ∧ k < 2 ^ 41 ∧ ∀ r : Int, 0 ≤ r → Q (.int r) H
theorem ok_law_mixed (T : Txt K mg) : FnOk P w K mg base CX0 1 T.a_law_mixed T.fd_law_mixed ["cell", "k"] spMixed := by
  refine T.F_law_mixed.ok sc_law_mixed (fun vs H Q E h => ?_) (fun cdv A outer s H vs Q E hr h => ?_)
  · obtain ⟨c, k, rfl, _⟩ := h
    rfl
  · obtain ⟨c, k, rfl, h1, h2, h3, h4, q⟩ := h
    refine ⟨_, (pss_cons (ps_set (i := 2) sc_law_mixed.nd rfl (Or.inl rfl) (pe_op op_modA (pe_callTy call_intA (by rfl) T.z_int B_int (pa_cons (pe_op (addK K) (pe_op (addK K) (pe_op (addK K) (pe_op op_mulI (pv 0) pe_int) (pe_op op_mulI (pe_op op_mulI pe_int (pv 1)) (pv 1))) (pe_op op_mulI pe_int (pv 1))) pe_int) pa_nil)) pe_int))
      (pss_one (ps_ret (pe_op op_divA (pe_op op_modA (pe_callTy call_intA (by rfl) T.z_int B_int (pa_cons (pe_op (addK K) (pe_op (addK K) (pe_op op_mulI (pv 2) (pv 2)) (pe_op op_mulI pe_int (pv 2))) pe_int) pa_nil)) pe_int) pe_int)))), ?_⟩
    apply q_set
    · walk_at "val"
    apply q_ret
    · walk_at "val"
    exact q _ (by omega)
def spDraw : Sp := fun vs H Q _ => ∃ (p : Addr) (m : Int) (n : Nat), vs = [.ref p, .int m] ∧ 0 < m ∧ m < 2 ^ 29 ∧ Pu H p n ∧ n < 2 ^ 40 ∧ ∀ (H' : Hp) (d : Int), Gr [p] H H' → Pu H' p (n + 1) → 0 ≤ d → d < m → Q (.int d) H'
theorem ok_law_draw (T : Txt K mg) : FnOk P w K mg base CX0 2 T.a_law_draw T.fd_law_draw ["purse", "out_of"] spDraw := by
  refine T.F_law_draw.ok sc_law_draw (fun vs H Q E h => ?_) (fun cdv A outer s H vs Q E hr h => ?_)
  · obtain ⟨p, m, n, rfl, _⟩ := h
    rfl
  · obtain ⟨p, m, n, rfl, h1, h2, ⟨a, b, k, hp, ha, hb, hb2, hk, hk2⟩, hn, q⟩ := h
    refine ⟨_, (pss_cons (ps_if (pt_cmpR op_gtA (pe_ix (ixK K) (pv 0) pe_int (fun _ _ => rfl)) pe_int (nomark _)) (pss_cons (ps_set (i := 2) sc_law_draw.nd rfl (Or.inl rfl) (pe_op op_modA (pe_callTy call_intA (by rfl) T.z_int B_int (pa_cons (pe_ix (ixK K) (pv 0) pe_int (fun _ _ => rfl)) pa_nil)) (pv 1)))
      (pss_cons (ps_asg (pe_op op_divA (pe_ix (ixK K) (pv 0) pe_int (fun _ _ => rfl)) (pv 1)) (pg_sub (pv 0) pe_int set_list))
      (pss_one (ps_ret (pv 2))))) pss_nil)
      (pss_cons (ps_asg (pe_op (addK K) (pe_ix (ixK K) (pv 0) pe_int (fun _ _ => rfl)) pe_int) (pg_sub (pv 0) pe_int set_list))
      (pss_one (ps_ret (pe_op op_modA (pe_callTy call_intA (by rfl) T.z_int B_int (pa_cons (pe_call (ok_law_mixed T) (hr.mono (by decide)) (by rfl) T.m_law_mixed T.F_law_mixed.kp T.b_law_mixed .nil pass0 (pa_cons (pe_ix (ixK K) (pv 0) pe_int (fun _ _ => rfl)) (pa_cons (pe_ix (ixK K) (pv 0) pe_int (fun _ _ => rfl)) pa_nil))) pa_nil)) (pv 1)))))), ?_⟩
    have hm : 0 ≤ a % m := Int.emod_nonneg _ (by omega)
    have hm2 : a % m < m := Int.emod_lt_of_pos _ h1
    apply q_when
    · walk_at "ans"
    · intro hb0
      apply q_set
      · walk_at "val"
      apply q_setL (j := 0)
      · apply val_bin
        · walk_at "val"
        · walk_at "val"
        · refine rv_div ?_
          exact wide_div h1 (b := 30) (by omega) (by decide) (by decide)
      · walk_at "val"
      · walk_at "val"
      · exact hp
      · exact (by decide : (0:Nat) < 3)
      apply q_ret
      · walk_at "val"
      refine q _ _ (Gr.mut (by simp)) ⟨a / m, b, k, upd_same, ?_, hb, hb2, hk, by omega⟩ hm hm2
      exact Int.ediv_nonneg ha (by omega)
    · intro hb0
      apply q_setL (j := 2)
      · walk_at "val"
      · walk_at "val"
      · walk_at "val"
      · exact hp
      · exact (by decide : (2:Nat) < 3)
      walk_at "kk"
      refine ⟨b, k + 1, rfl, hb, hb2, by omega, by omega, fun r hr0 => ?_⟩
      walk_at "kk"
      refine q _ _ (Gr.mut (by simp)) ⟨a, b, k + 1, upd_same, ha, hb, hb2, by omega, by omega⟩ (Int.emod_nonneg _ (by omega)) (Int.emod_lt_of_pos _ h1)
def spPurse (K : PySem.W.Frag) : Sp := fun vs H Q _ => ∃ (p : Addr) (ns : List Int) (j : Nat), vs = [.ref p, .int j] ∧ SqL K H p (ns.map V.int) ∧ ns.length ≤ 63 ∧ j ≤ 63 ∧ ∀ (H' : Hp) (u : Addr), Same H H' → H u = none → Pu H' u (1000 * j) → Q (.ref u) H'
theorem ok_law_purse (T : Txt K mg) : FnOk P w K mg base CX0 1 T.a_law_purse T.fd_law_purse ["cells", "at"] (spPurse K) := by
  refine T.F_law_purse.ok sc_law_purse (fun vs H Q E h => ?_) (fun cdv A outer s H vs Q E hr h => ?_)
  · obtain ⟨p, ns, j, rfl, _⟩ := h
    rfl
  · obtain ⟨p, ns, j, rfl, hs, hl, hj, q⟩ := h
    refine ⟨_, (pss_cons (ps_set (i := 2) sc_law_purse.nd rfl (Or.inl rfl) pe_int)
      (pss_cons (ps_if (pt_cmpR op_ltA (pv 1) (pe_callB (lenK K) (by rfl) T.z_len B_len (pa_cons (pv 0) pa_nil)) (nomark _)) (pss_one (ps_set (i := 2) sc_law_purse.nd rfl (Or.inl rfl) (pe_ix (ixK K) (pv 0) (pv 1) (fun _ _ => rfl)))) pss_nil)
      (pss_one (ps_ret (pe_lst (pa_cons (pe_op op_modA (pe_callTy call_intA (by rfl) T.z_int B_int (pa_cons (pe_callB (call_maxA rfl) (by rfl) T.z_max B_max (pa_cons (pe_op op_subA (pv 2) (pe_op op_powA pe_int pe_int)) (pa_cons pe_int pa_nil))) pa_nil)) (pe_op op_powA (pe_op op_powA pe_int pe_int) pe_int)) (pa_cons (pe_op op_modA (pe_callTy call_intA (by rfl) T.z_int B_int (pa_cons (pv 2) pa_nil)) pe_int) (pa_cons (pe_op op_mulI pe_int (pv 1)) pa_nil)))))))), ?_⟩
    walk_at "kk"
    refine k_ite (fun hb => ?_) (fun hb => ?_)
    · have hb' : j < ns.length := by
        have := of_decide_eq_true hb
        rw [List.length_map] at this
        omega
      walk_at "kk"
      apply k_rv
      · exact rv_ixL hs (atI_nat (j := j) (by rw [List.getElem?_map, List.getElem?_eq_getElem hb']; rfl))
      walk_at "kk"
      intro u hu
      exact q _ _ (fun b o e => by rw [upd_ne (ne_of_none e hu)]; exact e) hu ⟨_, _, _, upd_same, Int.emod_nonneg _ (by decide +kernel), by omega, by omega, by omega, by omega⟩
    · have hb' : ¬ j < ns.length := by
        have := of_decide_eq_false hb
        rw [List.length_map] at this
        omega
      walk_at "kk"
      intro u hu
      exact q _ _ (fun b o e => by rw [upd_ne (ne_of_none e hu)]; exact e) hu ⟨_, _, _, upd_same, Int.emod_nonneg _ (by decide +kernel), by omega, by omega, by omega, by omega⟩
end
end K02


set_option Elab.async false
set_option linter.all false
set_option maxRecDepth 100000
set_option maxHeartbeats 4000000
namespace K02
open PySem PySem.Spec PyProof.Rows L2 TL
/-! ### short words -/
local macro_rules | `(tactic| walk_at "idx") => `(tactic| first | assumption | exact Evl.sq_of (by assumption) | exact Evl.st_of (by assumption) | exact Evl.sq_of upd_same | exact Evl.st_of upd_same)
local macro_rules | `(tactic| walk_at "side") => `(tactic| first | omega | exact Or.inl ⟨by omega, by omega⟩ | exact Or.inr ⟨by omega, by omega⟩ | exact ⟨by omega, by omega⟩ | decide +kernel)
local macro_rules | `(tactic| walk_at "div") => `(tactic| exact wide_div (b := 30) (by omega) (by omega) (by decide) (by decide))
local macro_rules | `(tactic| walk_at "pow") => `(tactic| exact ⟨by decide +kernel, by decide +kernel, by decide +kernel⟩)
local macro_rules | `(tactic| walk_at "rv") => `(tactic| first
  | with_reducible exact rv_addI | with_reducible exact rv_sub | with_reducible exact rv_lt | with_reducible exact rv_le | with_reducible exact rv_gt | with_reducible exact rv_ge
  | with_reducible exact rv_inC | with_reducible exact rv_notInC | with_reducible exact rv_isB
  | (with_reducible apply rv_mul
     walk_at "side")
  | (with_reducible apply rv_mod
     walk_at "side")
  | (with_reducible apply rv_div
     walk_at "div")
  | (with_reducible apply rv_pow
     walk_at "pow")
  | (with_reducible apply rv_eq
     exact rfl)
  | (with_reducible apply rv_ne
     exact rfl)
  | (with_reducible apply rv_ixL
     · walk_at "idx"
     · exact rfl)
  | (with_reducible apply rv_ixT
     · walk_at "idx"
     · exact rfl)
  | (with_reducible apply rv_ixS
     · walk_at "side"
     · exact rfl)
  | (with_reducible apply rv_addS
     walk_at "side"))
local macro_rules | `(tactic| walk_at "val") => `(tactic| first
  | with_reducible exact val_c | exact val_c
  | (with_reducible apply val_var
     exact rfl)
  | (with_reducible apply val_bin
     · walk_at "val"
     · walk_at "val"
     · walk_at "rv")
  | (with_reducible apply val_int1
     walk_at "val")
  | (with_reducible apply val_max2
     · walk_at "val"
     · walk_at "val")
  | (with_reducible apply val_min2
     · walk_at "val"
     · walk_at "val")
  | (with_reducible apply val_endsw
     · walk_at "val"
     · walk_at "val")
  | (with_reducible apply val_lenS
     · walk_at "val"
     · walk_at "side")
  | (with_reducible apply val_lenL
     · walk_at "val"
     · walk_at "idx")
  | (with_reducible apply val_lenT
     · walk_at "val"
     · walk_at "idx")
  | (with_reducible apply val_notV
     walk_at "val"))
local macro_rules | `(tactic| walk_at "ans") => `(tactic| first
  | (with_reducible apply ans_T
     walk_at "val")
  | (with_reducible apply ans_B
     walk_at "val")
  | (with_reducible apply ans_not
     walk_at "ans"))
local macro_rules | `(tactic| walk_at "ifp") => `(tactic| first
  | (with_reducible refine Eq.mpr (if_pos ?_) ?_
     · decide +kernel)
  | (with_reducible refine Eq.mpr (if_neg ?_) ?_
     · decide +kernel))
local macro_rules | `(tactic| walk_at "k") => `(tactic| first
  | with_reducible apply k_seq | with_reducible apply k_asg | with_reducible apply k_ret | with_reducible apply k_ifS | with_reducible apply k_drop | with_reducible apply k_name
  | (with_reducible apply k_var
     · exact rfl)
  | with_reducible apply k_c
  | with_reducible apply k_op | with_reducible apply k_cb | with_reducible apply k_call | with_reducible apply k_cons | with_reducible apply k_nil | with_reducible apply k_tup | with_reducible apply k_lst
  | with_reducible apply k_ifE | with_reducible apply k_test | with_reducible apply k_tb | with_reducible apply k_not | with_reducible apply k_and | with_reducible apply k_or | with_reducible apply k_bl
  | with_reducible apply k_sl | with_reducible apply k_part | with_reducible apply k_isI | with_reducible apply k_nopart
  | with_reducible apply k_lcZS | with_reducible apply k_onZS | with_reducible apply k_un | with_reducible apply k_neg
  | with_reducible apply k_lcS | with_reducible apply k_lcR | with_reducible apply k_lcL | with_reducible apply k_lcT | with_reducible apply k_forS | with_reducible apply k_forR | with_reducible apply k_forL | with_reducible apply k_forT | with_reducible apply k_onS | with_reducible apply k_yes
  | (with_reducible apply k_augC
     · exact rfl)
  | with_reducible apply k_next | with_reducible apply k_eqInt | with_reducible apply k_neInt | with_reducible apply k_eqStr | with_reducible apply k_neStr
  | with_reducible apply k_andV | with_reducible apply k_orV | with_reducible apply k_notV
  | with_reducible apply k_m1 | with_reducible apply k_onStr | with_reducible apply k_endsw
  | (with_reducible apply k_slS
     · walk_at "side")
  | (with_reducible apply k_newT
     · walk_at "len")
  | (with_reducible apply k_newL
     · walk_at "len")
  | with_reducible apply k_int1 | with_reducible apply k_max2 | with_reducible apply k_min2
  | (with_reducible apply k_lenS
     · walk_at "side")
  | (with_reducible apply k_lenL
     · walk_at "idx")
  | (with_reducible apply k_lenT
     · walk_at "idx")
  | (with_reducible apply k_rv
     · walk_at "rv")
  | walk_at "ifp")
local macro_rules | `(tactic| walk_at "kk") => `(tactic| (repeat (walk_at "k")))
local macro_rules | `(tactic| walk_at "len") => `(tactic| first | exact (by decide : (1:Nat) ≤ 100000) | exact (by decide : (2:Nat) ≤ 100000) | exact (by decide : (3:Nat) ≤ 100000) | exact (by decide : (4:Nat) ≤ 100000) | exact (by decide : (7:Nat) ≤ 100000) | (simp only [List.length_cons, List.length_nil]; omega) | omega)
local macro_rules | `(tactic| walk_at "up") => `(tactic| first
  | assumption
  | (refine Dq.up ?_ (Gr.new (by assumption))
     walk_at "up")
  | (refine Dq.up ?_ (by assumption)
     walk_at "up"))

section
variable {P : Program} {w : World} {K : PySem.W.Frag} {mg : Str → Option Value} {base : Heap}
theorem Pu.up {H H' : Hp} {p : Addr} {n m : Nat} (h : Pu H p n) (e : H' p = H p) (l : n ≤ m) : Pu H' p m := by
  obtain ⟨a, b, k, h1, h2, h3, h4, h5, h6⟩ := h
  exact ⟨a, b, k, e.trans h1, h2, h3, h4, h5, by omega⟩
theorem Pu.ne {H : Hp} {p q : Addr} {n : Nat} (h : Pu H p n) (hq : H q = none) : p ≠ q := by
  obtain ⟨a, b, k, h1, _⟩ := h
  exact ne_of_none h1 hq
theorem Pu.live {H : Hp} {p : Addr} {n : Nat} (h : Pu H p n) : Live [p] H := fun a ha => by
  obtain ⟨x, b, k, h1, _⟩ := h
  have e : a = p := by simpa using ha
  rw [e, h1]
  exact fun z => by cases z
/-- a text of the signs -/
def spText : Sp := fun vs H Q _ => ∃ (p : Addr) (z : Str) (lo hi : Int) (n : Nat), vs = [.ref p, .str z, .int lo, .int hi] ∧ 0 ≤ lo ∧ lo ≤ hi ∧ hi ≤ 1000 ∧ 0 < z.length ∧ z.length ≤ 100 ∧ Pu H p n ∧ n < 2 ^ 39 ∧
  ∀ (H' : Hp) (x : Str), Gr [p] H H' → Pu H' p (n + 1001) → (∀ c ∈ tl x, c ∈ tl z) → lo ≤ x.length → x.length ≤ hi → Q (.str x) H'
theorem ok_law_text (T : Txt K mg) : FnOk P w K mg base CX0 3 T.a_law_text T.fd_law_text ["purse", "signs", "least", "top"] spText := by
  refine T.F_law_text.ok sc_law_text (fun vs H Q E h => ?_) (fun cdv A outer s H vs Q E hr h => ?_)
  · obtain ⟨p, z, lo, hi, n, rfl, _⟩ := h
    rfl
  · obtain ⟨p, z, lo, hi, n, rfl, h1, h2, h3, h4, h4', hp, hn, q⟩ := h
    refine ⟨_, (pss_cons (ps_set (i := 4) sc_law_text.nd rfl (Or.inl rfl) (pe_op (addK K) (pv 2) (pe_call (ok_law_draw T) (hr.mono (by decide)) (by rfl) T.m_law_draw T.F_law_draw.kp T.b_law_draw .nil pass0 (pa_cons (pv 0) (pa_cons (pe_op op_subA (pe_op (addK K) pe_int (pv 3)) (pv 2)) pa_nil)))))
      (pss_one (ps_ret (joinK K pe_str (pe_lc (own := [("turn", 5)]) (by rfl) sc_law_text.nd (pi_range1 (by rfl) T.z_range (pa_cons (pv 4) pa_nil)) (blkOk_by (N := ["purse", "signs", "least", "top", "many", "turn"]) (sc := defScope s_law_text) (by decide +kernel)) (fun _ _ _ _ _ => (pg_name (i := 5) sc_law_text.nd rfl (Or.inl rfl))) (fun _ _ _ _ _ => pts_nil) (fun _ _ _ _ _ => (pe_ix (ixK K) (pv 1) (pe_call (ok_law_draw T) (hr.mono (by decide)) (by rfl) T.m_law_draw T.F_law_draw.kp T.b_law_draw .nil pass0 (pa_cons (pv 0) (pa_cons (pe_callB (lenK K) (by rfl) T.z_len B_len (pa_cons (pv 1) pa_nil)) pa_nil))) (fun _ _ => rfl)))))))), ?_⟩
    walk_at "kk"
    refine ⟨p, 1 + hi - lo, n, rfl, by omega, by omega, hp, by omega, fun H1 d g1 p1 d1 d2 => ?_⟩
    walk_at "kk"
    refine k_onR1 (by omega) (lc_go (walk_range (lo := 0) (n := (lo + d).toNat)) (fun D i H' => p ≠ D ∧ H D = none ∧ Gr [D, p] H H' ∧ Pu H' p (n + 1 + i) ∧ ∃ cs : List Nat, H' D = some (.lst ((singles cs).map V.str)) ∧ cs.length = i ∧ ∀ c ∈ cs, c ∈ tl z) (by intro _; rfl) (fun D hD => ?_) (fun _ _ _ _ _ => trivial) (fun D i x Ha Hb hi iv hy => ?_) (fun D H' iv => ?_))
    · have hpD := p1.ne hD
      exact ⟨hpD, g1.free hD (by simpa using hpD.symm), (g1.more (by simp)).trans (Gr.mut (by simp)), p1.up (upd_ne hpD) (by omega), [], upd_same, rfl, by simp⟩
    · obtain ⟨hpD, hD0, g2, p2, cs, e2, l2, m2⟩ := iv
      obtain ⟨rfl, rfl⟩ := hy
      walk_at "kk"
      refine ⟨p, z.length, n + 1 + i, rfl, by omega, by omega, p2, by omega, fun H3 d3 g3 p3 d31 d32 => ?_⟩
      have hc : d3.toNat < (tl z).length := by rw [← len_tl]; omega
      dsimp only
      apply k_rv
      · exact rv_ixS (c := (tl z)[d3.toNat]) (by omega) (at_int (by omega) (List.getElem?_eq_getElem hc))
      have e3 : H3 D = some (.lst ((singles cs).map V.str)) := g3 D _ (by simpa using hpD.symm) e2
      refine k_add e3 (by rw [List.length_map, singles_len]; omega) ⟨hpD, hD0, (g2.trans (g3.more (by simp))).trans (Gr.mut (by simp)), p3.up (upd_ne hpD) (by omega), cs ++ [(tl z)[d3.toNat]], ?_, by simp [l2], fun c hc' => ?_⟩
      · rw [upd_same]; simp [singles]
      · rcases List.mem_append.mp hc' with h | h
        · exact m2 c h
        · rw [List.mem_singleton.mp h]; exact List.getElem_mem hc
    · obtain ⟨hpD, hD0, g2, p2, cs, e2, l2, m2⟩ := iv
      refine k_joinL (Evl.sq_of e2) (join_cost cs (by omega)) ?_
      rw [join_singles]
      refine q _ _ (g2.less hD0) (p2.up rfl (by omega)) (by rw [tl_mk']; exact m2) ?_ ?_
      · rw [len_mk]; omega
      · rw [len_mk]; omega
end
end K02
set_option Elab.async false
set_option linter.all false
set_option maxRecDepth 100000
set_option maxHeartbeats 4000000
namespace K02
open PySem PySem.Spec PyProof.Rows L2 TL
/-! ### short words -/
local macro_rules | `(tactic| walk_at "idx") => `(tactic| first | assumption | exact Evl.sq_of (by assumption) | exact Evl.st_of (by assumption) | exact Evl.sq_of upd_same | exact Evl.st_of upd_same)
local macro_rules | `(tactic| walk_at "side") => `(tactic| first | omega | exact Or.inl ⟨by omega, by omega⟩ | exact Or.inr ⟨by omega, by omega⟩ | exact ⟨by omega, by omega⟩ | decide +kernel)
local macro_rules | `(tactic| walk_at "div") => `(tactic| exact wide_div (b := 30) (by omega) (by omega) (by decide) (by decide))
local macro_rules | `(tactic| walk_at "pow") => `(tactic| exact ⟨by decide +kernel, by decide +kernel, by decide +kernel⟩)
local macro_rules | `(tactic| walk_at "rv") => `(tactic| first
  | with_reducible exact rv_addI | with_reducible exact rv_sub | with_reducible exact rv_lt | with_reducible exact rv_le | with_reducible exact rv_gt | with_reducible exact rv_ge
  | with_reducible exact rv_inC | with_reducible exact rv_notInC | with_reducible exact rv_isB
  | (with_reducible apply rv_mul
     walk_at "side")
  | (with_reducible apply rv_mod
     walk_at "side")
  | (with_reducible apply rv_div
     walk_at "div")
  | (with_reducible apply rv_pow
     walk_at "pow")
  | (with_reducible apply rv_eq
     exact rfl)
  | (with_reducible apply rv_ne
     exact rfl)
  | (with_reducible apply rv_ixL
     · walk_at "idx"
     · exact rfl)
  | (with_reducible apply rv_ixT
     · walk_at "idx"
     · exact rfl)
  | (with_reducible apply rv_ixS
     · walk_at "side"
     · exact rfl)
  | (with_reducible apply rv_addS
     walk_at "side"))
local macro_rules | `(tactic| walk_at "val") => `(tactic| first
  | with_reducible exact val_c | exact val_c
  | (with_reducible apply val_var
     exact rfl)
  | (with_reducible apply val_bin
     · walk_at "val"
     · walk_at "val"
     · walk_at "rv")
  | (with_reducible apply val_int1
     walk_at "val")
  | (with_reducible apply val_max2
     · walk_at "val"
     · walk_at "val")
  | (with_reducible apply val_min2
     · walk_at "val"
     · walk_at "val")
  | (with_reducible apply val_endsw
     · walk_at "val"
     · walk_at "val")
  | (with_reducible apply val_lenS
     · walk_at "val"
     · walk_at "side")
  | (with_reducible apply val_lenL
     · walk_at "val"
     · walk_at "idx")
  | (with_reducible apply val_lenT
     · walk_at "val"
     · walk_at "idx")
  | (with_reducible apply val_notV
     walk_at "val"))
local macro_rules | `(tactic| walk_at "ans") => `(tactic| first
  | (with_reducible apply ans_T
     walk_at "val")
  | (with_reducible apply ans_B
     walk_at "val")
  | (with_reducible apply ans_not
     walk_at "ans"))
local macro_rules | `(tactic| walk_at "ifp") => `(tactic| first
  | (with_reducible refine Eq.mpr (if_pos ?_) ?_
     · decide +kernel)
  | (with_reducible refine Eq.mpr (if_neg ?_) ?_
     · decide +kernel))
local macro_rules | `(tactic| walk_at "k") => `(tactic| first
  | with_reducible apply k_seq | with_reducible apply k_asg | with_reducible apply k_ret | with_reducible apply k_ifS | with_reducible apply k_drop | with_reducible apply k_name
  | (with_reducible apply k_var
     · exact rfl)
  | with_reducible apply k_c
  | with_reducible apply k_op | with_reducible apply k_cb | with_reducible apply k_call | with_reducible apply k_cons | with_reducible apply k_nil | with_reducible apply k_tup | with_reducible apply k_lst
  | with_reducible apply k_ifE | with_reducible apply k_test | with_reducible apply k_tb | with_reducible apply k_not | with_reducible apply k_and | with_reducible apply k_or | with_reducible apply k_bl
  | with_reducible apply k_sl | with_reducible apply k_part | with_reducible apply k_isI | with_reducible apply k_nopart
  | with_reducible apply k_lcZS | with_reducible apply k_onZS | with_reducible apply k_un | with_reducible apply k_neg
  | with_reducible apply k_lcS | with_reducible apply k_lcR | with_reducible apply k_lcL | with_reducible apply k_lcT | with_reducible apply k_forS | with_reducible apply k_forR | with_reducible apply k_forL | with_reducible apply k_forT | with_reducible apply k_onS | with_reducible apply k_yes
  | (with_reducible apply k_augC
     · exact rfl)
  | with_reducible apply k_next | with_reducible apply k_eqInt | with_reducible apply k_neInt | with_reducible apply k_eqStr | with_reducible apply k_neStr
  | with_reducible apply k_andV | with_reducible apply k_orV | with_reducible apply k_notV
  | with_reducible apply k_m1 | with_reducible apply k_onStr | with_reducible apply k_endsw
  | (with_reducible apply k_slS
     · walk_at "side")
  | (with_reducible apply k_newT
     · walk_at "len")
  | (with_reducible apply k_newL
     · walk_at "len")
  | with_reducible apply k_int1 | with_reducible apply k_max2 | with_reducible apply k_min2
  | (with_reducible apply k_lenS
     · walk_at "side")
  | (with_reducible apply k_lenL
     · walk_at "idx")
  | (with_reducible apply k_lenT
     · walk_at "idx")
  | (with_reducible apply k_rv
     · walk_at "rv")
  | walk_at "ifp")
local macro_rules | `(tactic| walk_at "kk") => `(tactic| (repeat (walk_at "k")))
local macro_rules | `(tactic| walk_at "len") => `(tactic| first | exact (by decide : (1:Nat) ≤ 100000) | exact (by decide : (2:Nat) ≤ 100000) | exact (by decide : (3:Nat) ≤ 100000) | exact (by decide : (4:Nat) ≤ 100000) | exact (by decide : (7:Nat) ≤ 100000) | (simp only [List.length_cons, List.length_nil]; omega) | omega)
local macro_rules | `(tactic| walk_at "up") => `(tactic| first
  | assumption
  | (refine Dq.up ?_ (Gr.new (by assumption))
     walk_at "up")
  | (refine Dq.up ?_ (by assumption)
     walk_at "up"))

section
variable {P : Program} {w : World} {K : PySem.W.Frag} {mg : Str → Option Value} {base : Heap}
def spLetters : Sp := fun vs H Q _ => ∃ (p : Addr) (n : Nat), vs = [.ref p] ∧ Pu H p n ∧ n < 2 ^ 38 ∧
  ∀ (H' : Hp) (t : Addr) (s v : Str), Gr [p] H H' → Pu H' p (n + 10) → t ≠ p → H' t = some (.tup [.str s, .str v]) → s ∈ menu → (tl v).Sublist (tl s) → Q (.ref t) H'
theorem ok_law_letters (T : Txt K mg) : FnOk P w K mg base CX0 3 T.a_law_letters T.fd_law_letters ["purse"] spLetters := by
  refine T.F_law_letters.ok sc_law_letters (fun vs H Q E h => ?_) (fun cdv A outer s H vs Q E hr h => ?_)
  · obtain ⟨p, n, rfl, _⟩ := h
    rfl
  · obtain ⟨p, n, rfl, hp, hn, q⟩ := h
    refine ⟨_, (pss_cons (ps_set (i := 1) sc_law_letters.nd rfl (Or.inl rfl) (pe_ix (ixK K) (pe_lst (pa_cons pe_str (pa_cons pe_str (pa_cons pe_str (pa_cons pe_str (pa_cons pe_str (pa_cons pe_str (pa_cons pe_str pa_nil)))))))) (pe_call (ok_law_draw T) (hr.mono (by decide)) (by rfl) T.m_law_draw T.F_law_draw.kp T.b_law_draw .nil pass0 (pa_cons (pv 0) (pa_cons pe_int pa_nil))) (fun _ _ => rfl)))
      (pss_one (ps_ret (pe_tup (pa_cons (pv 1) (pa_cons (joinK K pe_str (pe_lc (own := [("one", 2)]) (by rfl) sc_law_letters.nd (pi_str (pv 1)) (blkOk_by (N := ["purse", "signs", "one"]) (sc := defScope s_law_letters) (by decide +kernel)) (fun _ _ _ _ _ => (pg_name (i := 2) sc_law_letters.nd rfl (Or.inl rfl))) (fun _ _ _ _ _ => (pts_one (pt_cmpR (eqK K hr) (pe_call (ok_law_draw T) (hr.mono (by decide)) (by rfl) T.m_law_draw T.F_law_draw.kp T.b_law_draw .nil pass0 (pa_cons (pv 0) (pa_cons pe_int pa_nil))) pe_int (nomark _)))) (fun _ _ _ _ _ => (pv 2)))) pa_nil)))))), ?_⟩
    walk_at "kk"
    intro l hl
    have hpl := hp.ne hl
    walk_at "kk"
    refine ⟨p, 7, n, rfl, by omega, by omega, hp.up (upd_ne hpl) (Nat.le_refl _), by omega, fun H1 d g1 p1 d1 d2 => ?_⟩
    walk_at "kk"
    obtain ⟨s, hs, es⟩ := menu_at d1 d2
    have hsl := menu_len s hs
    dsimp only
    apply k_rv
    · exact rv_ixL (Evl.sq_of (g1 l _ (by simpa using hpl.symm) upd_same)) (at_int d1 es)
    walk_at "kk"
    have g1' : Gr [p] H H1 := (Gr.new hl).trans g1

    refine lc_go (walk_str (z := s)) (fun D i H' => p ≠ D ∧ H D = none ∧ Gr [D, p] H H' ∧ Pu H' p (n + 1 + i) ∧ ∃ cs : List Nat, H' D = some (.lst ((singles cs).map V.str)) ∧ cs.Sublist ((tl s).take i)) (by intro _; rfl) (fun D hD => ?_) (fun _ _ _ _ _ => trivial) (fun D i x Ha Hb hi iv hy => ?_) (fun D H' iv => ?_)
    · have hpD := p1.ne hD
      exact ⟨hpD, g1'.free hD (by simpa using hpD.symm), (g1'.more (by simp)).trans (Gr.mut (by simp)), p1.up (upd_ne hpD) (by omega), [], upd_same, by simp⟩
    · obtain ⟨hpD, hD0, g2, p2, cs, e2, m2⟩ := iv
      obtain ⟨rfl, c, hc, rfl⟩ := hy
      have hc' : (tl s)[i]? = some c := by simpa [tl] using hc
      have hi4 : i < 4 := by
        have h5 := hsl.2
        simp [Str.length] at h5
        omega
      walk_at "kk"
      refine ⟨p, 2, n + 1 + i, rfl, by omega, by omega, p2, by omega, fun H3 d3 g3 p3 d31 d32 => ?_⟩
      have e3 : H3 D = some (.lst ((singles cs).map V.str)) := g3 D _ (by simpa using hpD.symm) e2
      have ht : (tl s).take (i + 1) = (tl s).take i ++ [c] := by rw [List.take_add_one, hc']; rfl
      walk_at "kk"
      refine k_ite (fun hb => ?_) (fun hb => ?_)
      · walk_at "kk"
        have hcl : cs.length ≤ 4 := by
          have := m2.length_le
          have h5 := hsl.2
          rw [len_tl] at h5
          rw [List.length_take] at this
          omega
        refine k_add e3 (by rw [List.length_map, singles_len]; omega) ⟨hpD, hD0, (g2.trans (g3.more (by simp))).trans (Gr.mut (by simp)), p3.up (upd_ne hpD) (by omega), cs ++ [c], ?_, ?_⟩
        · rw [upd_same]; simp [singles]
        · rw [ht]; exact m2.append (List.Sublist.refl _)
      · exact ⟨hpD, hD0, g2.trans (g3.more (by simp)), p3.up rfl (by omega), cs, e3, by rw [ht]; exact m2.trans (List.sublist_append_left _ _)⟩
    · obtain ⟨hpD, hD0, g2, p2, cs, e2, m2⟩ := iv
      have h5 := hsl.2
      have m3 : cs.Sublist (tl s) := m2.trans (List.take_sublist _ _)
      have hcl := m3.length_le
      rw [len_tl] at h5
      refine k_joinL (Evl.sq_of e2) (join_cost cs (by omega)) ?_
      rw [join_singles]
      walk_at "kk"
      intro t ht
      have hpt := p2.ne ht
      exact q _ t s (mk cs) ((g2.less hD0).trans (Gr.new ht)) (p2.up (upd_ne hpt) (by simp [tl] at h5; omega)) hpt.symm upd_same hs (by rw [tl_mk']; exact m3)
end
end K02
set_option Elab.async false
set_option linter.all false
set_option maxRecDepth 100000
set_option maxHeartbeats 4000000
namespace K02
open PySem PySem.Spec PyProof.Rows L2 TL Mi
/-! ### short words -/
local macro_rules | `(tactic| walk_at "idx") => `(tactic| first | assumption | exact Evl.sq_of (by assumption) | exact Evl.st_of (by assumption) | exact Evl.sq_of upd_same | exact Evl.st_of upd_same)
local macro_rules | `(tactic| walk_at "side") => `(tactic| first | omega | exact Or.inl ⟨by omega, by omega⟩ | exact Or.inr ⟨by omega, by omega⟩ | exact ⟨by omega, by omega⟩ | decide +kernel)
local macro_rules | `(tactic| walk_at "div") => `(tactic| exact wide_div (b := 30) (by omega) (by omega) (by decide) (by decide))
local macro_rules | `(tactic| walk_at "pow") => `(tactic| exact ⟨by decide +kernel, by decide +kernel, by decide +kernel⟩)
local macro_rules | `(tactic| walk_at "rv") => `(tactic| first
  | with_reducible exact rv_addI | with_reducible exact rv_sub | with_reducible exact rv_lt | with_reducible exact rv_le | with_reducible exact rv_gt | with_reducible exact rv_ge
  | with_reducible exact rv_inC | with_reducible exact rv_notInC | with_reducible exact rv_isB
  | (with_reducible apply rv_mul
     walk_at "side")
  | (with_reducible apply rv_mod
     walk_at "side")
  | (with_reducible apply rv_div
     walk_at "div")
  | (with_reducible apply rv_pow
     walk_at "pow")
  | (with_reducible apply rv_eq
     exact rfl)
  | (with_reducible apply rv_ne
     exact rfl)
  | (with_reducible apply rv_ixL
     · walk_at "idx"
     · exact rfl)
  | (with_reducible apply rv_ixT
     · walk_at "idx"
     · exact rfl)
  | (with_reducible apply rv_ixS
     · walk_at "side"
     · exact rfl)
  | (with_reducible apply rv_addS
     walk_at "side"))
local macro_rules | `(tactic| walk_at "val") => `(tactic| first
  | with_reducible exact val_c | exact val_c
  | (with_reducible apply val_var
     exact rfl)
  | (with_reducible apply val_bin
     · walk_at "val"
     · walk_at "val"
     · walk_at "rv")
  | (with_reducible apply val_int1
     walk_at "val")
  | (with_reducible apply val_max2
     · walk_at "val"
     · walk_at "val")
  | (with_reducible apply val_min2
     · walk_at "val"
     · walk_at "val")
  | (with_reducible apply val_endsw
     · walk_at "val"
     · walk_at "val")
  | (with_reducible apply val_lenS
     · walk_at "val"
     · walk_at "side")
  | (with_reducible apply val_lenL
     · walk_at "val"
     · walk_at "idx")
  | (with_reducible apply val_lenT
     · walk_at "val"
     · walk_at "idx")
  | (with_reducible apply val_notV
     walk_at "val"))
local macro_rules | `(tactic| walk_at "ans") => `(tactic| first
  | (with_reducible apply ans_T
     walk_at "val")
  | (with_reducible apply ans_B
     walk_at "val")
  | (with_reducible apply ans_not
     walk_at "ans"))
local macro_rules | `(tactic| walk_at "ifp") => `(tactic| first
  | (with_reducible refine Eq.mpr (if_pos ?_) ?_
     · decide +kernel)
  | (with_reducible refine Eq.mpr (if_neg ?_) ?_
     · decide +kernel))
local macro_rules | `(tactic| walk_at "k") => `(tactic| first
  | with_reducible apply k_seq | with_reducible apply k_asg | with_reducible apply k_ret | with_reducible apply k_ifS | with_reducible apply k_drop | with_reducible apply k_name
  | (with_reducible apply k_var
     · exact rfl)
  | with_reducible apply k_c
  | with_reducible apply k_op | with_reducible apply k_cb | with_reducible apply k_call | with_reducible apply k_cons | with_reducible apply k_nil | with_reducible apply k_tup | with_reducible apply k_lst
  | with_reducible apply k_ifE | with_reducible apply k_test | with_reducible apply k_tb | with_reducible apply k_not | with_reducible apply k_and | with_reducible apply k_or | with_reducible apply k_bl
  | with_reducible apply k_sl | with_reducible apply k_part | with_reducible apply k_isI | with_reducible apply k_nopart
  | with_reducible apply k_lcZS | with_reducible apply k_onZS | with_reducible apply k_un | with_reducible apply k_neg
  | with_reducible apply k_lcS | with_reducible apply k_lcR | with_reducible apply k_lcL | with_reducible apply k_lcT | with_reducible apply k_forS | with_reducible apply k_forR | with_reducible apply k_forL | with_reducible apply k_forT | with_reducible apply k_onS | with_reducible apply k_yes
  | (with_reducible apply k_augC
     · exact rfl)
  | with_reducible apply k_next | with_reducible apply k_eqInt | with_reducible apply k_neInt | with_reducible apply k_eqStr | with_reducible apply k_neStr
  | with_reducible apply k_andV | with_reducible apply k_orV | with_reducible apply k_notV
  | with_reducible apply k_m1 | with_reducible apply k_onStr | with_reducible apply k_endsw
  | (with_reducible apply k_slS
     · walk_at "side")
  | (with_reducible apply k_newT
     · walk_at "len")
  | (with_reducible apply k_newL
     · walk_at "len")
  | with_reducible apply k_int1 | with_reducible apply k_max2 | with_reducible apply k_min2
  | (with_reducible apply k_lenS
     · walk_at "side")
  | (with_reducible apply k_lenL
     · walk_at "idx")
  | (with_reducible apply k_lenT
     · walk_at "idx")
  | (with_reducible apply k_rv
     · walk_at "rv")
  | walk_at "ifp")
local macro_rules | `(tactic| walk_at "kk") => `(tactic| (repeat (walk_at "k")))
local macro_rules | `(tactic| walk_at "len") => `(tactic| first | exact (by decide : (1:Nat) ≤ 100000) | exact (by decide : (2:Nat) ≤ 100000) | exact (by decide : (3:Nat) ≤ 100000) | exact (by decide : (4:Nat) ≤ 100000) | exact (by decide : (7:Nat) ≤ 100000) | (simp only [List.length_cons, List.length_nil]; omega) | omega)
local macro_rules | `(tactic| walk_at "up") => `(tactic| first
  | assumption
  | (refine Dq.up ?_ (Gr.new (by assumption))
     walk_at "up")
  | (refine Dq.up ?_ (by assumption)
     walk_at "up"))

section
variable {P : Program} {w : World} {K : PySem.W.Frag} {mg : Str → Option Value} {base : Heap}
theorem Pu.new {H : Hp} {p a : Addr} {n : Nat} {o : HO} (h : Pu H p n) (ha : H a = none) : Pu (upd H a o) p n := h.up (upd_ne (h.ne ha)) (Nat.le_refl _)
def spCond (K : PySem.W.Frag) : Sp := fun vs H Q _ => ∃ (p : Addr) (z : Str) (n : Nat), vs = [.ref p, .str z] ∧ 0 < z.length ∧ z.length ≤ 100 ∧ Pu H p n ∧ n < 2 ^ 38 ∧
  ∀ (H' : Hp) (v : V) (c : Cond), Gr [p] H H' → Pu H' p (n + 10000) → Dq K [p] H' v (enc c) → smc z c → Q v H'
theorem vo_letters : ∀ c ∈ tl ("vo" : Str), c = 118 ∨ c = 111 := by decide +kernel
theorem vo_len : ("vo" : Str).length = 2 := by decide +kernel
theorem ok_law_condition (T : Txt K mg) : FnOk P w K mg base CX0 4 T.a_law_condition T.fd_law_condition ["purse", "signs"] (spCond K) := by
  refine T.F_law_condition.ok sc_law_condition (fun vs H Q E h => ?_) (fun cdv A outer s H vs Q E hr h => ?_)
  · obtain ⟨p, z, n, rfl, _⟩ := h
    rfl
  · obtain ⟨p, z, n, rfl, hz, hz2, hp, hn, q⟩ := h
    refine ⟨_, (pss_cons (ps_set (i := 2) sc_law_condition.nd rfl (Or.inl rfl) (pe_callTy (tupK K) (by rfl) T.z_tuple B_tuple (pa_cons (pe_lc (own := [("turn", 6)]) (by rfl) sc_law_condition.nd (pi_range1 (by rfl) T.z_range (pa_cons (pe_call (ok_law_draw T) (hr.mono (by decide)) (by rfl) T.m_law_draw T.F_law_draw.kp T.b_law_draw .nil pass0 (pa_cons (pv 0) (pa_cons pe_int pa_nil))) pa_nil)) (blkOk_by (N := ["purse", "signs", "texts", "shape", "some", "found", "turn"]) (sc := defScope s_law_condition) (by decide +kernel)) (fun _ _ _ _ _ => (pg_name (i := 6) sc_law_condition.nd rfl (Or.inl rfl))) (fun _ _ _ _ _ => pts_nil) (fun _ _ _ _ _ => (pe_call (ok_law_text T) (hr.mono (by decide)) (by rfl) T.m_law_text T.F_law_text.kp T.b_law_text .nil pass0 (pa_cons (pv 0) (pa_cons (pv 1) (pa_cons pe_int (pa_cons pe_int pa_nil))))))) pa_nil)))
      (pss_cons (ps_set (i := 3) sc_law_condition.nd rfl (Or.inl rfl) (pe_call (ok_law_text T) (hr.mono (by decide)) (by rfl) T.m_law_text T.F_law_text.kp T.b_law_text .nil pass0 (pa_cons (pv 0) (pa_cons pe_str (pa_cons pe_int (pa_cons pe_int pa_nil))))))
      (pss_cons (ps_set (i := 4) sc_law_condition.nd rfl (Or.inl rfl) (pe_lst (pa_cons (pe_tup (pa_cons pe_str pa_nil)) (pa_cons (pe_tup (pa_cons pe_str (pa_cons (pe_call (ok_law_draw T) (hr.mono (by decide)) (by rfl) T.m_law_draw T.F_law_draw.kp T.b_law_draw .nil pass0 (pa_cons (pv 0) (pa_cons pe_int pa_nil))) pa_nil))) (pa_cons (pe_tup (pa_cons pe_str (pa_cons (pv 2) pa_nil))) (pa_cons (pe_tup (pa_cons pe_str pa_nil)) (pa_cons (pe_tup (pa_cons pe_str (pa_cons (pe_call (ok_law_draw T) (hr.mono (by decide)) (by rfl) T.m_law_draw T.F_law_draw.kp T.b_law_draw .nil pass0 (pa_cons (pv 0) (pa_cons pe_int pa_nil))) pa_nil))) pa_nil)))))))
      (pss_cons (ps_set (i := 5) sc_law_condition.nd rfl (Or.inl rfl) (pe_ix (ixK K) (pe_op (addK K) (pv 4) (pe_lst (pa_cons (pe_tup (pa_cons pe_str (pa_cons (pv 3) pa_nil))) pa_nil))) (pe_call (ok_law_draw T) (hr.mono (by decide)) (by rfl) T.m_law_draw T.F_law_draw.kp T.b_law_draw .nil pass0 (pa_cons (pv 0) (pa_cons pe_int pa_nil))) (fun _ _ => rfl)))
      (pss_one (ps_ret (pe_ifExp (pt_cmpR (eqK K hr) (pe_call (ok_law_draw T) (hr.mono (by decide)) (by rfl) T.m_law_draw T.F_law_draw.kp T.b_law_draw .nil pass0 (pa_cons (pv 0) (pa_cons pe_int pa_nil))) pe_int (nomark _)) (pe_tup (pa_cons pe_str (pa_cons (pv 5) pa_nil))) (pv 5)))))))), ?_⟩
    walk_at "kk"
    refine ⟨p, 3, n, rfl, by omega, by omega, hp, by omega, fun H1 d g1 p1 d1 d2 => ?_⟩
    walk_at "kk"
    refine k_onR1 (by omega) (lc_go (walk_range (lo := 0) (n := d.toNat)) (fun D i H' => p ≠ D ∧ H D = none ∧ Gr [D, p] H H' ∧ Pu H' p (n + 1 + i * 1001) ∧ ∃ ts : List Str, H' D = some (.lst (ts.map V.str)) ∧ ts.length = i ∧ ∀ t ∈ ts, t.length ≤ 2 ∧ ∀ c ∈ tl t, c ∈ tl z) (by intro _; rfl) (fun D hD => ?_) (fun _ _ _ _ _ => trivial) (fun D i x Ha Hb hi iv hy => ?_) (fun D H2 iv => ?_))
    · have hpD := p1.ne hD
      exact ⟨hpD, g1.free hD (by simpa using hpD.symm), (g1.more (by simp)).trans (Gr.mut (by simp)), p1.up (upd_ne hpD) (by omega), [], upd_same, rfl, by simp⟩
    · obtain ⟨hpD, hD0, g2, p2, ts, e2, l2, m2⟩ := iv
      obtain ⟨rfl, rfl⟩ := hy
      walk_at "kk"
      refine ⟨p, z, 0, 2, n + 1 + i * 1001, rfl, by omega, by omega, by omega, hz, hz2, p2, by omega, fun H3 x g3 p3 mx lx1 lx2 => ?_⟩
      have e3 : H3 D = some (.lst (ts.map V.str)) := g3 D _ (by simpa using hpD.symm) e2
      refine k_add e3 (by rw [List.length_map]; omega) ⟨hpD, hD0, (g2.trans (g3.more (by simp))).trans (Gr.mut (by simp)), p3.up (upd_ne hpD) (by omega), ts ++ [x], ?_, by simp [l2], fun t ht => ?_⟩
      · rw [upd_same]; simp
      · rcases List.mem_append.mp ht with h | h
        · exact m2 t h
        · rw [List.mem_singleton.mp h]; exact ⟨by omega, mx⟩
    · obtain ⟨hpD, hD0, g2, p2, ts, e2, l2, m2⟩ := iv
      have g2' := g2.less hD0
      walk_at "kk"
      refine k_tupOfL (Evl.sq_of e2) fun t1 ht1 => ?_
      have q1 : Dq K [p] _ (.ref t1) (.tuple (ts.map .str)) := Dq.newT (p2.live) ht1 (DqAll.strs ts)
      have p3 := p2.new (o := .tup (ts.map V.str)) ht1
      walk_at "kk"
      refine ⟨p, "vo", 0, 2, n + 1 + d.toNat * 1001, rfl, by omega, by omega, by omega, by rw [vo_len]; omega, by rw [vo_len]; omega, p3, by omega, fun H4 sh g4 p4 msh ls1 ls2 => ?_⟩
      walk_at "kk"
      intro a1 h1
      have p5 := p4.new (o := .tup [.str "vowel"]) h1
      have e1 : Dq K [p] _ (.ref a1) (enc0 .vowel) := Dq.newT p4.live h1 (.cons (Dq.str "vowel") .nil)
      walk_at "kk"
      refine ⟨p, 3, _, rfl, by omega, by omega, p5, by omega, fun H5 m g5 p6 m1 m2' => ?_⟩
      walk_at "kk"
      intro a2 h2
      have p7 := p6.new (o := .tup [.str "runs", .int m]) h2
      have e2 : Dq K [p] _ (.ref a2) (enc0 (.runs m)) := Dq.newT p6.live h2 (.cons (Dq.str "runs") (.cons (Dq.int m) .nil))
      walk_at "kk"
      intro a3 h3
      have p8 := p7.new (o := .tup [.str "ends", .ref t1]) h3
      have q2 : Dq K [p] (upd H5 a2 (.tup [.str "runs", .int m])) (.ref t1) (.tuple (ts.map .str)) := by walk_at "up"
      have e3 : Dq K [p] _ (.ref a3) (enc0 (.ends ts)) := Dq.newT p7.live h3 (.cons (Dq.str "ends") (.cons q2 .nil))
      walk_at "kk"
      intro a4 h4
      have p9 := p8.new (o := .tup [.str "double"]) h4
      have e4 : Dq K [p] _ (.ref a4) (enc0 .double) := Dq.newT p8.live h4 (.cons (Dq.str "double") .nil)
      walk_at "kk"
      refine ⟨p, 4, _, rfl, by omega, by omega, p9, by omega, fun H6 k g6 p10 k1 k2 => ?_⟩
      walk_at "kk"
      intro a5 h5
      have p11 := p10.new (o := .tup [.str "least", .int k]) h5
      have e5 : Dq K [p] _ (.ref a5) (enc0 (.least k)) := Dq.newT p10.live h5 (.cons (Dq.str "least") (.cons (Dq.int k) .nil))
      walk_at "kk"
      intro l1 hl1
      have p12 := p11.new (o := .lst [.ref a1, .ref a2, .ref a3, .ref a4, .ref a5]) hl1
      have hpl1 := p11.ne hl1
      walk_at "kk"
      intro a6 h6
      have p13 := p12.new (o := .tup [.str "shape", .str sh]) h6
      have e6 : Dq K [p] _ (.ref a6) (enc0 (.shape sh)) := Dq.newT p12.live h6 (.cons (Dq.str "shape") (.cons (Dq.str sh) .nil))
      have hl1' : (upd (upd (upd H6 a5 (.tup [.str "least", .int k])) l1 (.lst [.ref a1, .ref a2, .ref a3, .ref a4, .ref a5])) a6 (.tup [.str "shape", .str sh])) l1 = some (.lst [.ref a1, .ref a2, .ref a3, .ref a4, .ref a5]) := by
        rw [upd_ne (ne_of_none upd_same h6)]; exact upd_same
      walk_at "kk"
      intro l2' hl2
      have p14 := p13.new (o := .lst [.ref a6]) hl2
      walk_at "kk"
      dsimp only
      refine k_cat ((Gr.new (S := [p]) hl2) l1 _ (by simpa using hpl1.symm) hl1') upd_same (by simp) fun l3 hl3 => ?_
      have p15 := p14.new (o := .lst [.ref a1, .ref a2, .ref a3, .ref a4, .ref a5, .ref a6]) hl3
      have hpl3 := p14.ne hl3
      walk_at "kk"
      refine ⟨p, 6, _, rfl, by omega, by omega, p15, by omega, fun H7 d6 g7 p16 d61 d62 => ?_⟩
      have el3 : H7 l3 = some (.lst [.ref a1, .ref a2, .ref a3, .ref a4, .ref a5, .ref a6]) := g7 l3 _ (by simpa using hpl3.symm) upd_same
      let cs : List C0 := [.vowel, .runs m, .ends ts, .double, .least k, .shape sh]
      have hall : DqAll K [p] H7 [.ref a1, .ref a2, .ref a3, .ref a4, .ref a5, .ref a6] (cs.map enc0) :=
        .cons (by walk_at "up") (.cons (by walk_at "up") (.cons (by walk_at "up") (.cons (by walk_at "up") (.cons (by walk_at "up") (.cons (by walk_at "up") .nil)))))
      have hlt : d6.toNat < cs.length := by show d6.toNat < 6; omega
      obtain ⟨v, hv, qv⟩ := DpAll.get hall (i := d6.toNat) (d := enc0 cs[d6.toNat]) (by rw [List.getElem?_map, List.getElem?_eq_getElem hlt]; rfl)
      have qv : Dq K [p] H7 v (enc0 cs[d6.toNat]) := qv
      have hsm : sm0 z cs[d6.toNat] := by
        have hmem : cs[d6.toNat] ∈ cs := List.getElem_mem hlt
        have hallc : ∀ c ∈ cs, sm0 z c := by
          intro c hc
          simp only [cs, List.mem_cons, List.not_mem_nil, or_false] at hc
          rcases hc with h | h | h | h | h | h
          · rw [h]; trivial
          · rw [h]; exact ⟨m1, by omega⟩
          · rw [h]; exact ⟨by omega, m2⟩
          · rw [h]; trivial
          · rw [h]; exact ⟨k1, by omega⟩
          · rw [h]; exact ⟨by omega, fun c hc => vo_letters c (msh c hc)⟩
        exact hallc _ hmem
      dsimp only
      apply k_rv
      · exact rv_ixL (Evl.sq_of el3) (at_int d61 hv)
      walk_at "kk"
      have gAll : Gr [p] H H7 := g2'.trans ((Gr.new ht1).trans (g4.trans ((Gr.new h1).trans (g5.trans ((Gr.new h2).trans ((Gr.new h3).trans ((Gr.new h4).trans (g6.trans ((Gr.new h5).trans ((Gr.new hl1).trans ((Gr.new h6).trans ((Gr.new hl2).trans ((Gr.new hl3).trans g7)))))))))))))
      refine ⟨p, 3, _, rfl, by omega, by omega, p16, by omega, fun H8 d8 g8 p17 d81 d82 => ?_⟩
      walk_at "kk"
      refine k_ite (fun hb => ?_) (fun hb => ?_)
      · walk_at "kk"
        intro a7 h7
        exact q _ _ (.neg cs[d6.toNat]) (gAll.trans (g8.trans (Gr.new h7))) ((p17.new h7).up rfl (by omega)) (Dq.newT p17.live h7 (.cons (Dq.str "not") (.cons (qv.up g8) .nil))) hsm
      · walk_at "kk"
        exact q _ _ (.pos cs[d6.toNat]) (gAll.trans g8) (p17.up rfl (by omega)) (qv.up g8) hsm
end
end K02

set_option Elab.async false
set_option linter.all false
set_option maxRecDepth 100000
set_option maxHeartbeats 4000000
namespace K02
open PySem PySem.Spec PyProof.Rows L2 TL Mi
/-! ### short words -/
local macro_rules | `(tactic| walk_at "idx") => `(tactic| first | assumption | exact Evl.sq_of (by assumption) | exact Evl.st_of (by assumption) | exact Evl.sq_of upd_same | exact Evl.st_of upd_same)
local macro_rules | `(tactic| walk_at "side") => `(tactic| first | omega | exact Or.inl ⟨by omega, by omega⟩ | exact Or.inr ⟨by omega, by omega⟩ | exact ⟨by omega, by omega⟩ | decide +kernel)
local macro_rules | `(tactic| walk_at "div") => `(tactic| exact wide_div (b := 30) (by omega) (by omega) (by decide) (by decide))
local macro_rules | `(tactic| walk_at "pow") => `(tactic| exact ⟨by decide +kernel, by decide +kernel, by decide +kernel⟩)
local macro_rules | `(tactic| walk_at "rv") => `(tactic| first
  | with_reducible exact rv_addI | with_reducible exact rv_sub | with_reducible exact rv_lt | with_reducible exact rv_le | with_reducible exact rv_gt | with_reducible exact rv_ge
  | with_reducible exact rv_inC | with_reducible exact rv_notInC | with_reducible exact rv_isB
  | (with_reducible apply rv_mul
     walk_at "side")
  | (with_reducible apply rv_mod
     walk_at "side")
  | (with_reducible apply rv_div
     walk_at "div")
  | (with_reducible apply rv_pow
     walk_at "pow")
  | (with_reducible apply rv_eq
     exact rfl)
  | (with_reducible apply rv_ne
     exact rfl)
  | (with_reducible apply rv_ixL
     · walk_at "idx"
     · exact rfl)
  | (with_reducible apply rv_ixT
     · walk_at "idx"
     · exact rfl)
  | (with_reducible apply rv_ixS
     · walk_at "side"
     · exact rfl)
  | (with_reducible apply rv_addS
     walk_at "side"))
local macro_rules | `(tactic| walk_at "val") => `(tactic| first
  | with_reducible exact val_c | exact val_c
  | (with_reducible apply val_var
     exact rfl)
  | (with_reducible apply val_bin
     · walk_at "val"
     · walk_at "val"
     · walk_at "rv")
  | (with_reducible apply val_int1
     walk_at "val")
  | (with_reducible apply val_max2
     · walk_at "val"
     · walk_at "val")
  | (with_reducible apply val_min2
     · walk_at "val"
     · walk_at "val")
  | (with_reducible apply val_endsw
     · walk_at "val"
     · walk_at "val")
  | (with_reducible apply val_lenS
     · walk_at "val"
     · walk_at "side")
  | (with_reducible apply val_lenL
     · walk_at "val"
     · walk_at "idx")
  | (with_reducible apply val_lenT
     · walk_at "val"
     · walk_at "idx")
  | (with_reducible apply val_notV
     walk_at "val"))
local macro_rules | `(tactic| walk_at "ans") => `(tactic| first
  | (with_reducible apply ans_T
     walk_at "val")
  | (with_reducible apply ans_B
     walk_at "val")
  | (with_reducible apply ans_not
     walk_at "ans"))
local macro_rules | `(tactic| walk_at "ifp") => `(tactic| first
  | (with_reducible refine Eq.mpr (if_pos ?_) ?_
     · decide +kernel)
  | (with_reducible refine Eq.mpr (if_neg ?_) ?_
     · decide +kernel))
local macro_rules | `(tactic| walk_at "k") => `(tactic| first
  | with_reducible apply k_seq | with_reducible apply k_asg | with_reducible apply k_ret | with_reducible apply k_ifS | with_reducible apply k_drop | with_reducible apply k_name
  | (with_reducible apply k_var
     · exact rfl)
  | with_reducible apply k_c
  | with_reducible apply k_op | with_reducible apply k_cb | with_reducible apply k_call | with_reducible apply k_cons | with_reducible apply k_nil | with_reducible apply k_tup | with_reducible apply k_lst
  | with_reducible apply k_ifE | with_reducible apply k_test | with_reducible apply k_tb | with_reducible apply k_not | with_reducible apply k_and | with_reducible apply k_or | with_reducible apply k_bl
  | with_reducible apply k_sl | with_reducible apply k_part | with_reducible apply k_isI | with_reducible apply k_nopart
  | with_reducible apply k_lcZS | with_reducible apply k_onZS | with_reducible apply k_un | with_reducible apply k_neg
  | with_reducible apply k_lcS | with_reducible apply k_lcR | with_reducible apply k_lcL | with_reducible apply k_lcT | with_reducible apply k_forS | with_reducible apply k_forR | with_reducible apply k_forL | with_reducible apply k_forT | with_reducible apply k_onS | with_reducible apply k_yes
  | (with_reducible apply k_augC
     · exact rfl)
  | with_reducible apply k_next | with_reducible apply k_eqInt | with_reducible apply k_neInt | with_reducible apply k_eqStr | with_reducible apply k_neStr
  | with_reducible apply k_andV | with_reducible apply k_orV | with_reducible apply k_notV
  | with_reducible apply k_m1 | with_reducible apply k_onStr | with_reducible apply k_endsw
  | (with_reducible apply k_slS
     · walk_at "side")
  | (with_reducible apply k_newT
     · walk_at "len")
  | (with_reducible apply k_newL
     · walk_at "len")
  | with_reducible apply k_int1 | with_reducible apply k_max2 | with_reducible apply k_min2
  | (with_reducible apply k_lenS
     · walk_at "side")
  | (with_reducible apply k_lenL
     · walk_at "idx")
  | (with_reducible apply k_lenT
     · walk_at "idx")
  | (with_reducible apply k_rv
     · walk_at "rv")
  | walk_at "ifp")
local macro_rules | `(tactic| walk_at "kk") => `(tactic| (repeat (walk_at "k")))
local macro_rules | `(tactic| walk_at "len") => `(tactic| first | exact (by decide : (1:Nat) ≤ 100000) | exact (by decide : (2:Nat) ≤ 100000) | exact (by decide : (3:Nat) ≤ 100000) | exact (by decide : (4:Nat) ≤ 100000) | exact (by decide : (7:Nat) ≤ 100000) | (simp only [List.length_cons, List.length_nil]; omega) | omega)
local macro_rules | `(tactic| walk_at "up") => `(tactic| first
  | assumption
  | (refine Dq.up ?_ (Gr.new (by assumption))
     walk_at "up")
  | (refine Dq.up ?_ (by assumption)
     walk_at "up"))

section
variable {P : Program} {w : World} {K : PySem.W.Frag} {mg : Str → Option Value} {base : Heap}
def spNum (K : PySem.W.Frag) : Sp := fun vs H Q _ => ∃ (v : V) (d : PyData), vs = [v] ∧ Th K H v d ∧ Q (.bl (isNum d)) H
theorem ok_is_number (T : Txt K mg) : FnOk P w K mg base CX0 1 T.a_is_number T.fd_is_number ["thing"] (spNum K) := by
  refine T.F_is_number.ok sc_is_number (fun vs H Q E h => ?_) (fun cdv A outer s H vs Q E hr h => ?_)
  · obtain ⟨x, d, rfl, _⟩ := h
    rfl
  · obtain ⟨v, d, rfl, ht, q⟩ := h
    refine ⟨_, (pss_one (ps_ret (pe_and (pe_callB (isiK K) (by rfl) T.z_isinstance B_isinstance (pa_cons (pv 0) (pa_cons (pe_bltn (v := .ty "int") (by rfl) T.z_int B_int (by rfl)) pa_nil))) (pe_and (pe_not (pe_callB (isiK K) (by rfl) T.z_isinstance B_isinstance (pa_cons (pv 0) (pa_cons (pe_bltn (v := .ty "bool") (by rfl) T.z_bool B_bool (by rfl)) pa_nil)))) (pe_one (pe_cmpR op_geA (pv 0) pe_int (nomark _))))))), ?_⟩
    walk_at "kk"
    refine k_isiD ht (kit_int d) ?_
    walk_at "kk"
    refine k_ite (fun hb => ?_) (fun hb => ?_)
    · walk_at "kk"
      refine k_isiD ht (kit_bool d) ?_
      walk_at "kk"
      refine k_ite (fun hb2 => ?_) (fun hb2 => ?_)
      · cases d <;> simp [isIntD, isBoolD] at hb hb2
        rcases ht with ht | ⟨a, kvs, _, _, e⟩
        · cases ht
          walk_at "kk"
          exact q
        · cases e
      · have e : isNum d = false := by cases d <;> simp [isIntD, isBoolD] at hb hb2 <;> rfl
        rw [e] at q
        exact q
    · have e : isNum d = false := by cases d <;> simp [isIntD] at hb <;> rfl
      rw [e] at q
      exact q
/-- whether a thing is a text of the letters -/
def spTextOf (K : PySem.W.Frag) : Sp := fun vs H Q _ => ∃ (v : V) (d : PyData) (y : Str), vs = [v, .str y] ∧ Th K H v d ∧ szd d ∧ ∀ H', Same H H' → Q (.bl (isTextOf d y)) H'
theorem ok_is_text_of (T : Txt K mg) : FnOk P w K mg base CX0 1 T.a_is_text_of T.fd_is_text_of ["thing", "letters"] (spTextOf K) := by
  refine T.F_is_text_of.ok sc_is_text_of (fun vs H Q E h => ?_) (fun cdv A outer s H vs Q E hr h => ?_)
  · obtain ⟨x, d, y, rfl, _⟩ := h
    rfl
  · obtain ⟨v, d, y, rfl, ht, hz, q⟩ := h
    refine ⟨_, (pss_one (ps_ret (pe_and (pe_callB (isiK K) (by rfl) T.z_isinstance B_isinstance (pa_cons (pv 0) (pa_cons (pe_bltn (v := .ty "str") (by rfl) T.z_str B_str (by rfl)) pa_nil))) (pe_one (pe_callB (allK K) (by rfl) T.z_all B_all (pa_cons (pe_lc (own := [("letter", 2)]) (by rfl) sc_is_text_of.nd (pi_str (pv 0)) (blkOk_by (N := ["thing", "letters", "letter"]) (sc := defScope s_is_text_of) (by decide +kernel)) (fun _ _ _ _ _ => (pg_name (i := 2) sc_is_text_of.nd rfl (Or.inl rfl))) (fun _ _ _ _ _ => pts_nil) (fun _ _ _ _ _ => (pe_cmpR op_inC (pv 2) (pv 1) (by rfl)))) pa_nil)))))), ?_⟩
    walk_at "kk"
    refine k_isiD ht (kit_str d) ?_
    walk_at "kk"
    refine k_ite (fun hb => ?_) (fun hb => ?_)
    · cases d <;> simp [isStrD] at hb
      rename_i x
      rcases ht with ht | ⟨a, kvs, _, _, e⟩
      · cases ht
        walk_at "kk"
        refine lc_mapS (fun c => .bl (decide (c ∈ tl y))) hz (by intro _; rfl) (fun c H1 hc s1 => EvS.of (by walk_at "val")) (fun D H' h1 h2 h3 => ?_)
        walk_at "kk"
        refine k_all (bs := (tl x).map fun c => decide (c ∈ tl y)) (Evl.sq_of (by rw [h3, List.map_map]; rfl)) ?_
        rw [List.all_map]
        exact q H' h2
      · cases e
    · have e : isTextOf d y = false := by cases d <;> simp [isStrD] at hb <;> rfl
      rw [e] at q
      exact q H (Same.refl H)
def spPlain (K : PySem.W.Frag) : Sp := fun vs H Q _ => ∃ (v : V) (d : PyData), vs = [v] ∧ Th K H v d ∧ shT d ∧ (∀ ds, d = .tuple ds → ∀ e ∈ ds, szd e) ∧ ∀ H', Same H H' → Q (.bl (isPl d)) H'
theorem ok_is_plain (T : Txt K mg) : FnOk P w K mg base CX0 2 T.a_is_plain T.fd_is_plain ["thing"] (spPlain K) := by
  refine T.F_is_plain.ok sc_is_plain (fun vs H Q E h => ?_) (fun cdv A outer s H vs Q E hr h => ?_)
  · obtain ⟨x, d, rfl, _⟩ := h
    rfl
  · obtain ⟨v, d, rfl, ht, hs, hz, q⟩ := h
    refine ⟨_, (pss_cons (ps_if (pt_not (pt_val (pe_callB (isiK K) (by rfl) T.z_isinstance B_isinstance (pa_cons (pv 0) (pa_cons (pe_bltn (v := .ty "tuple") (by rfl) T.z_tuple B_tuple (by rfl)) pa_nil))))) (pss_one (ps_ret pe_bl)) pss_nil)
      (pss_cons (ps_if (pt_cmpR (eqK K hr) (pe_callB (lenK K) (by rfl) T.z_len B_len (pa_cons (pv 0) pa_nil)) pe_int (nomark _)) (pss_one (ps_ret (pe_cmpR (inTK K hr) (pe_ix (ixK K) (pv 0) pe_int (fun _ _ => rfl)) (pe_tup (pa_cons pe_str (pa_cons pe_str pa_nil))) (by rfl)))) pss_nil)
      (pss_cons (ps_if (pt_cmpR (neK K hr) (pe_callB (lenK K) (by rfl) T.z_len B_len (pa_cons (pv 0) pa_nil)) pe_int (nomark _)) (pss_one (ps_ret pe_bl)) pss_nil)
      (pss_cons (ps_asg (pv 0) (tupleK K (n := 2) rfl (pgs_cons (pg_name (i := 1) sc_is_plain.nd rfl (Or.inl rfl)) (pgs_cons (pg_name (i := 2) sc_is_plain.nd rfl (Or.inl rfl)) pgs_nil))))
      (pss_cons (ps_if (pt_cmpR (inTK K hr) (pv 1) (pe_tup (pa_cons pe_str (pa_cons pe_str pa_nil))) (by rfl)) (pss_one (ps_ret (pe_call (ok_is_number T) (hr.mono (by decide)) (by rfl) T.m_is_number T.F_is_number.kp T.b_is_number .nil pass0 (pa_cons (pv 2) pa_nil)))) pss_nil)
      (pss_cons (ps_if (pt_cmpR (eqK K hr) (pv 1) pe_str (nomark _)) (pss_one (ps_ret (pe_and (pe_callB (isiK K) (by rfl) T.z_isinstance B_isinstance (pa_cons (pv 2) (pa_cons (pe_bltn (v := .ty "tuple") (by rfl) T.z_tuple B_tuple (by rfl)) pa_nil))) (pe_one (pe_callB (allK K) (by rfl) T.z_all B_all (pa_cons (pe_lc (own := [("text", 3)]) (by rfl) sc_is_plain.nd (tupIK K (pv 2)) (blkOk_by (N := ["thing", "kind", "value", "text"]) (sc := defScope s_is_plain) (by decide +kernel)) (fun _ _ _ _ _ => (pg_name (i := 3) sc_is_plain.nd rfl (Or.inl rfl))) (fun _ _ _ _ _ => pts_nil) (fun _ _ _ _ _ => (pe_callB (isiK K) (by rfl) T.z_isinstance B_isinstance (pa_cons (pv 3) (pa_cons (pe_bltn (v := .ty "str") (by rfl) T.z_str B_str (by rfl)) pa_nil))))) pa_nil)))))) pss_nil)
      (pss_one (ps_ret (pe_and (pe_cmpR (eqK K hr) (pv 1) pe_str (nomark _)) (pe_one (pe_call (ok_is_text_of T) (hr.mono (by decide)) (by rfl) T.m_is_text_of T.F_is_text_of.kp T.b_is_text_of .nil pass0 (pa_cons (pv 2) (pa_cons pe_str pa_nil))))))))))))), ?_⟩
    walk_at "kk"
    refine k_isiD ht (kit_tup d) ?_
    walk_at "kk"
    by_cases htup : ∃ ds, d = .tuple ds
    · obtain ⟨ds, rfl⟩ := htup
      refine k_ite (fun hb => by cases hb) (fun _ => ?_)
      rcases ht with ht | ⟨_, _, _, _, e⟩
      rotate_left
      · cases e
      cases ht with
      | @tup a xs _ hx ha =>
        have hz := hz ds rfl
        walk_at "kk"
        cases ha with
        | nil =>
          walk_at "kk"
          exact q H (Same.refl H)
        | @cons x xr e er h1 hr1 =>
          have hsc := shaped_cons (hs _ rfl)
          cases hr1 with
          | nil =>
            refine k_ite (fun _ => ?_) (fun hb => by simp at hb)
            walk_at "kk"
            intro t ht
            dsimp only
            apply k_rv
            · exact rv_inTD (h1.up (same_new ht)) (.tup (Evl.st_of upd_same) (.cons (.str _) (.cons (.str _) .nil))) hsc.1 (by decide +kernel)
            exact q _ (same_new ht)
          | @cons y yr e2 er2 h2 hr2 =>
            have hsc2 := shaped_cons hsc.2
            cases hr2 with
            | nil =>
              refine k_ite (fun hb => by simp at hb) (fun _ => ?_)
              walk_at "kk"
              refine k_ite (fun hb => by simp at hb) (fun _ => ?_)
              walk_at "kk"
              refine k_unp2 hx ?_
              walk_at "kk"
              intro t ht
              have s1 : Same H (upd H t (.tup [.str "runs", .str "least"])) := same_new ht
              dsimp only
              apply k_rv
              · exact rv_inTD (h1.up s1) (.tup (Evl.st_of upd_same) (.cons (.str _) (.cons (.str _) .nil))) hsc.1 (by decide +kernel)
              walk_at "kk"
              refine k_ite (fun hb => ?_) (fun hb => ?_)
              · walk_at "kk"
                have hb : inT ["runs", "least"] e = true := hb
                have e : isPl (.tuple [e, e2]) = isNum e2 := by show (if inT ["runs", "least"] e then isNum e2 else _) = _; rw [if_pos hb]
                rw [e] at q
                exact ⟨_, _, rfl, .inl (h2.up s1), q _ s1⟩
              · walk_at "kk"
                dsimp only
                apply k_rv
                · exact rv_eqD (h1.up s1) (.str _) hsc.1 (by decide +kernel)
                walk_at "kk"
                have hb' : inT ["runs", "least"] e = false := hb
                refine k_ite (fun hb2 => ?_) (fun hb2 => ?_)
                · have ee : isPl (.tuple [e, e2]) = isTexts e2 := by show (if inT ["runs", "least"] e = true then isNum e2 else if PyData.eqv e (.str "ends") = true then isTexts e2 else _) = _; rw [hb', if_neg (by decide), if_pos hb2]
                  rw [ee] at q
                  walk_at "kk"
                  refine k_isiD (.inl (h2.up s1)) (kit_tup e2) ?_
                  walk_at "kk"
                  refine k_ite (fun hb4 => ?_) (fun hb4 => ?_)
                  · obtain ⟨ts, rfl⟩ : ∃ ts, e2 = .tuple ts := by cases e2 <;> first | exact ⟨_, rfl⟩ | cases hb4
                    cases h2.up s1 with
                    | @tup a2 xs2 _ hx2 ha2 =>
                      walk_at "kk"
                      refine k_onT hx2 (lc_mapTD (fun d => .bl (isStrD d)) hx2 ha2 (show ts.length ≤ 50000 from hz (.tuple ts) (by simp)) (by intro _; rfl) (fun v d H1 hd hv s2 Q2 k2 => ?_) (fun D H' n1 s2 e3 => ?_))
                      · walk_at "kk"
                        exact k_isiD (.inl hv) (kit_str d) (k2 _ (Same.refl _))
                      · walk_at "kk"
                        refine k_all (bs := ts.map isStrD) (Evl.sq_of (by rw [e3, List.map_map]; rfl)) ?_
                        rw [List.all_map]
                        exact q H' (s1.trans s2)
                  · have e3 : isTexts e2 = false := by cases e2 <;> simp [isTupD] at hb4 <;> rfl
                    rw [e3] at q
                    exact q _ s1
                · have ee : isPl (.tuple [e, e2]) = (PyData.eqv e (.str "shape") && isTextOf e2 "vo") := by show (if inT ["runs", "least"] e = true then isNum e2 else if PyData.eqv e (.str "ends") = true then isTexts e2 else _) = _; rw [hb', if_neg (by decide), hb2, if_neg (by decide)]
                  rw [ee] at q
                  walk_at "kk"
                  dsimp only
                  apply k_rv
                  · exact rv_eqD (h1.up s1) (.str _) hsc.1 (by decide +kernel)
                  walk_at "kk"
                  refine k_ite (fun hb3 => ?_) (fun hb3 => ?_)
                  · walk_at "kk"
                    rw [hb3, Bool.true_and] at q
                    exact ⟨_, _, _, rfl, .inl (h2.up s1), hz _ (by simp), fun H' s2 => q H' (s1.trans s2)⟩
                  · rw [hb3, Bool.false_and] at q
                    exact q _ s1
            | @cons z zr e3 er3 h3 hr3 =>
              refine k_ite (fun hb => by simp at hb; omega) (fun _ => ?_)
              walk_at "kk"
              refine k_ite (fun hb => ?_) (fun hb => by simp at hb; omega)
              walk_at "kk"
              exact q H (Same.refl H)
    · have e : isPl d = false := by
        cases d <;> first | rfl | exact absurd ⟨_, rfl⟩ htup
      have e2 : isTupD d = false := by
        cases d <;> first | rfl | exact absurd ⟨_, rfl⟩ htup
      rw [e2]
      refine k_ite (fun _ => ?_) (fun hb => by cases hb)
      walk_at "kk"
      rw [e] at q
      exact q H (Same.refl H)
end
end K02
set_option Elab.async false
set_option linter.all false
set_option maxRecDepth 100000
set_option maxHeartbeats 4000000
namespace K02
open PySem PySem.Spec PyProof.Rows L2 TL Mi
/-! ### short words -/
local macro_rules | `(tactic| walk_at "idx") => `(tactic| first | assumption | exact Evl.sq_of (by assumption) | exact Evl.st_of (by assumption) | exact Evl.sq_of upd_same | exact Evl.st_of upd_same)
local macro_rules | `(tactic| walk_at "side") => `(tactic| first | omega | exact Or.inl ⟨by omega, by omega⟩ | exact Or.inr ⟨by omega, by omega⟩ | exact ⟨by omega, by omega⟩ | decide +kernel)
local macro_rules | `(tactic| walk_at "div") => `(tactic| exact wide_div (b := 30) (by omega) (by omega) (by decide) (by decide))
local macro_rules | `(tactic| walk_at "pow") => `(tactic| exact ⟨by decide +kernel, by decide +kernel, by decide +kernel⟩)
local macro_rules | `(tactic| walk_at "rv") => `(tactic| first
  | with_reducible exact rv_addI | with_reducible exact rv_sub | with_reducible exact rv_lt | with_reducible exact rv_le | with_reducible exact rv_gt | with_reducible exact rv_ge
  | with_reducible exact rv_inC | with_reducible exact rv_notInC | with_reducible exact rv_isB
  | (with_reducible apply rv_mul
     walk_at "side")
  | (with_reducible apply rv_mod
     walk_at "side")
  | (with_reducible apply rv_div
     walk_at "div")
  | (with_reducible apply rv_pow
     walk_at "pow")
  | (with_reducible apply rv_eq
     exact rfl)
  | (with_reducible apply rv_ne
     exact rfl)
  | (with_reducible apply rv_ixL
     · walk_at "idx"
     · exact rfl)
  | (with_reducible apply rv_ixT
     · walk_at "idx"
     · exact rfl)
  | (with_reducible apply rv_ixS
     · walk_at "side"
     · exact rfl)
  | (with_reducible apply rv_addS
     walk_at "side"))
local macro_rules | `(tactic| walk_at "val") => `(tactic| first
  | with_reducible exact val_c | exact val_c
  | (with_reducible apply val_var
     exact rfl)
  | (with_reducible apply val_bin
     · walk_at "val"
     · walk_at "val"
     · walk_at "rv")
  | (with_reducible apply val_int1
     walk_at "val")
  | (with_reducible apply val_max2
     · walk_at "val"
     · walk_at "val")
  | (with_reducible apply val_min2
     · walk_at "val"
     · walk_at "val")
  | (with_reducible apply val_endsw
     · walk_at "val"
     · walk_at "val")
  | (with_reducible apply val_lenS
     · walk_at "val"
     · walk_at "side")
  | (with_reducible apply val_lenL
     · walk_at "val"
     · walk_at "idx")
  | (with_reducible apply val_lenT
     · walk_at "val"
     · walk_at "idx")
  | (with_reducible apply val_notV
     walk_at "val"))
local macro_rules | `(tactic| walk_at "ans") => `(tactic| first
  | (with_reducible apply ans_T
     walk_at "val")
  | (with_reducible apply ans_B
     walk_at "val")
  | (with_reducible apply ans_not
     walk_at "ans"))
local macro_rules | `(tactic| walk_at "ifp") => `(tactic| first
  | (with_reducible refine Eq.mpr (if_pos ?_) ?_
     · decide +kernel)
  | (with_reducible refine Eq.mpr (if_neg ?_) ?_
     · decide +kernel))
local macro_rules | `(tactic| walk_at "k") => `(tactic| first
  | with_reducible apply k_seq | with_reducible apply k_asg | with_reducible apply k_ret | with_reducible apply k_ifS | with_reducible apply k_drop | with_reducible apply k_name
  | (with_reducible apply k_var
     · exact rfl)
  | with_reducible apply k_c
  | with_reducible apply k_op | with_reducible apply k_cb | with_reducible apply k_call | with_reducible apply k_cons | with_reducible apply k_nil | with_reducible apply k_tup | with_reducible apply k_lst
  | with_reducible apply k_ifE | with_reducible apply k_test | with_reducible apply k_tb | with_reducible apply k_not | with_reducible apply k_and | with_reducible apply k_or | with_reducible apply k_bl
  | with_reducible apply k_sl | with_reducible apply k_part | with_reducible apply k_isI | with_reducible apply k_nopart
  | with_reducible apply k_lcZS | with_reducible apply k_onZS | with_reducible apply k_un | with_reducible apply k_neg
  | with_reducible apply k_lcS | with_reducible apply k_lcR | with_reducible apply k_lcL | with_reducible apply k_lcT | with_reducible apply k_forS | with_reducible apply k_forR | with_reducible apply k_forL | with_reducible apply k_forT | with_reducible apply k_onS | with_reducible apply k_yes
  | (with_reducible apply k_augC
     · exact rfl)
  | with_reducible apply k_next | with_reducible apply k_eqInt | with_reducible apply k_neInt | with_reducible apply k_eqStr | with_reducible apply k_neStr
  | with_reducible apply k_andV | with_reducible apply k_orV | with_reducible apply k_notV
  | with_reducible apply k_m1 | with_reducible apply k_onStr | with_reducible apply k_endsw
  | (with_reducible apply k_slS
     · walk_at "side")
  | (with_reducible apply k_newT
     · walk_at "len")
  | (with_reducible apply k_newL
     · walk_at "len")
  | with_reducible apply k_int1 | with_reducible apply k_max2 | with_reducible apply k_min2
  | (with_reducible apply k_lenS
     · walk_at "side")
  | (with_reducible apply k_lenL
     · walk_at "idx")
  | (with_reducible apply k_lenT
     · walk_at "idx")
  | (with_reducible apply k_rv
     · walk_at "rv")
  | walk_at "ifp")
local macro_rules | `(tactic| walk_at "kk") => `(tactic| (repeat (walk_at "k")))
local macro_rules | `(tactic| walk_at "len") => `(tactic| first | exact (by decide : (1:Nat) ≤ 100000) | exact (by decide : (2:Nat) ≤ 100000) | exact (by decide : (3:Nat) ≤ 100000) | exact (by decide : (4:Nat) ≤ 100000) | exact (by decide : (7:Nat) ≤ 100000) | (simp only [List.length_cons, List.length_nil]; omega) | omega)
local macro_rules | `(tactic| walk_at "up") => `(tactic| first
  | assumption
  | (refine Dq.up ?_ (Gr.new (by assumption))
     walk_at "up")
  | (refine Dq.up ?_ (by assumption)
     walk_at "up"))

section
variable {P : Program} {w : World} {K : PySem.W.Frag} {mg : Str → Option Value} {base : Heap}
def spCd (K : PySem.W.Frag) : Sp := fun vs H Q _ => ∃ (v : V) (d : PyData), vs = [v] ∧ Th K H v d ∧ shT d ∧ szc2 d ∧ ∀ H', Same H H' → Q (.bl (isCd d)) H'
theorem ok_is_condition (T : Txt K mg) : FnOk P w K mg base CX0 3 T.a_is_condition T.fd_is_condition ["thing"] (spCd K) := by
  refine T.F_is_condition.ok sc_is_condition (fun vs H Q E h => ?_) (fun cdv A outer s H vs Q E hr h => ?_)
  · obtain ⟨x, d, rfl, _⟩ := h
    rfl
  · obtain ⟨v, d, rfl, ht, hs, hz, q⟩ := h
    refine ⟨_, (pss_cons (ps_if (PW.pt (pw_and (pt_val (pe_callB (isiK K) (by rfl) T.z_isinstance B_isinstance (pa_cons (pv 0) (pa_cons (pe_bltn (v := .ty "tuple") (by rfl) T.z_tuple B_tuple (by rfl)) pa_nil)))) (pw_and (pt_cmpR (eqK K hr) (pe_callB (lenK K) (by rfl) T.z_len B_len (pa_cons (pv 0) pa_nil)) pe_int (nomark _)) (pw_and1 (pt_cmpR (eqK K hr) (pe_ix (ixK K) (pv 0) pe_int (fun _ _ => rfl)) pe_str (nomark _)))))) (pss_one (ps_ret (pe_call (ok_is_plain T) (hr.mono (by decide)) (by rfl) T.m_is_plain T.F_is_plain.kp T.b_is_plain .nil pass0 (pa_cons (pe_ix (ixK K) (pv 0) pe_int (fun _ _ => rfl)) pa_nil)))) pss_nil)
      (pss_one (ps_ret (pe_call (ok_is_plain T) (hr.mono (by decide)) (by rfl) T.m_is_plain T.F_is_plain.kp T.b_is_plain .nil pass0 (pa_cons (pv 0) pa_nil))))), ?_⟩
    walk_at "kk"
    refine k_isiD ht (kit_tup d) ?_
    walk_at "kk"
    have plain : isCd d = isPl d → ∃ (v' : V) (d' : PyData), [v] = [v'] ∧ Th K H v' d' ∧ shT d' ∧ szw d' ∧ ∀ H', Same H H' → Q (.bl (isPl d')) H' := fun e => ⟨v, d, rfl, ht, hs, hz.1, fun H' s1 => e ▸ q H' s1⟩
    by_cases htup : ∃ ds, d = .tuple ds
    · obtain ⟨ds, rfl⟩ := htup
      refine k_ite (fun _ => ?_) (fun hb => by cases hb)
      rcases ht with ht | ⟨_, _, _, _, e⟩
      rotate_left
      · cases e
      cases ht with
      | @tup a xs _ hx ha =>
        have hl := ha.len
        walk_at "kk"
        by_cases h2 : ∃ e1 e2, ds = [e1, e2]
        · obtain ⟨e1, e2, rfl⟩ := h2
          obtain ⟨x1, x2, rfl, h1, h2⟩ : ∃ x1 x2, xs = [x1, x2] ∧ Dp K H x1 e1 ∧ Dp K H x2 e2 := by
            cases ha with
            | cons h1 hr =>
              cases hr with
              | cons h2 hr2 =>
                cases hr2
                exact ⟨_, _, rfl, h1, h2⟩
          have hsc := shaped_cons (hs _ rfl)
          have hsc2 := shaped_cons hsc.2
          refine k_ite (fun _ => ?_) (fun hb => by simp at hb)
          walk_at "kk"
          apply k_rv
          · exact rv_eqD h1 (.str _) hsc.1 (by decide +kernel)
          walk_at "kk"
          refine k_ite (fun hb => ?_) (fun hb => ?_)
          · walk_at "kk"
            have e : isCd (.tuple [e1, e2]) = isPl e2 := by show (if _ then _ else _) = _; rw [if_pos hb]
            exact ⟨_, _, rfl, .inl h2, (fun _ z => z ▸ hsc2.1), hz.2 _ _ rfl, fun H' s1 => e ▸ q H' s1⟩
          · walk_at "kk"
            exact plain (by show (if _ then _ else _) = _; rw [hb]; rfl)
        · refine k_ite (fun hb => ?_) (fun hb => ?_)
          · exfalso
            have hb := of_decide_eq_true hb
            have hb : ds.length = 2 := by omega
            match ds, h2, hb with
            | [e1, e2], h2, _ => exact h2 ⟨_, _, rfl⟩
          · walk_at "kk"
            refine plain ?_
            match ds, h2 with
            | [], _ => rfl
            | [_], _ => rfl
            | [_, _], h2 => exact absurd ⟨_, _, rfl⟩ h2
            | _ :: _ :: _ :: _, _ => rfl
    · have e2 : isTupD d = false := by
        cases d <;> first | rfl | exact absurd ⟨_, rfl⟩ htup
      rw [e2]
      refine k_ite (fun hb => by cases hb) (fun _ => ?_)
      walk_at "kk"
      refine plain ?_
      cases d <;> first | rfl | exact absurd ⟨_, rfl⟩ htup
end
end K02
set_option Elab.async false
set_option linter.all false
set_option maxRecDepth 100000
set_option maxHeartbeats 4000000
namespace K02
open PySem PySem.Spec PyProof.Rows L2 TL Mi
/-! ### short words -/
local macro_rules | `(tactic| walk_at "idx") => `(tactic| first | assumption | exact Evl.sq_of (by assumption) | exact Evl.st_of (by assumption) | exact Evl.sq_of upd_same | exact Evl.st_of upd_same)
local macro_rules | `(tactic| walk_at "side") => `(tactic| first | omega | exact Or.inl ⟨by omega, by omega⟩ | exact Or.inr ⟨by omega, by omega⟩ | exact ⟨by omega, by omega⟩ | decide +kernel)
local macro_rules | `(tactic| walk_at "div") => `(tactic| exact wide_div (b := 30) (by omega) (by omega) (by decide) (by decide))
local macro_rules | `(tactic| walk_at "pow") => `(tactic| exact ⟨by decide +kernel, by decide +kernel, by decide +kernel⟩)
local macro_rules | `(tactic| walk_at "rv") => `(tactic| first
  | with_reducible exact rv_addI | with_reducible exact rv_sub | with_reducible exact rv_lt | with_reducible exact rv_le | with_reducible exact rv_gt | with_reducible exact rv_ge
  | with_reducible exact rv_inC | with_reducible exact rv_notInC | with_reducible exact rv_isB
  | (with_reducible apply rv_mul
     walk_at "side")
  | (with_reducible apply rv_mod
     walk_at "side")
  | (with_reducible apply rv_div
     walk_at "div")
  | (with_reducible apply rv_pow
     walk_at "pow")
  | (with_reducible apply rv_eq
     exact rfl)
  | (with_reducible apply rv_ne
     exact rfl)
  | (with_reducible apply rv_ixL
     · walk_at "idx"
     · exact rfl)
  | (with_reducible apply rv_ixT
     · walk_at "idx"
     · exact rfl)
  | (with_reducible apply rv_ixS
     · walk_at "side"
     · exact rfl)
  | (with_reducible apply rv_addS
     walk_at "side"))
local macro_rules | `(tactic| walk_at "val") => `(tactic| first
  | with_reducible exact val_c | exact val_c
  | (with_reducible apply val_var
     exact rfl)
  | (with_reducible apply val_bin
     · walk_at "val"
     · walk_at "val"
     · walk_at "rv")
  | (with_reducible apply val_int1
     walk_at "val")
  | (with_reducible apply val_max2
     · walk_at "val"
     · walk_at "val")
  | (with_reducible apply val_min2
     · walk_at "val"
     · walk_at "val")
  | (with_reducible apply val_endsw
     · walk_at "val"
     · walk_at "val")
  | (with_reducible apply val_lenS
     · walk_at "val"
     · walk_at "side")
  | (with_reducible apply val_lenL
     · walk_at "val"
     · walk_at "idx")
  | (with_reducible apply val_lenT
     · walk_at "val"
     · walk_at "idx")
  | (with_reducible apply val_notV
     walk_at "val"))
local macro_rules | `(tactic| walk_at "ans") => `(tactic| first
  | (with_reducible apply ans_T
     walk_at "val")
  | (with_reducible apply ans_B
     walk_at "val")
  | (with_reducible apply ans_not
     walk_at "ans"))
local macro_rules | `(tactic| walk_at "ifp") => `(tactic| first
  | (with_reducible refine Eq.mpr (if_pos ?_) ?_
     · decide +kernel)
  | (with_reducible refine Eq.mpr (if_neg ?_) ?_
     · decide +kernel))
local macro_rules | `(tactic| walk_at "k") => `(tactic| first
  | with_reducible apply k_seq | with_reducible apply k_asg | with_reducible apply k_ret | with_reducible apply k_ifS | with_reducible apply k_drop | with_reducible apply k_name
  | (with_reducible apply k_var
     · exact rfl)
  | with_reducible apply k_c
  | with_reducible apply k_op | with_reducible apply k_cb | with_reducible apply k_call | with_reducible apply k_cons | with_reducible apply k_nil | with_reducible apply k_tup | with_reducible apply k_lst
  | with_reducible apply k_ifE | with_reducible apply k_test | with_reducible apply k_tb | with_reducible apply k_not | with_reducible apply k_and | with_reducible apply k_or | with_reducible apply k_bl
  | with_reducible apply k_sl | with_reducible apply k_part | with_reducible apply k_isI | with_reducible apply k_nopart
  | with_reducible apply k_lcZS | with_reducible apply k_onZS | with_reducible apply k_un | with_reducible apply k_neg
  | with_reducible apply k_forEB | with_reducible apply k_forSB | with_reducible apply k_lcSB | with_reducible apply k_fld | with_reducible apply k_prop
  | with_reducible apply k_lcS | with_reducible apply k_lcR | with_reducible apply k_lcL | with_reducible apply k_lcT | with_reducible apply k_forS | with_reducible apply k_forR | with_reducible apply k_forL | with_reducible apply k_forT | with_reducible apply k_onS | with_reducible apply k_yes
  | (with_reducible apply k_augC
     · exact rfl)
  | with_reducible apply k_next | with_reducible apply k_eqInt | with_reducible apply k_neInt | with_reducible apply k_eqStr | with_reducible apply k_neStr
  | with_reducible apply k_andV | with_reducible apply k_orV | with_reducible apply k_notV
  | with_reducible apply k_m1 | with_reducible apply k_onStr | with_reducible apply k_endsw
  | (with_reducible apply k_slS
     · walk_at "side")
  | (with_reducible apply k_newT
     · walk_at "len")
  | (with_reducible apply k_newL
     · walk_at "len")
  | with_reducible apply k_int1 | with_reducible apply k_max2 | with_reducible apply k_min2
  | (with_reducible apply k_lenS
     · walk_at "side")
  | (with_reducible apply k_lenL
     · walk_at "idx")
  | (with_reducible apply k_lenT
     · walk_at "idx")
  | (with_reducible apply k_rv
     · walk_at "rv")
  | walk_at "ifp")
local macro_rules | `(tactic| walk_at "kk") => `(tactic| (repeat (walk_at "k")))
local macro_rules | `(tactic| walk_at "len") => `(tactic| first | exact (by decide : (1:Nat) ≤ 100000) | exact (by decide : (2:Nat) ≤ 100000) | exact (by decide : (3:Nat) ≤ 100000) | exact (by decide : (4:Nat) ≤ 100000) | exact (by decide : (7:Nat) ≤ 100000) | (simp only [List.length_cons, List.length_nil]; omega) | omega)
local macro_rules | `(tactic| walk_at "up") => `(tactic| first
  | assumption
  | (refine Dq.up ?_ (Gr.new (by assumption))
     walk_at "up")
  | (refine Dq.up ?_ (by assumption)
     walk_at "up"))

section
variable {P : Program} {w : World} {K : PySem.W.Frag} {mg : Str → Option Value} {base : Heap}
theorem ok_InvalidText_init (T : Txt K mg) : FnOk P w K mg base CX0 1 T.aI_InvalidText T.fdI_InvalidText ["self", "thing"] (spInit T.C_InvalidText "thing") := by
  refine T.FI_InvalidText.ok sc_InvalidText_init (fun vs H Q E h => ?_) (fun cdv A outer s H vs Q E hr h => ?_)
  · obtain ⟨x, d, rfl, _⟩ := h
    rfl
  · obtain ⟨a, y, rfl, ha, q⟩ := h
    refine ⟨_, (pss_one (ps_ost (pv 0) (pv 1))), ?_⟩
    apply k_ost
    walk_at "kk"
    exact ⟨a, _, rfl, T.x_InvalidText, T.n_InvalidText_thing, .inl ⟨ha, q⟩⟩
theorem ok_InvalidConditions_init (T : Txt K mg) : FnOk P w K mg base CX0 1 T.aI_InvalidConditions T.fdI_InvalidConditions ["self", "place"] (spInit T.C_InvalidConditions "place") := by
  refine T.FI_InvalidConditions.ok sc_InvalidConditions_init (fun vs H Q E h => ?_) (fun cdv A outer s H vs Q E hr h => ?_)
  · obtain ⟨x, d, rfl, _⟩ := h
    rfl
  · obtain ⟨a, y, rfl, ha, q⟩ := h
    refine ⟨_, (pss_one (ps_ost (pv 0) (pv 1))), ?_⟩
    apply k_ost
    walk_at "kk"
    exact ⟨a, _, rfl, T.x_InvalidConditions, T.n_InvalidConditions_place, .inl ⟨ha, q⟩⟩
theorem ok_InvalidRules_init (T : Txt K mg) : FnOk P w K mg base CX0 1 T.aI_InvalidRules T.fdI_InvalidRules ["self", "place"] (spInit T.C_InvalidRules "place") := by
  refine T.FI_InvalidRules.ok sc_InvalidRules_init (fun vs H Q E h => ?_) (fun cdv A outer s H vs Q E hr h => ?_)
  · obtain ⟨x, d, rfl, _⟩ := h
    rfl
  · obtain ⟨a, y, rfl, ha, q⟩ := h
    refine ⟨_, (pss_one (ps_ost (pv 0) (pv 1))), ?_⟩
    apply k_ost
    walk_at "kk"
    exact ⟨a, _, rfl, T.x_InvalidRules, T.n_InvalidRules_place, .inl ⟨ha, q⟩⟩
theorem ok_InvalidMode_init (T : Txt K mg) : FnOk P w K mg base CX0 1 T.aI_InvalidMode T.fdI_InvalidMode ["self", "thing"] (spInit T.C_InvalidMode "thing") := by
  refine T.FI_InvalidMode.ok sc_InvalidMode_init (fun vs H Q E h => ?_) (fun cdv A outer s H vs Q E hr h => ?_)
  · obtain ⟨x, d, rfl, _⟩ := h
    rfl
  · obtain ⟨a, y, rfl, ha, q⟩ := h
    refine ⟨_, (pss_one (ps_ost (pv 0) (pv 1))), ?_⟩
    apply k_ost
    walk_at "kk"
    exact ⟨a, _, rfl, T.x_InvalidMode, T.n_InvalidMode_thing, .inl ⟨ha, q⟩⟩
theorem ok_SameEnding_init (T : Txt K mg) : FnOk P w K mg base CX0 1 T.aI_SameEnding T.fdI_SameEnding ["self", "ending"] (spInit T.C_SameEnding "ending") := by
  refine T.FI_SameEnding.ok sc_SameEnding_init (fun vs H Q E h => ?_) (fun cdv A outer s H vs Q E hr h => ?_)
  · obtain ⟨x, d, rfl, _⟩ := h
    rfl
  · obtain ⟨a, y, rfl, ha, q⟩ := h
    refine ⟨_, (pss_one (ps_ost (pv 0) (pv 1))), ?_⟩
    apply k_ost
    walk_at "kk"
    exact ⟨a, _, rfl, T.x_SameEnding, T.n_SameEnding_ending, .inl ⟨ha, q⟩⟩
def spIsList (K : PySem.W.Frag) : Sp := fun vs H Q _ => ∃ (v : V) (t : Value) (b : Bool), vs = [v] ∧ TyX K H v t ∧ PySem.W.kitAny K t (["list", "tuple"].map Value.type) = some b ∧ ∀ H', Same H H' → Q (.bl b) H'
theorem ok_is_list (T : Txt K mg) : FnOk P w K mg base CX0 1 T.a_is_list T.fd_is_list ["thing"] (spIsList K) := by
  refine T.F_is_list.ok sc_is_list (fun vs H Q E h => ?_) (fun cdv A outer s H vs Q E hr h => ?_)
  · obtain ⟨v, t, b, rfl, _⟩ := h
    rfl
  · obtain ⟨v, t, b, rfl, ty, e, q⟩ := h
    refine ⟨_, (pss_one (ps_ret (pe_callB (isiTK K) (by rfl) T.z_isinstance B_isinstance (pa_cons (pv 0) (pa_cons (pe_tup (pa_cons (pe_bltn (v := .ty "list") (by rfl) T.z_list B_list (by rfl)) (pa_cons (pe_bltn (v := .ty "tuple") (by rfl) T.z_tuple B_tuple (by rfl)) pa_nil))) pa_nil))))), ?_⟩
    walk_at "kk"
    intro p hp
    exact k_isiT2 (ns := ["list", "tuple"]) (ty.up (same_new hp)) upd_same e (q _ (same_new hp))
def isWordOf (d : PyData) (y : Str) : Bool := isTextOf d y && (match d with
  | .str x => decide (0 < x.length)
  | _ => false)
def spWordOf (K : PySem.W.Frag) : Sp := fun vs H Q _ => ∃ (v : V) (d : PyData) (y : Str), vs = [v, .str y] ∧ Th K H v d ∧ szd d ∧ ∀ H', Same H H' → Q (.bl (isWordOf d y)) H'
theorem ok_is_word_of (T : Txt K mg) : FnOk P w K mg base CX0 2 T.a_is_word_of T.fd_is_word_of ["thing", "letters"] (spWordOf K) := by
  refine T.F_is_word_of.ok sc_is_word_of (fun vs H Q E h => ?_) (fun cdv A outer s H vs Q E hr h => ?_)
  · obtain ⟨x, d, y, rfl, _⟩ := h
    rfl
  · obtain ⟨v, d, y, rfl, ht, hz, q⟩ := h
    refine ⟨_, (pss_one (ps_ret (pe_and (pe_call (ok_is_text_of T) (hr.mono (by decide)) (by rfl) T.m_is_text_of T.F_is_text_of.kp T.b_is_text_of .nil pass0 (pa_cons (pv 0) (pa_cons (pv 1) pa_nil))) (pe_one (pe_cmpR op_gtA (pe_callB (lenK K) (by rfl) T.z_len B_len (pa_cons (pv 0) pa_nil)) pe_int (nomark _)))))), ?_⟩
    walk_at "kk"
    refine ⟨v, d, y, rfl, ht, hz, fun H1 s1 => ?_⟩
    walk_at "kk"
    refine k_ite (fun hb => ?_) (fun hb => ?_)
    · cases d <;> try (cases hb)
      rename_i x
      rcases ht with ht | ⟨a, kvs, _, _, e⟩
      · cases ht
        have hz : x.length ≤ 50000 := hz
        walk_at "kk"
        have e : isWordOf (.str x) y = decide ((0 : Int) < (x.length : Int)) := by
          show (isTextOf (.str x) y && decide (0 < x.length)) = _
          rw [hb, Bool.true_and]
          exact decide_eq_decide.mpr (by omega)
        rw [← e]
        exact q _ s1
      · cases e
    · have e : isWordOf d y = false := by unfold isWordOf; rw [hb]; rfl
      rw [← e]
      exact q _ s1
/-- the mode is one -/
def isMode (d : PyData) : Bool := [PyData.str "longest", .str "first"].any fun z => PyData.eqv z d
def spMode (T : Txt K mg) : Sp := fun vs H Q E => ∃ (v : V) (d : PyData), vs = [v] ∧ Dp K H v d ∧ SeqAt.shaped d = true ∧ ((isMode d = true ∧ ∀ H', Same H H' → Q .non H') ∨ (isMode d = false ∧ ∀ H' dd, Same H H' → H' dd = some (.xd [("thing", v)]) → E (.ref T.C_InvalidMode) (some dd) H'))
theorem ok_check_mode (T : Txt K mg) : FnOk P w K mg base (L2.CX P w) 3 T.a_check_mode T.fd_check_mode ["mode"] (spMode T) := by
  refine T.F_check_mode.okX sc_check_mode (fun vs H Q E h => ?_) (fun cdv A outer s H vs Q E hr h => ?_)
  · obtain ⟨v, d, rfl, _⟩ := h
    rfl
  · obtain ⟨v, d, rfl, hv, hs, q⟩ := h
    refine ⟨_, (pss_one (ps_if (pt_cmpR (notInTK K hr) (pv 0) (pe_tup (pa_cons pe_str (pa_cons pe_str pa_nil))) (by rfl)) (pss_one (ps_raise rfl (takes_of rfl rfl rfl rfl) (pmk_oex T.x_InvalidMode T.i_InvalidMode T.t_InvalidMode (ok_InvalidMode_init T) (hr.mono (by decide)) T.bI_InvalidMode .nil pass0 (by rfl) T.mc_InvalidMode (pa_cons (pv 0) pa_nil)))) pss_nil)), ?_⟩
    walk_at "kk"
    intro p hp
    apply k_rv
    · exact rv_notInTD (hv.up (same_new hp)) (.tup (Evl.st_of upd_same) (.cons (.str _) (.cons (.str _) .nil))) hs (by decide +kernel)
    walk_at "kk"
    rcases q with ⟨e, q⟩ | ⟨e, q⟩
    · rw [show ([PyData.str "longest", .str "first"].any fun z => PyData.eqv z d) = true from e]
      refine k_ite (fun hb => by cases hb) (fun _ => ?_)
      walk_at "kk"
      exact q _ (same_new hp)
    · rw [show ([PyData.str "longest", .str "first"].any fun z => PyData.eqv z d) = false from e]
      refine k_ite (fun _ => ?_) (fun hb => by cases hb)
      exact k_mkV rfl fun H2 dd s2 e2 => q H2 dd ((same_new hp).trans s2) e2
/-- all are conditions, or the first that is none -/
def condR (T : Txt K mg) (v : V) (H : Hp) (N : Hp → Prop) (E : XK) : Prop :=
  (∃ d, Th K H v d ∧ PySem.W.kitAny K (.type (tyName d)) (["list", "tuple"].map Value.type) = some false ∧ ∀ H' dd, Same H H' → H' dd = some (.xd [("place", .non)]) → E (.ref T.C_InvalidConditions) (some dd) H') ∨
  (∃ (a : Addr) (t : Bool) (xs : List V) (ds : List PyData), v = .ref a ∧ SqB K t H a xs ∧ ds.length = xs.length ∧ xs.length ≤ 50000 ∧ (∀ (i : Nat) (x : V), xs[i]? = some x → ∃ d, ds[i]? = some d ∧ Th K H x d ∧ shT d ∧ szc2 d) ∧
    ((∀ d ∈ ds, isCd d = true) → ∀ H', Same H H' → N H') ∧
    (∀ (i : Nat) d, ds[i]? = some d → isCd d = false → (∀ (j : Nat) d', j < i → ds[j]? = some d' → isCd d' = true) → ∀ H' dd, Same H H' → H' dd = some (.xd [("place", .int (i : Nat))]) → E (.ref T.C_InvalidConditions) (some dd) H'))
theorem kit_lt (K : PySem.W.Frag) (t : Bool) : PySem.W.kitAny K (.type (if t then "tuple" else "list")) (["list", "tuple"].map Value.type) = some true := by
  cases t with
  | false => exact kitAny_cons (b := true) (kit_ty (by decide +kernel)) (fun z => by cases z) fun _ => rfl
  | true => exact kitAny_cons (b := false) (kit_ty (by decide +kernel)) (fun _ => kitAny_cons (b := true) (kit_ty (by decide +kernel)) (fun z => by cases z) fun _ => rfl) fun z => by cases z
theorem ok_check_conditions (T : Txt K mg) : FnOk P w K mg base (L2.CX P w) 4 T.a_check_conditions T.fd_check_conditions ["conditions"] (fun vs H Q E => ∃ v, vs = [v] ∧ condR T v H (Q .non) E) := by
  refine T.F_check_conditions.okX sc_check_conditions (fun vs H Q E h => ?_) (fun cdv A outer s H vs Q E hr h => ?_)
  · obtain ⟨v, rfl, _⟩ := h
    rfl
  · obtain ⟨v, rfl, h⟩ := h
    refine ⟨_, (pss_cons (ps_if (pt_not (pt_val (pe_call (ok_is_list T) (hr.mono (by decide)) (by rfl) T.m_is_list T.F_is_list.kp T.b_is_list .nil pass0 (pa_cons (pv 0) pa_nil)))) (pss_one (ps_raise rfl (takes_of rfl rfl rfl rfl) (pmk_oex T.x_InvalidConditions T.i_InvalidConditions T.t_InvalidConditions (ok_InvalidConditions_init T) (hr.mono (by decide)) T.bI_InvalidConditions .nil pass0 (by rfl) T.mc_InvalidConditions (pa_cons pe_non pa_nil)))) pss_nil)
      (pss_one (ps_for (passes_of rfl) rfl (enumK K (by rfl) T.z_enumerate (pa_cons (pv 0) pa_nil)) (tupleK K (n := 2) rfl (pgs_cons (pg_name (i := 1) sc_check_conditions.nd rfl (Or.inl rfl)) (pgs_cons (pg_name (i := 2) sc_check_conditions.nd rfl (Or.inl rfl)) pgs_nil))) (pss_one (ps_if (pt_not (pt_val (pe_call (ok_is_condition T) (hr.mono (by decide)) (by rfl) T.m_is_condition T.F_is_condition.kp T.b_is_condition .nil pass0 (pa_cons (pv 2) pa_nil)))) (pss_one (ps_raise rfl (takes_of rfl rfl rfl rfl) (pmk_oex T.x_InvalidConditions T.i_InvalidConditions T.t_InvalidConditions (ok_InvalidConditions_init T) (hr.mono (by decide)) T.bI_InvalidConditions .nil pass0 (by rfl) T.mc_InvalidConditions (pa_cons (pv 1) pa_nil)))) pss_nil))))), ?_⟩
    walk_at "kk"
    rcases h with ⟨d, hv, e, q⟩ | ⟨a, t, xs, ds, rfl, hx, hdl, hl, hd, q1, q2⟩
    · refine ⟨v, _, false, rfl, hv.ty, e, fun H1 s1 => ?_⟩
      walk_at "kk"
      exact k_mkC fun H2 dd s2 e2 => q H2 dd (s1.trans s2) e2
    · refine ⟨.ref a, _, true, rfl, hx.ty, kit_lt K t, fun H1 s1 => ?_⟩
      walk_at "kk"
      refine k_onEB (hx.up s1) ?_
      refine for_go (walk_eB (xs := xs)) (fun i σ H' => Same H H' ∧ (∀ (j : Nat) d', j < i → ds[j]? = some d' → isCd d' = true) ∧ ∃ y1 y2, σ = [some (.ref a), y1, y2]) ⟨s1, (fun j d' hj => (nomatch hj)), none, none, rfl⟩ (fun i σ H' _ iv => hx.up iv.1) (fun i x σ Ha Hb hi iv hy => ?_) (fun σ H' iv => ?_)
      · obtain ⟨s2, good, y1, y2, rfl⟩ := iv
        obtain ⟨p, rfl, hp, rfl⟩ := hy
        obtain ⟨d, ed, th, sh, sz⟩ := hd i (xs.getD i .non) (by rw [List.getD_eq_getElem?_getD, List.getElem?_eq_getElem hi]; rfl)
        have s3 := s2.trans (same_new (o := .tup [.int (i : Nat), xs.getD i .non]) hp)
        refine k_unp2 (Evl.st_of upd_same) ?_
        walk_at "kk"
        refine ⟨_, d, rfl, th.up s3, sh, sz, fun H4 s4 => ?_⟩
        walk_at "kk"
        have s5 := s3.trans s4
        cases hc : isCd d with
        | true =>
          refine k_ite (fun hb => by cases hb) (fun _ => ?_)
          walk_at "kk"
          refine ⟨s5, fun j d' hj e => ?_, _, _, rfl⟩
          rcases Nat.lt_succ_iff_lt_or_eq.mp hj with hj | rfl
          · exact good j d' hj e
          · rw [ed] at e
            cases Option.some.inj e
            exact hc
        | false =>
          refine k_ite (fun _ => ?_) (fun hb => by cases hb)
          exact k_mkV rfl fun H6 dd s6 e6 => q2 i d ed hc good H6 dd (s5.trans s6) e6
      · obtain ⟨s2, good, y1, y2, rfl⟩ := iv
        refine q1 (fun d hd' => ?_) _ s2
        obtain ⟨j, hj⟩ := List.getElem?_of_mem hd'
        have lt := (List.getElem?_eq_some_iff.mp hj).1
        exact good j d (by omega) hj
end
end K02
set_option Elab.async false
set_option linter.all false
set_option maxRecDepth 100000
set_option maxHeartbeats 4000000
namespace K02
open PySem PySem.Spec PyProof.Rows L2 TL Mi
/-! ### short words -/
local macro_rules | `(tactic| walk_at "idx") => `(tactic| first | assumption | exact Evl.sq_of (by assumption) | exact Evl.st_of (by assumption) | exact Evl.sq_of upd_same | exact Evl.st_of upd_same)
local macro_rules | `(tactic| walk_at "side") => `(tactic| first | omega | exact Or.inl ⟨by omega, by omega⟩ | exact Or.inr ⟨by omega, by omega⟩ | exact ⟨by omega, by omega⟩ | decide +kernel)
local macro_rules | `(tactic| walk_at "div") => `(tactic| exact wide_div (b := 30) (by omega) (by omega) (by decide) (by decide))
local macro_rules | `(tactic| walk_at "pow") => `(tactic| exact ⟨by decide +kernel, by decide +kernel, by decide +kernel⟩)
local macro_rules | `(tactic| walk_at "rv") => `(tactic| first
  | with_reducible exact rv_addI | with_reducible exact rv_sub | with_reducible exact rv_lt | with_reducible exact rv_le | with_reducible exact rv_gt | with_reducible exact rv_ge
  | with_reducible exact rv_inC | with_reducible exact rv_notInC | with_reducible exact rv_isB
  | (with_reducible apply rv_mul
     walk_at "side")
  | (with_reducible apply rv_mod
     walk_at "side")
  | (with_reducible apply rv_div
     walk_at "div")
  | (with_reducible apply rv_pow
     walk_at "pow")
  | (with_reducible apply rv_eq
     exact rfl)
  | (with_reducible apply rv_ne
     exact rfl)
  | (with_reducible apply rv_ixL
     · walk_at "idx"
     · exact rfl)
  | (with_reducible apply rv_ixT
     · walk_at "idx"
     · exact rfl)
  | (with_reducible apply rv_ixS
     · walk_at "side"
     · exact rfl)
  | (with_reducible apply rv_addS
     walk_at "side"))
local macro_rules | `(tactic| walk_at "val") => `(tactic| first
  | with_reducible exact val_c | exact val_c
  | (with_reducible apply val_var
     exact rfl)
  | (with_reducible apply val_bin
     · walk_at "val"
     · walk_at "val"
     · walk_at "rv")
  | (with_reducible apply val_int1
     walk_at "val")
  | (with_reducible apply val_max2
     · walk_at "val"
     · walk_at "val")
  | (with_reducible apply val_min2
     · walk_at "val"
     · walk_at "val")
  | (with_reducible apply val_endsw
     · walk_at "val"
     · walk_at "val")
  | (with_reducible apply val_lenS
     · walk_at "val"
     · walk_at "side")
  | (with_reducible apply val_lenL
     · walk_at "val"
     · walk_at "idx")
  | (with_reducible apply val_lenT
     · walk_at "val"
     · walk_at "idx")
  | (with_reducible apply val_notV
     walk_at "val"))
local macro_rules | `(tactic| walk_at "ans") => `(tactic| first
  | (with_reducible apply ans_T
     walk_at "val")
  | (with_reducible apply ans_B
     walk_at "val")
  | (with_reducible apply ans_not
     walk_at "ans"))
local macro_rules | `(tactic| walk_at "ifp") => `(tactic| first
  | (with_reducible refine Eq.mpr (if_pos ?_) ?_
     · decide +kernel)
  | (with_reducible refine Eq.mpr (if_neg ?_) ?_
     · decide +kernel))
local macro_rules | `(tactic| walk_at "k") => `(tactic| first
  | with_reducible apply k_seq | with_reducible apply k_asg | with_reducible apply k_ret | with_reducible apply k_ifS | with_reducible apply k_drop | with_reducible apply k_name
  | (with_reducible apply k_var
     · exact rfl)
  | with_reducible apply k_c
  | with_reducible apply k_op | with_reducible apply k_cb | with_reducible apply k_call | with_reducible apply k_cons | with_reducible apply k_nil | with_reducible apply k_tup | with_reducible apply k_lst
  | with_reducible apply k_ifE | with_reducible apply k_test | with_reducible apply k_tb | with_reducible apply k_not | with_reducible apply k_and | with_reducible apply k_or | with_reducible apply k_bl
  | with_reducible apply k_sl | with_reducible apply k_part | with_reducible apply k_isI | with_reducible apply k_nopart
  | with_reducible apply k_lcZS | with_reducible apply k_onZS | with_reducible apply k_un | with_reducible apply k_neg
  | with_reducible apply k_forEB | with_reducible apply k_forSB | with_reducible apply k_lcSB | with_reducible apply k_fld | with_reducible apply k_prop | with_reducible apply k_sfld | with_reducible apply k_make | with_reducible apply k_makeK | with_reducible apply k_mkO
  | with_reducible apply k_lcS | with_reducible apply k_lcR | with_reducible apply k_lcL | with_reducible apply k_lcT | with_reducible apply k_forS | with_reducible apply k_forR | with_reducible apply k_forL | with_reducible apply k_forT | with_reducible apply k_onS | with_reducible apply k_yes
  | (with_reducible apply k_augC
     · exact rfl)
  | with_reducible apply k_next | with_reducible apply k_eqInt | with_reducible apply k_neInt | with_reducible apply k_eqStr | with_reducible apply k_neStr
  | with_reducible apply k_andV | with_reducible apply k_orV | with_reducible apply k_notV
  | with_reducible apply k_m1 | with_reducible apply k_onStr | with_reducible apply k_endsw
  | (with_reducible apply k_slS
     · walk_at "side")
  | (with_reducible apply k_newT
     · walk_at "len")
  | (with_reducible apply k_newL
     · walk_at "len")
  | with_reducible apply k_int1 | with_reducible apply k_max2 | with_reducible apply k_min2
  | (with_reducible apply k_lenS
     · walk_at "side")
  | (with_reducible apply k_lenL
     · walk_at "idx")
  | (with_reducible apply k_lenT
     · walk_at "idx")
  | (with_reducible apply k_rv
     · walk_at "rv")
  | walk_at "ifp")
local macro_rules | `(tactic| walk_at "kk") => `(tactic| (repeat (walk_at "k")))
local macro_rules | `(tactic| walk_at "len") => `(tactic| first | exact (by decide : (1:Nat) ≤ 100000) | exact (by decide : (2:Nat) ≤ 100000) | exact (by decide : (3:Nat) ≤ 100000) | exact (by decide : (4:Nat) ≤ 100000) | exact (by decide : (7:Nat) ≤ 100000) | (simp only [List.length_cons, List.length_nil]; omega) | omega)
local macro_rules | `(tactic| walk_at "up") => `(tactic| first
  | assumption
  | (refine Dq.up ?_ (Gr.new (by assumption))
     walk_at "up")
  | (refine Dq.up ?_ (by assumption)
     walk_at "up"))

section
variable {P : Program} {w : World} {K : PySem.W.Frag} {mg : Str → Option Value} {base : Heap}
def alph : Str := "abcdefghijklmnopqrstuvwxyz"
def spRule (T : Txt K mg) : Sp := fun vs H Q E => ∃ (a dx : Addr) (e p c : V) (de dp : PyData), vs = [.ref a, e, p, c] ∧ H a = some (.ins T.C_Rule dx []) ∧ Th K H e de ∧ szd de ∧ Th K H p dp ∧ szd dp ∧
  ((isWordOf de alph = false ∧ ∀ H' dd, Same H H' → H' dd = some (.xd [("thing", e)]) → E (.ref T.C_InvalidText) (some dd) H') ∨
   isWordOf de alph = true ∧ ((isTextOf dp alph = false ∧ ∀ H' dd, Same H H' → H' dd = some (.xd [("thing", p)]) → E (.ref T.C_InvalidText) (some dd) H') ∨
     isTextOf dp alph = true ∧ (condR T c H (fun _ => False) E ∨
       ∃ (se sp : Str) (cs : List Cond) (ca : Addr) (t : Bool) (xs : List V), de = .str se ∧ dp = .str sp ∧ c = .ref ca ∧ SqB K t H ca xs ∧ DpAll K H xs (cs.map enc) ∧ cs.length ≤ 50000 ∧ (∀ c ∈ cs, Fit c) ∧
         ∀ H', Gr [a] H H' → RuA K T.C_Rule H' (.ref a) ⟨se, sp, cs⟩ → Q .non H')))
theorem ok_Rule_init (T : Txt K mg) : FnOk P w K mg base (L2.CX P w) 5 T.aM_Rule_init T.fdM_Rule_init ["self", "ending", "put", "conditions"] (spRule T) := by
  refine T.FM_Rule_init.okX sc_Rule_init (fun vs H Q E h => ?_) (fun cdv A outer s H vs Q E hr h => ?_)
  · obtain ⟨a, dx, e, p, c, de, dp, rfl, _⟩ := h
    rfl
  · obtain ⟨a, dx, e, p, c, de, dp, rfl, ha, he, ze, hp, zp, h⟩ := h
    refine ⟨_, (pss_cons (ps_if (pt_not (pt_val (pe_call (ok_is_word_of T) (hr.mono (by decide)) (by rfl) T.m_is_word_of T.F_is_word_of.kp T.b_is_word_of .nil pass0 (pa_cons (pv 1) (pa_cons (C8.pe_gc (by rfl) T.c_ALPHABET) pa_nil))))) (pss_one (ps_raise rfl (takes_of rfl rfl rfl rfl) (pmk_oex T.x_InvalidText T.i_InvalidText T.t_InvalidText (ok_InvalidText_init T) (hr.mono (by decide)) T.bI_InvalidText .nil pass0 (by rfl) T.mc_InvalidText (pa_cons (pv 1) pa_nil)))) pss_nil)
      (pss_cons (ps_if (pt_not (pt_val (pe_call (ok_is_text_of T) (hr.mono (by decide)) (by rfl) T.m_is_text_of T.F_is_text_of.kp T.b_is_text_of .nil pass0 (pa_cons (pv 2) (pa_cons (C8.pe_gc (by rfl) T.c_ALPHABET) pa_nil))))) (pss_one (ps_raise rfl (takes_of rfl rfl rfl rfl) (pmk_oex T.x_InvalidText T.i_InvalidText T.t_InvalidText (ok_InvalidText_init T) (hr.mono (by decide)) T.bI_InvalidText .nil pass0 (by rfl) T.mc_InvalidText (pa_cons (pv 2) pa_nil)))) pss_nil)
      (pss_cons (ps_expr (pe_call (ok_check_conditions T) (hr.mono (by decide)) (by rfl) T.m_check_conditions T.F_check_conditions.kp T.b_check_conditions .nil (passes_call (takes_of rfl rfl rfl rfl) (fun _ _ _ _ h => h)) (pa_cons (pv 3) pa_nil)))
      (pss_cons (ps_fld (pv 0) (pv 1) rfl)
      (pss_cons (ps_fld (pv 0) (pv 2) rfl)
      (pss_one (ps_fld (pv 0) (pe_callTy (tupK K) (by rfl) T.z_tuple B_tuple (pa_cons (pv 3) pa_nil)) rfl))))))), ?_⟩
    walk_at "kk"
    refine ⟨e, de, _, rfl, he, ze, fun H1 s1 => ?_⟩
    walk_at "kk"
    rcases h with ⟨b, q⟩ | ⟨b, h⟩
    · rw [show isWordOf de "abcdefghijklmnopqrstuvwxyz" = false from b]
      refine k_ite (fun _ => ?_) (fun hb => by cases hb)
      exact k_mkV rfl fun H2 dd s2 e2 => q H2 dd (s1.trans s2) e2
    rw [show isWordOf de "abcdefghijklmnopqrstuvwxyz" = true from b]
    refine k_ite (fun hb => by cases hb) (fun _ => ?_)
    walk_at "kk"
    refine ⟨p, dp, _, rfl, hp.up s1, zp, fun H2 s2 => ?_⟩
    walk_at "kk"
    have u2 := s1.trans s2
    rcases h with ⟨b, q⟩ | ⟨b, h⟩
    · rw [show isTextOf dp "abcdefghijklmnopqrstuvwxyz" = false from b]
      refine k_ite (fun _ => ?_) (fun hb => by cases hb)
      exact k_mkV rfl fun H3 dd s3 e3 => q H3 dd (u2.trans s3) e3
    rw [show isTextOf dp "abcdefghijklmnopqrstuvwxyz" = true from b]
    refine k_ite (fun hb => by cases hb) (fun _ => ?_)
    walk_at "kk"
    rcases h with h | ⟨se, sp, cs, ca, t, xs, rfl, rfl, rfl, hx, hd, hl, ft, q⟩
    · refine ⟨c, rfl, ?_⟩
      rcases h with ⟨d, th, nk, q⟩ | ⟨ca, t, xs, ds, rfl, hx, hl1, hl2, hd, q1, q2⟩
      · exact .inl ⟨d, th.up u2, nk, fun H3 dd s3 e3 => q H3 dd (u2.trans s3) e3⟩
      · exact .inr ⟨ca, t, xs, ds, rfl, hx.up u2, hl1, hl2, fun i x e => (by obtain ⟨d, z, th, r⟩ := hd i x e; exact ⟨d, z, th.up u2, r⟩), fun all H3 s3 => (q1 all H3 (u2.trans s3)).elim, fun i d z b g H3 dd s3 e3 => q2 i d z b g H3 dd (u2.trans s3) e3⟩
    · refine ⟨.ref ca, rfl, .inr ⟨ca, t, xs, cs.map enc, rfl, hx.up u2, by rw [hd.len], by rw [hd.len, List.length_map]; exact hl, fun i x e => ?_, fun all H3 s3 => ?_, fun i d z b g H3 dd s3 e3 => ?_⟩⟩
      · have lt := (List.getElem?_eq_some_iff.mp e).1
        have lc : i < cs.length := by
          rw [hd.len, List.length_map] at lt
          exact lt
        obtain ⟨v, hv, dv⟩ := DpAll.get hd (i := i) (d := enc cs[i]) (by rw [List.getElem?_map, List.getElem?_eq_getElem lc]; rfl)
        rw [e] at hv
        cases Option.some.inj hv
        have f := ft _ (List.getElem_mem lc)
        exact ⟨_, by rw [List.getElem?_map, List.getElem?_eq_getElem lc]; rfl, .inl (dv.up u2), f.sh, f.s2⟩
      · have u3 := u2.trans s3
        have ea : H3 a = some (.ins T.C_Rule dx []) := u3 _ _ ha
        rcases he with he | ⟨_, _, _, _, z⟩
        rotate_left
        · cases z
        rcases hp with hp | ⟨_, _, _, _, z⟩
        rotate_left
        · cases z
        cases he
        cases hp
        walk_at "kk"
        refine k_fldP ea T.cl_Rule T.n_Rule_ending (by decide) ?_
        rw [put_rF1]
        walk_at "kk"
        refine k_fldP upd_same T.cl_Rule T.n_Rule_put (by simp) ?_
        rw [put_rF2]
        walk_at "kk"
        have z4 : SamD H (upd (upd H3 a (.ins T.C_Rule dx (rF1 se))) a (.ins T.C_Rule dx (rF2 se sp))) := (SamD.of u3).trans ((SamD.mut ea rfl).trans (SamD.mut upd_same rfl))
        have g4 : Gr [a] H (upd (upd H3 a (.ins T.C_Rule dx (rF1 se))) a (.ins T.C_Rule dx (rF2 se sp))) := (Gr.of u3).trans ((Gr.mut (by simp)).trans (Gr.mut (by simp)))
        refine k_tupB (hx.upD z4) fun l H5 s5 hl5 => ?_
        have ea5 := s5 a _ upd_same
        walk_at "kk"
        refine k_fldP ea5 T.cl_Rule T.n_Rule_conditions (by simp) ?_
        rw [put_rF3]
        have z6 : SamD H5 (upd H5 a (.ins T.C_Rule dx (rF3 se sp l))) := SamD.mut ea5 rfl
        refine q _ (g4.trans ((Gr.of s5).trans (Gr.mut (by simp)))) ⟨a, dx, _, l, xs, rfl, upd_same, (look_rF se sp l).1, (look_rF se sp l).2.1, (look_rF se sp l).2.2, hl5.upD z6, DpAll.upD z6 (DpAll.up s5 (DpAll.upD z4 hd))⟩
      · obtain ⟨c, hc, rfl⟩ := List.mem_map.mp (List.mem_of_getElem? z)
        rw [(ft c hc).cd] at b
        cases b
/-! what a rule tells of itself -/
theorem ok_Rule_ending (T : Txt K mg) : FnOk P w K mg base CX0 1 T.aM_Rule_ending T.fdM_Rule_ending ["self"] (getSp T.C_Rule "_ending") := by
  refine T.FM_Rule_ending.ok sc_Rule_ending (fun vs H Q E h => ?_) (fun cdv A outer s H vs Q E hr h => ?_)
  · obtain ⟨a, dx, fs, v, rfl, _⟩ := h
    rfl
  · obtain ⟨a, dx, fs, v, rfl, ha, l, q⟩ := h
    refine ⟨_, (pss_one (ps_ret (fldK K (pv 0)))), ?_⟩
    walk_at "kk"
    exact k_fldR ha T.cl_Rule T.n_Rule_ending l q
theorem ok_Rule_put (T : Txt K mg) : FnOk P w K mg base CX0 1 T.aM_Rule_put T.fdM_Rule_put ["self"] (getSp T.C_Rule "_put") := by
  refine T.FM_Rule_put.ok sc_Rule_put (fun vs H Q E h => ?_) (fun cdv A outer s H vs Q E hr h => ?_)
  · obtain ⟨a, dx, fs, v, rfl, _⟩ := h
    rfl
  · obtain ⟨a, dx, fs, v, rfl, ha, l, q⟩ := h
    refine ⟨_, (pss_one (ps_ret (fldK K (pv 0)))), ?_⟩
    walk_at "kk"
    exact k_fldR ha T.cl_Rule T.n_Rule_put l q
theorem ok_Rule_conditions (T : Txt K mg) : FnOk P w K mg base CX0 1 T.aM_Rule_conditions T.fdM_Rule_conditions ["self"] (getSp T.C_Rule "_conditions") := by
  refine T.FM_Rule_conditions.ok sc_Rule_conditions (fun vs H Q E h => ?_) (fun cdv A outer s H vs Q E hr h => ?_)
  · obtain ⟨a, dx, fs, v, rfl, _⟩ := h
    rfl
  · obtain ⟨a, dx, fs, v, rfl, ha, l, q⟩ := h
    refine ⟨_, (pss_one (ps_ret (fldK K (pv 0)))), ?_⟩
    walk_at "kk"
    exact k_fldR ha T.cl_Rule T.n_Rule_conditions l q
theorem ok_Rule_eq (T : Txt K mg) : FnOk P w K mg base CX0 1 T.aM_Rule_eq T.fdM_Rule_eq ["self", "other"] (spOwnEq (reqR K T.C_Rule)) := by
  refine T.FM_Rule_eq.ok sc_Rule_eq (fun vs H Q E h => ?_) (fun cdv A outer s H vs Q E hr h => ?_)
  · obtain ⟨x, y, b, rfl, _⟩ := h
    rfl
  · obtain ⟨x, y, b, rfl, ⟨r, hx, sx, h⟩, q⟩ := h
    refine ⟨_, (pss_one (ps_ret (pe_and (pe_callB (isiK K) (by rfl) T.z_isinstance B_isinstance (pa_cons (pv 1) (pa_cons (C8.pe_gc (v := .ref T.C_Rule) (by rfl) ⟨_, T.mc_Rule, rfl⟩) pa_nil))) (pe_and (pe_cmpR (eqK K hr) (fldK K (pv 0)) (fldK K (pv 1)) (nomark _)) (pe_and (pe_cmpR (eqK K hr) (fldK K (pv 0)) (fldK K (pv 1)) (nomark _)) (pe_one (pe_cmpR (eqK K hr) (fldK K (pv 0)) (fldK K (pv 1)) (nomark _)))))))), ?_⟩
    obtain ⟨a, dx, fs, t, xs, rfl, ha, l1, l2, l3, ht, hd⟩ := hx
    walk_at "kk"
    rcases h with ⟨r', hy, sy, ob, rfl⟩ | ⟨ob, rfl⟩
    · refine k_ob ob ?_
      obtain ⟨a', dx', fs', t', xs', rfl, ha', m1, m2, m3, ht', hd'⟩ := hy
      walk_at "kk"
      refine k_fldR ha T.cl_Rule T.n_Rule_ending l1 ?_
      walk_at "kk"
      refine k_fldR ha' T.cl_Rule T.n_Rule_ending m1 ?_
      walk_at "kk"
      have e : reqv r r' = (r.e == r'.e && (r.p == r'.p && (PyData.eqv (encs r.cs) (encs r'.cs) && true))) := rfl
      rw [e] at q
      refine k_ite (fun hb => ?_) (fun hb => ?_)
      · have hb := of_decide_eq_true hb
        walk_at "kk"
        refine k_fldR ha T.cl_Rule T.n_Rule_put l2 ?_
        walk_at "kk"
        refine k_fldR ha' T.cl_Rule T.n_Rule_put m2 ?_
        walk_at "kk"
        refine k_ite (fun hb2 => ?_) (fun hb2 => ?_)
        · have hb2 := of_decide_eq_true hb2
          walk_at "kk"
          refine k_fldR ha T.cl_Rule T.n_Rule_conditions l3 ?_
          walk_at "kk"
          refine k_fldR ha' T.cl_Rule T.n_Rule_conditions m3 ?_
          walk_at "kk"
          apply k_rv
          · exact rv_eqD (.tup ht hd) (.tup ht' hd') sx sy
          rw [hb, hb2] at q
          simp only [beq_self_eq_true, Bool.true_and, Bool.and_true] at q
          exact q _ Ext.rfl'
        · have hb2 := of_decide_eq_false hb2
          have z : (r.p == r'.p) = false := by simpa using hb2
          rw [z] at q
          simpa using q _ Ext.rfl'
      · have hb := of_decide_eq_false hb
        have z : (r.e == r'.e) = false := by simpa using hb
        rw [z] at q
        simpa using q _ Ext.rfl'
    · refine k_ob ob ?_
      walk_at "kk"
      exact q _ Ext.rfl'
end
end K02
set_option Elab.async false
set_option linter.all false
set_option maxRecDepth 100000
set_option maxHeartbeats 4000000
namespace K02
open PySem PySem.Spec PyProof.Rows L2 TL Mi
/-! ### short words -/
local macro_rules | `(tactic| walk_at "idx") => `(tactic| first | assumption | exact Evl.sq_of (by assumption) | exact Evl.st_of (by assumption) | exact Evl.sq_of upd_same | exact Evl.st_of upd_same)
local macro_rules | `(tactic| walk_at "side") => `(tactic| first | omega | exact Or.inl ⟨by omega, by omega⟩ | exact Or.inr ⟨by omega, by omega⟩ | exact ⟨by omega, by omega⟩ | decide +kernel)
local macro_rules | `(tactic| walk_at "div") => `(tactic| exact wide_div (b := 30) (by omega) (by omega) (by decide) (by decide))
local macro_rules | `(tactic| walk_at "pow") => `(tactic| exact ⟨by decide +kernel, by decide +kernel, by decide +kernel⟩)
local macro_rules | `(tactic| walk_at "rv") => `(tactic| first
  | with_reducible exact rv_addI | with_reducible exact rv_sub | with_reducible exact rv_lt | with_reducible exact rv_le | with_reducible exact rv_gt | with_reducible exact rv_ge
  | with_reducible exact rv_inC | with_reducible exact rv_notInC | with_reducible exact rv_isB
  | (with_reducible apply rv_mul
     walk_at "side")
  | (with_reducible apply rv_mod
     walk_at "side")
  | (with_reducible apply rv_div
     walk_at "div")
  | (with_reducible apply rv_pow
     walk_at "pow")
  | (with_reducible apply rv_eq
     exact rfl)
  | (with_reducible apply rv_ne
     exact rfl)
  | (with_reducible apply rv_ixL
     · walk_at "idx"
     · exact rfl)
  | (with_reducible apply rv_ixT
     · walk_at "idx"
     · exact rfl)
  | (with_reducible apply rv_ixS
     · walk_at "side"
     · exact rfl)
  | (with_reducible apply rv_addS
     walk_at "side"))
local macro_rules | `(tactic| walk_at "val") => `(tactic| first
  | with_reducible exact val_c | exact val_c
  | (with_reducible apply val_var
     exact rfl)
  | (with_reducible apply val_bin
     · walk_at "val"
     · walk_at "val"
     · walk_at "rv")
  | (with_reducible apply val_int1
     walk_at "val")
  | (with_reducible apply val_max2
     · walk_at "val"
     · walk_at "val")
  | (with_reducible apply val_min2
     · walk_at "val"
     · walk_at "val")
  | (with_reducible apply val_endsw
     · walk_at "val"
     · walk_at "val")
  | (with_reducible apply val_lenS
     · walk_at "val"
     · walk_at "side")
  | (with_reducible apply val_lenL
     · walk_at "val"
     · walk_at "idx")
  | (with_reducible apply val_lenT
     · walk_at "val"
     · walk_at "idx")
  | (with_reducible apply val_notV
     walk_at "val"))
local macro_rules | `(tactic| walk_at "ans") => `(tactic| first
  | (with_reducible apply ans_T
     walk_at "val")
  | (with_reducible apply ans_B
     walk_at "val")
  | (with_reducible apply ans_not
     walk_at "ans"))
local macro_rules | `(tactic| walk_at "ifp") => `(tactic| first
  | (with_reducible refine Eq.mpr (if_pos ?_) ?_
     · decide +kernel)
  | (with_reducible refine Eq.mpr (if_neg ?_) ?_
     · decide +kernel))
local macro_rules | `(tactic| walk_at "k") => `(tactic| first
  | with_reducible apply k_seq | with_reducible apply k_asg | with_reducible apply k_ret | with_reducible apply k_ifS | with_reducible apply k_drop | with_reducible apply k_name
  | (with_reducible apply k_var
     · exact rfl)
  | with_reducible apply k_c
  | with_reducible apply k_op | with_reducible apply k_cb | with_reducible apply k_call | with_reducible apply k_cons | with_reducible apply k_nil | with_reducible apply k_tup | with_reducible apply k_lst
  | with_reducible apply k_ifE | with_reducible apply k_test | with_reducible apply k_tb | with_reducible apply k_not | with_reducible apply k_and | with_reducible apply k_or | with_reducible apply k_bl
  | with_reducible apply k_sl | with_reducible apply k_part | with_reducible apply k_isI | with_reducible apply k_nopart
  | with_reducible apply k_lcZS | with_reducible apply k_onZS | with_reducible apply k_un | with_reducible apply k_neg
  | with_reducible apply k_forEB | with_reducible apply k_forSB | with_reducible apply k_lcSB | with_reducible apply k_fld | with_reducible apply k_prop | with_reducible apply k_sfld | with_reducible apply k_make | with_reducible apply k_makeK | with_reducible apply k_mkO
  | with_reducible apply k_lcS | with_reducible apply k_lcR | with_reducible apply k_lcL | with_reducible apply k_lcT | with_reducible apply k_forS | with_reducible apply k_forR | with_reducible apply k_forL | with_reducible apply k_forT | with_reducible apply k_onS | with_reducible apply k_yes
  | (with_reducible apply k_augC
     · exact rfl)
  | with_reducible apply k_next | with_reducible apply k_eqInt | with_reducible apply k_neInt | with_reducible apply k_eqStr | with_reducible apply k_neStr
  | with_reducible apply k_andV | with_reducible apply k_orV | with_reducible apply k_notV
  | with_reducible apply k_m1 | with_reducible apply k_onStr | with_reducible apply k_endsw
  | (with_reducible apply k_slS
     · walk_at "side")
  | (with_reducible apply k_newT
     · walk_at "len")
  | (with_reducible apply k_newL
     · walk_at "len")
  | with_reducible apply k_int1 | with_reducible apply k_max2 | with_reducible apply k_min2
  | (with_reducible apply k_lenS
     · walk_at "side")
  | (with_reducible apply k_lenL
     · walk_at "idx")
  | (with_reducible apply k_lenT
     · walk_at "idx")
  | (with_reducible apply k_rv
     · walk_at "rv")
  | walk_at "ifp")
local macro_rules | `(tactic| walk_at "kk") => `(tactic| (repeat (walk_at "k")))
local macro_rules | `(tactic| walk_at "len") => `(tactic| first | exact (by decide : (1:Nat) ≤ 100000) | exact (by decide : (2:Nat) ≤ 100000) | exact (by decide : (3:Nat) ≤ 100000) | exact (by decide : (4:Nat) ≤ 100000) | exact (by decide : (7:Nat) ≤ 100000) | (simp only [List.length_cons, List.length_nil]; omega) | omega)
local macro_rules | `(tactic| walk_at "up") => `(tactic| first
  | assumption
  | (refine Dq.up ?_ (Gr.new (by assumption))
     walk_at "up")
  | (refine Dq.up ?_ (by assumption)
     walk_at "up"))

section
variable {P : Program} {w : World} {K : PySem.W.Frag} {mg : Str → Option Value} {base : Heap}
/-- all are rules, or the first thing that is none -/
def rulesR (T : Txt K mg) (v : V) (H : Hp) (N : Hp → Prop) (E : XK) : Prop :=
  (∃ d, Th K H v d ∧ PySem.W.kitAny K (.type (tyName d)) (["list", "tuple"].map Value.type) = some false ∧ ∀ H' dd, Same H H' → H' dd = some (.xd [("place", .non)]) → E (.ref T.C_InvalidRules) (some dd) H') ∨
  (∃ (a : Addr) (t : Bool) (xs : List V) (bs : List Bool), v = .ref a ∧ SqB K t H a xs ∧ bs.length = xs.length ∧ xs.length ≤ 50000 ∧ (∀ (i : Nat) (x : V), xs[i]? = some x → ∃ b, bs[i]? = some b ∧ Ob K T.C_Rule H x b) ∧
    ((∀ b ∈ bs, b = true) → ∀ H', Same H H' → N H') ∧
    (∀ i : Nat, bs[i]? = some false → (∀ (j : Nat) b, j < i → bs[j]? = some b → b = true) → ∀ H' dd, Same H H' → H' dd = some (.xd [("place", .int (i : Nat))]) → E (.ref T.C_InvalidRules) (some dd) H'))
theorem ok_check_rules (T : Txt K mg) : FnOk P w K mg base (L2.CX P w) 7 T.a_check_rules T.fd_check_rules ["rules"] (fun vs H Q E => ∃ v, vs = [v] ∧ rulesR T v H (Q .non) E) := by
  refine T.F_check_rules.okX sc_check_rules (fun vs H Q E h => ?_) (fun cdv A outer s H vs Q E hr h => ?_)
  · obtain ⟨v, rfl, _⟩ := h
    rfl
  · obtain ⟨v, rfl, h⟩ := h
    refine ⟨_, (pss_cons (ps_if (pt_not (pt_val (pe_call (ok_is_list T) (hr.mono (by decide)) (by rfl) T.m_is_list T.F_is_list.kp T.b_is_list .nil pass0 (pa_cons (pv 0) pa_nil)))) (pss_one (ps_raise rfl (takes_of rfl rfl rfl rfl) (pmk_oex T.x_InvalidRules T.i_InvalidRules T.t_InvalidRules (ok_InvalidRules_init T) (hr.mono (by decide)) T.bI_InvalidRules .nil pass0 (by rfl) T.mc_InvalidRules (pa_cons pe_non pa_nil)))) pss_nil)
      (pss_one (ps_for (passes_of rfl) rfl (enumK K (by rfl) T.z_enumerate (pa_cons (pv 0) pa_nil)) (tupleK K (n := 2) rfl (pgs_cons (pg_name (i := 1) sc_check_rules.nd rfl (Or.inl rfl)) (pgs_cons (pg_name (i := 2) sc_check_rules.nd rfl (Or.inl rfl)) pgs_nil))) (pss_one (ps_if (pt_not (pt_val (pe_callB (isiK K) (by rfl) T.z_isinstance B_isinstance (pa_cons (pv 2) (pa_cons (C8.pe_gc (v := .ref T.C_Rule) (by rfl) ⟨_, T.mc_Rule, rfl⟩) pa_nil))))) (pss_one (ps_raise rfl (takes_of rfl rfl rfl rfl) (pmk_oex T.x_InvalidRules T.i_InvalidRules T.t_InvalidRules (ok_InvalidRules_init T) (hr.mono (by decide)) T.bI_InvalidRules .nil pass0 (by rfl) T.mc_InvalidRules (pa_cons (pv 1) pa_nil)))) pss_nil))))), ?_⟩
    walk_at "kk"
    rcases h with ⟨d, hv, e, q⟩ | ⟨a, t, xs, bs, rfl, hx, hdl, hl, hd, q1, q2⟩
    · refine ⟨v, _, false, rfl, hv.ty, e, fun H1 s1 => ?_⟩
      walk_at "kk"
      exact k_mkR fun H2 dd s2 e2 => q H2 dd (s1.trans s2) e2
    · refine ⟨.ref a, _, true, rfl, hx.ty, kit_lt K t, fun H1 s1 => ?_⟩
      walk_at "kk"
      refine k_onEB (hx.up s1) ?_
      refine for_go (walk_eB (xs := xs)) (fun i σ H' => Same H H' ∧ (∀ (j : Nat) b, j < i → bs[j]? = some b → b = true) ∧ ∃ y1 y2, σ = [some (.ref a), y1, y2]) ⟨s1, (fun j d' hj => (nomatch hj)), none, none, rfl⟩ (fun i σ H' _ iv => hx.up iv.1) (fun i x σ Ha Hb hi iv hy => ?_) (fun σ H' iv => ?_)
      · obtain ⟨s2, good, y1, y2, rfl⟩ := iv
        obtain ⟨p, rfl, hp, rfl⟩ := hy
        obtain ⟨b, ed, ob⟩ := hd i (xs.getD i .non) (by rw [List.getD_eq_getElem?_getD, List.getElem?_eq_getElem hi]; rfl)
        have s3 := s2.trans (same_new (o := .tup [.int (i : Nat), xs.getD i .non]) hp)
        refine k_unp2 (Evl.st_of upd_same) ?_
        walk_at "kk"
        refine k_ob (ob.same s3) ?_
        walk_at "kk"
        cases b with
        | true =>
          refine k_ite (fun hb => by cases hb) (fun _ => ?_)
          walk_at "kk"
          refine ⟨s3, fun j d' hj e => ?_, _, _, rfl⟩
          rcases Nat.lt_succ_iff_lt_or_eq.mp hj with hj | rfl
          · exact good j d' hj e
          · rw [ed] at e
            cases Option.some.inj e
            rfl
        | false =>
          refine k_ite (fun _ => ?_) (fun hb => by cases hb)
          walk_at "kk"
          exact k_mkR fun H6 dd s6 e6 => q2 i ed good H6 dd (s3.trans s6) e6
      · obtain ⟨s2, good, y1, y2, rfl⟩ := iv
        refine q1 (fun d hd' => ?_) _ s2
        obtain ⟨j, hj⟩ := List.getElem?_of_mem hd'
        have lt := (List.getElem?_eq_some_iff.mp hj).1
        exact good j d (by omega) hj
/-- no ending stands twice, or the first that does -/
def spEnds (T : Txt K mg) : Sp := fun vs H Q E => ∃ (a : Addr) (t : Bool) (xs : List V) (rs : List RD), vs = [.ref a] ∧ SqB K t H a xs ∧ RuAll K T.C_Rule H xs rs ∧ rs.length ≤ 1000 ∧
  ((rs.map RD.e).Nodup → ∀ H', Same H H' → Q .non H') ∧
  (∀ (i : Nat) r, rs[i]? = some r → ((rs.take i).map RD.e).Nodup → r.e ∈ (rs.take i).map RD.e → ∀ H' dd, Same H H' → H' dd = some (.xd [("ending", .str r.e)]) → E (.ref T.C_SameEnding) (some dd) H')
theorem ok_check_endings (T : Txt K mg) : FnOk P w K mg base (L2.CX P w) 5 T.a_check_endings T.fd_check_endings ["rules"] (spEnds T) := by
  refine T.F_check_endings.okX sc_check_endings (fun vs H Q E h => ?_) (fun cdv A outer s H vs Q E hr h => ?_)
  · obtain ⟨a, t, xs, rs, rfl, _⟩ := h
    rfl
  · obtain ⟨a, t, xs, rs, rfl, hx, hr2, hl, q1, q2⟩ := h
    refine ⟨_, (pss_cons (ps_set (i := 1) sc_check_endings.nd rfl (Or.inl rfl) (pe_callTy0 cr_set0K (by rfl) T.z_set B_set))
      (pss_one (ps_for (passes_of rfl) rfl (seqK K (pv 0)) (pg_name (i := 2) sc_check_endings.nd rfl (Or.inl rfl)) (pss_cons (ps_if (pt_cmpR or_sinK (pe_prop (pv 2) T.cl_Rule T.pp_Rule_ending (ok_Rule_ending T) (hr.mono (by decide)) T.bM_Rule_ending .nil pass0 (by rfl)) (pv 1) (by rfl)) (pss_one (ps_raise rfl (takes_of rfl rfl rfl rfl) (pmk_oex T.x_SameEnding T.i_SameEnding T.t_SameEnding (ok_SameEnding_init T) (hr.mono (by decide)) T.bI_SameEnding .nil pass0 (by rfl) T.mc_SameEnding (pa_cons (pe_prop (pv 2) T.cl_Rule T.pp_Rule_ending (ok_Rule_ending T) (hr.mono (by decide)) T.bM_Rule_ending .nil pass0 (by rfl)) pa_nil)))) pss_nil)
      (pss_one (ps_expr (pe_saddK (pv 1) (pa_cons (pe_prop (pv 2) T.cl_Rule T.pp_Rule_ending (ok_Rule_ending T) (hr.mono (by decide)) T.bM_Rule_ending .nil pass0 (by rfl)) pa_nil)))))))), ?_⟩
    have xl := hr2.len
    walk_at "kk"
    refine ⟨rfl, fun p hp => ?_⟩
    walk_at "kk"
    refine k_onSB (hx.up (same_new hp)) ?_
    refine for_go (walk_B (xs := xs)) (fun i σ H' => Gr [p] H H' ∧ (∃ (S : Key → Bool) (n : Nat), H' p = some (SetK P w p S n) ∧ n ≤ i ∧ ∀ z : Str, S (Sum.inr z) = decide (z ∈ (rs.take i).map RD.e)) ∧ ((rs.take i).map RD.e).Nodup ∧ ∃ y, σ = [some (.ref a), some (.ref p), y]) ⟨Gr.new hp, ⟨_, 0, upd_same, Nat.le_refl _, fun z => by simp⟩, by simp, none, rfl⟩ (fun i σ H' _ iv => hx.up (iv.1.less hp).same) (fun i x σ Ha Hb hi iv hy => ?_) (fun σ H' iv => ?_)
    · obtain ⟨g2, ⟨S, n, eS, hn, hS⟩, nd, y, rfl⟩ := iv
      obtain ⟨rfl, rfl⟩ := hy
      have s2 := (g2.less hp).same
      obtain ⟨r, er, hru⟩ := hr2.get (i := i) (x := xs.getD i .non) (by rw [List.getD_eq_getElem?_getD, List.getElem?_eq_getElem hi]; rfl)
      obtain ⟨b, dx, fs, tt, ys, eb, hb, l1, l2, l3, l4, l5⟩ := hru.up s2
      rw [eb]
      have tk : (rs.take (i + 1)).map RD.e = (rs.take i).map RD.e ++ [r.e] := by rw [List.take_add_one, er]; simp
      walk_at "kk"
      refine ⟨b, dx, fs, rfl, hb, b, dx, fs, .str r.e, rfl, hb, l1, ?_⟩
      walk_at "kk"
      refine ⟨Sum.inr r.e, p, S, n, rfl, rfl, eS, ?_⟩
      walk_at "kk"
      show if S (Sum.inr r.e) = true then _ else _
      rw [hS r.e]
      refine k_ite (fun hb2 => ?_) (fun hb2 => ?_)
      · have hb2 := of_decide_eq_true hb2
        walk_at "kk"
        refine ⟨b, dx, fs, rfl, hb, b, dx, fs, .str r.e, rfl, hb, l1, ?_⟩
        walk_at "kk"
        exact k_mkR fun H6 dd s6 e6 => q2 i r er nd hb2 H6 dd (s2.trans s6) e6
      · have hb2 := of_decide_eq_false hb2
        walk_at "kk"
        refine ⟨.ref p, rfl, ⟨p, S, n, rfl, eS⟩, ?_⟩
        walk_at "kk"
        refine ⟨b, dx, fs, rfl, hb, b, dx, fs, .str r.e, rfl, hb, l1, ?_⟩
        walk_at "kk"
        refine ⟨p, Sum.inr r.e, S, n, rfl, rfl, eS, (by show n + 1 < 4096; omega), ?_⟩
        walk_at "kk"
        refine ⟨g2.trans (Gr.mut (by simp)), ⟨_, _, upd_same, ?_, fun z => ?_⟩, ?_, _, rfl⟩
        · split <;> omega
        · rw [hS z, tk]
          simp only [List.mem_append, List.mem_singleton]
          by_cases h1 : z = r.e
          · subst h1
            simp
          · simp [h1]
        · rw [tk, List.nodup_append]
          refine ⟨nd, by simp, fun x hx y hy => ?_⟩
          rw [List.mem_singleton.mp hy]
          intro z
          exact hb2 (z ▸ hx)
    · obtain ⟨g2, _, nd, y, rfl⟩ := iv
      refine q1 ?_ _ (g2.less hp).same
      rw [List.take_of_length_le (by omega)] at nd
      exact nd
end
end K02
set_option Elab.async false
set_option linter.all false
set_option maxRecDepth 100000
set_option maxHeartbeats 4000000
namespace K02
open PySem PySem.Spec PyProof.Rows L2 TL Mi
/-! ### short words -/
local macro_rules | `(tactic| walk_at "idx") => `(tactic| first | assumption | exact Evl.sq_of (by assumption) | exact Evl.st_of (by assumption) | exact Evl.sq_of upd_same | exact Evl.st_of upd_same)
local macro_rules | `(tactic| walk_at "side") => `(tactic| first | omega | exact Or.inl ⟨by omega, by omega⟩ | exact Or.inr ⟨by omega, by omega⟩ | exact ⟨by omega, by omega⟩ | decide +kernel)
local macro_rules | `(tactic| walk_at "div") => `(tactic| exact wide_div (b := 30) (by omega) (by omega) (by decide) (by decide))
local macro_rules | `(tactic| walk_at "pow") => `(tactic| exact ⟨by decide +kernel, by decide +kernel, by decide +kernel⟩)
local macro_rules | `(tactic| walk_at "rv") => `(tactic| first
  | with_reducible exact rv_addI | with_reducible exact rv_sub | with_reducible exact rv_lt | with_reducible exact rv_le | with_reducible exact rv_gt | with_reducible exact rv_ge
  | with_reducible exact rv_inC | with_reducible exact rv_notInC | with_reducible exact rv_isB
  | (with_reducible apply rv_mul
     walk_at "side")
  | (with_reducible apply rv_mod
     walk_at "side")
  | (with_reducible apply rv_div
     walk_at "div")
  | (with_reducible apply rv_pow
     walk_at "pow")
  | (with_reducible apply rv_eq
     exact rfl)
  | (with_reducible apply rv_ne
     exact rfl)
  | (with_reducible apply rv_ixL
     · walk_at "idx"
     · exact rfl)
  | (with_reducible apply rv_ixT
     · walk_at "idx"
     · exact rfl)
  | (with_reducible apply rv_ixS
     · walk_at "side"
     · exact rfl)
  | (with_reducible apply rv_addS
     walk_at "side"))
local macro_rules | `(tactic| walk_at "val") => `(tactic| first
  | with_reducible exact val_c | exact val_c
  | (with_reducible apply val_var
     exact rfl)
  | (with_reducible apply val_bin
     · walk_at "val"
     · walk_at "val"
     · walk_at "rv")
  | (with_reducible apply val_int1
     walk_at "val")
  | (with_reducible apply val_max2
     · walk_at "val"
     · walk_at "val")
  | (with_reducible apply val_min2
     · walk_at "val"
     · walk_at "val")
  | (with_reducible apply val_endsw
     · walk_at "val"
     · walk_at "val")
  | (with_reducible apply val_lenS
     · walk_at "val"
     · walk_at "side")
  | (with_reducible apply val_lenL
     · walk_at "val"
     · walk_at "idx")
  | (with_reducible apply val_lenT
     · walk_at "val"
     · walk_at "idx")
  | (with_reducible apply val_notV
     walk_at "val"))
local macro_rules | `(tactic| walk_at "ans") => `(tactic| first
  | (with_reducible apply ans_T
     walk_at "val")
  | (with_reducible apply ans_B
     walk_at "val")
  | (with_reducible apply ans_not
     walk_at "ans"))
local macro_rules | `(tactic| walk_at "ifp") => `(tactic| first
  | (with_reducible refine Eq.mpr (if_pos ?_) ?_
     · decide +kernel)
  | (with_reducible refine Eq.mpr (if_neg ?_) ?_
     · decide +kernel))
local macro_rules | `(tactic| walk_at "k") => `(tactic| first
  | with_reducible apply k_seq | with_reducible apply k_asg | with_reducible apply k_ret | with_reducible apply k_ifS | with_reducible apply k_drop | with_reducible apply k_name
  | (with_reducible apply k_var
     · exact rfl)
  | with_reducible apply k_c
  | with_reducible apply k_op | with_reducible apply k_cb | with_reducible apply k_call | with_reducible apply k_cons | with_reducible apply k_nil | with_reducible apply k_tup | with_reducible apply k_lst
  | with_reducible apply k_ifE | with_reducible apply k_test | with_reducible apply k_tb | with_reducible apply k_not | with_reducible apply k_and | with_reducible apply k_or | with_reducible apply k_bl
  | with_reducible apply k_sl | with_reducible apply k_part | with_reducible apply k_isI | with_reducible apply k_nopart
  | with_reducible apply k_lcZS | with_reducible apply k_onZS | with_reducible apply k_un | with_reducible apply k_neg
  | with_reducible apply k_forEB | with_reducible apply k_forSB | with_reducible apply k_lcSB | with_reducible apply k_fld | with_reducible apply k_prop | with_reducible apply k_sfld | with_reducible apply k_make | with_reducible apply k_makeK | with_reducible apply k_mkO | with_reducible apply k_par | with_reducible apply k_parR
  | with_reducible apply k_lcS | with_reducible apply k_lcR | with_reducible apply k_lcL | with_reducible apply k_lcT | with_reducible apply k_forS | with_reducible apply k_forR | with_reducible apply k_forL | with_reducible apply k_forT | with_reducible apply k_onS | with_reducible apply k_yes
  | (with_reducible apply k_augC
     · exact rfl)
  | with_reducible apply k_next | with_reducible apply k_eqInt | with_reducible apply k_neInt | with_reducible apply k_eqStr | with_reducible apply k_neStr
  | with_reducible apply k_andV | with_reducible apply k_orV | with_reducible apply k_notV
  | with_reducible apply k_m1 | with_reducible apply k_onStr | with_reducible apply k_endsw
  | (with_reducible apply k_slS
     · walk_at "side")
  | (with_reducible apply k_newT
     · walk_at "len")
  | (with_reducible apply k_newL
     · walk_at "len")
  | with_reducible apply k_int1 | with_reducible apply k_max2 | with_reducible apply k_min2
  | (with_reducible apply k_lenS
     · walk_at "side")
  | (with_reducible apply k_lenL
     · walk_at "idx")
  | (with_reducible apply k_lenT
     · walk_at "idx")
  | (with_reducible apply k_rv
     · walk_at "rv")
  | walk_at "ifp")
local macro_rules | `(tactic| walk_at "kk") => `(tactic| (repeat (walk_at "k")))
local macro_rules | `(tactic| walk_at "len") => `(tactic| first | exact (by decide : (1:Nat) ≤ 100000) | exact (by decide : (2:Nat) ≤ 100000) | exact (by decide : (3:Nat) ≤ 100000) | exact (by decide : (4:Nat) ≤ 100000) | exact (by decide : (7:Nat) ≤ 100000) | (simp only [List.length_cons, List.length_nil]; omega) | omega)
local macro_rules | `(tactic| walk_at "up") => `(tactic| first
  | assumption
  | (refine Dq.up ?_ (Gr.new (by assumption))
     walk_at "up")
  | (refine Dq.up ?_ (by assumption)
     walk_at "up"))
local macro_rules | `(tactic| walk_at "lit") => `(tactic| first
  | with_reducible exact lit_str | with_reducible exact lit_int | with_reducible exact lit_bl | with_reducible exact lit_non | with_reducible exact lit_neg | with_reducible exact lit_nil | with_reducible exact lit_dic
  | (with_reducible apply lit_cons
     · walk_at "lit"
     · walk_at "lit")
  | (with_reducible apply lit_tup
     · walk_at "lit"
     · decide)
  | (with_reducible apply lit_lst
     · walk_at "lit"
     · decide))

section
variable {P : Program} {w : World} {K : PySem.W.Frag} {mg : Str → Option Value} {base : Heap}
/-- rules, all rules -/
def rulesOk (T : Txt K mg) (v : V) (H : Hp) (rs : List RD) : Prop := ∃ (a : Addr) (t : Bool) (xs : List V), v = .ref a ∧ SqB K t H a xs ∧ RuAll K T.C_Rule H xs rs ∧ rs.length ≤ 1000
def rulesAt (T : Txt K mg) (v : V) (H : Hp) (rs : List RD) (xs : List V) : Prop := ∃ (a : Addr) (t : Bool), v = .ref a ∧ SqB K t H a xs ∧ RuAll K T.C_Rule H xs rs ∧ rs.length ≤ 1000
/-- a step, and what stands in it -/
def StX (K : PySem.W.Frag) (CS CR : Addr) (H : Hp) (v : V) (s : SD) (xs : List V) : Prop := ∃ a dx fs t, v = .ref a ∧ H a = some (.ins CS dx fs) ∧ fs.lookup ("_rules" : Str) = some (.ref t) ∧ fs.lookup ("_mode" : Str) = some (.str s.mode) ∧ SqT K H t xs ∧ RuAll K CR H xs s.rs
theorem StX.st {CS CR : Addr} {H : Hp} {v : V} {s : SD} {xs : List V} (h : StX K CS CR H v s xs) : StA K CS CR H v s := by
  obtain ⟨a, dx, fs, t, rfl, h1, h2, h3, h4, h5⟩ := h
  exact ⟨a, dx, fs, t, xs, rfl, h1, h2, h3, h4, h5⟩
def spStep (T : Txt K mg) : Sp := fun vs H Q E => ∃ (a dx : Addr) (r m : V), vs = [.ref a, r, m] ∧ H a = some (.ins T.C_Step dx []) ∧
  (rulesR T r H (fun _ => False) E ∨ ∃ rs items, rulesAt T r H rs items ∧
    ((∃ dm, Dp K H m dm ∧ SeqAt.shaped dm = true ∧ isMode dm = false ∧ ∀ H' dd, Same H H' → H' dd = some (.xd [("thing", m)]) → E (.ref T.C_InvalidMode) (some dd) H') ∨
     (∃ md : Str, m = .str md ∧ okS md ∧ isMode (.str md) = true ∧
       ((md = "longest" ∧ ∃ (i : Nat) (r : RD), rs[i]? = some r ∧ ((rs.take i).map RD.e).Nodup ∧ r.e ∈ (rs.take i).map RD.e ∧ ∀ H' dd, Same H H' → H' dd = some (.xd [("ending", .str r.e)]) → E (.ref T.C_SameEnding) (some dd) H') ∨
        ((md = "longest" → (rs.map RD.e).Nodup) ∧ ∀ H', Gr [a] H H' → StX K T.C_Step T.C_Rule H' (.ref a) ⟨rs, md⟩ items → Q .non H')))))
theorem take_nodup {l : List Str} {n : Nat} (h : l.Nodup) : (l.take n).Nodup := h.sublist (List.take_sublist _ _)
theorem ok_Step_init (T : Txt K mg) : FnOk P w K mg base (L2.CX P w) 8 T.aM_Step_init T.fdM_Step_init ["self", "rules", "mode"] (spStep T) := by
  refine T.FM_Step_init.okX sc_Step_init (fun vs H Q E h => ?_) (fun cdv A outer s H vs Q E hr h => ?_)
  · obtain ⟨a, dx, r, m, rfl, _⟩ := h
    rfl
  · obtain ⟨a, dx, r, m, rfl, ha, h⟩ := h
    refine ⟨_, (pss_cons (ps_expr (pe_call (ok_check_rules T) (hr.mono (by decide)) (by rfl) T.m_check_rules T.F_check_rules.kp T.b_check_rules .nil (passes_call (takes_of rfl rfl rfl rfl) (fun _ _ _ _ h => h)) (pa_cons (pv 1) pa_nil)))
      (pss_cons (ps_expr (pe_call (ok_check_mode T) (hr.mono (by decide)) (by rfl) T.m_check_mode T.F_check_mode.kp T.b_check_mode .nil (passes_call (takes_of rfl rfl rfl rfl) (fun _ _ _ _ h => h)) (pa_cons (pv 2) pa_nil)))
      (pss_cons (ps_if (pt_cmpR (eqK K hr) (pv 2) pe_str (nomark _)) (pss_one (ps_expr (pe_call (ok_check_endings T) (hr.mono (by decide)) (by rfl) T.m_check_endings T.F_check_endings.kp T.b_check_endings .nil (passes_call (takes_of rfl rfl rfl rfl) (fun _ _ _ _ h => h)) (pa_cons (pv 1) pa_nil)))) pss_nil)
      (pss_cons (ps_fld (pv 0) (pe_callTy (tupK K) (by rfl) T.z_tuple B_tuple (pa_cons (pv 1) pa_nil)) rfl)
      (pss_one (ps_fld (pv 0) (pv 2) rfl)))))), ?_⟩
    walk_at "kk"
    rcases h with h | ⟨rs, xs, ⟨ra, t, rfl, hx, hru, hl⟩, h⟩
    · refine ⟨r, rfl, ?_⟩
      rcases h with ⟨d, th, nk, q⟩ | ⟨ca, t, xs, ds, rfl, hx, hl1, hl2, hd, q1, q2⟩
      · exact .inl ⟨d, th, nk, q⟩
      · exact .inr ⟨ca, t, xs, ds, rfl, hx, hl1, hl2, hd, fun all H3 s3 => (q1 all H3 s3).elim, q2⟩
    have xl := hru.len
    refine ⟨.ref ra, rfl, .inr ⟨ra, t, xs, xs.map fun _ => true, rfl, hx, by simp, by omega, fun i x e => ?_, fun _ H1 s1 => ?_, fun i e => ?_⟩⟩
    · obtain ⟨r, _, hr⟩ := hru.get e
      obtain ⟨b, dy, fs, rfl, hb⟩ := hr.ins
      exact ⟨true, by rw [List.getElem?_map, e]; rfl, ob_ins T.in_Rule hb⟩
    · walk_at "kk"
      rcases h with ⟨dm, hm, sm, nm, q⟩ | ⟨md, rfl, om, im, h⟩
      · exact ⟨m, dm, rfl, hm.up s1, sm, .inr ⟨nm, fun H2 dd s2 e2 => q H2 dd (s1.trans s2) e2⟩⟩
      · refine ⟨.str md, .str md, rfl, .str md, ?_, .inl ⟨im, fun H2 s2 => ?_⟩⟩
        · unfold SeqAt.shaped
          rw [om.lay]
          rfl
        have u2 := s1.trans s2
        walk_at "kk"
        have rest : ∀ H3, Same H H3 → (∀ H', Gr [a] H H' → StX K T.C_Step T.C_Rule H' (.ref a) ⟨rs, md⟩ xs → Q .non H') → tSeq (sFld K (tVar 0) (tCB (rTupOf K) (tCons (tVar 1) tNil)) "_rules") (sFld K (tVar 0) (tVar 2) "_mode") { nx := fun _ H' => Q .non H', rt := Q } [some (.ref a), some (.ref ra), some (.str md)] H3 := by
          intro H3 u3 q
          walk_at "kk"
          refine k_tupB (hx.up u3) fun l H4 s4 hl4 => ?_
          have u4 := u3.trans s4
          walk_at "kk"
          have e4 := u4 _ _ ha
          refine k_fldP e4 T.cl_Step T.n_Step_rules (by decide) ?_
          rw [put_sF1]
          walk_at "kk"
          refine k_fldP upd_same T.cl_Step T.n_Step_mode (by simp) ?_
          rw [put_sF2]
          have z5 : SamD H4 (upd H4 a (.ins T.C_Step dx (sF1 l))) := SamD.mut e4 rfl
          have z6 : SamD (upd H4 a (.ins T.C_Step dx (sF1 l))) (upd (upd H4 a (.ins T.C_Step dx (sF1 l))) a (.ins T.C_Step dx (sF2 l md))) := SamD.mut upd_same rfl
          refine q _ ((Gr.of u4).trans ((Gr.mut (by simp)).trans (Gr.mut (by simp)))) ⟨a, dx, _, l, rfl, upd_same, (look_sF l md).1, (look_sF l md).2, SqT.upD (SqT.upD hl4 z5) z6, ?_⟩
          exact ((hru.up u4).mut e4 rfl).mut upd_same (no_sF1 l)
        by_cases hmd : md = "longest"
        · subst hmd
          refine k_ite (fun _ => ?_) (fun hb => absurd (of_decide_eq_false hb) (by simp))
          walk_at "kk"
          rcases h with ⟨_, i, r, er, nd, mem, q⟩ | ⟨nd, q⟩
          · refine ⟨ra, t, xs, rs, rfl, hx.up u2, hru.up u2, hl, fun nd2 => ?_, fun j r2 er2 nd2 mem2 H3 dd s3 e3 => ?_⟩
            · exfalso
              have h1 : (rs.take (i + 1)).map RD.e = (rs.take i).map RD.e ++ [r.e] := by rw [List.take_add_one, er]; simp
              have h2 : ((rs.take (i + 1)).map RD.e).Nodup := by rw [List.map_take]; exact take_nodup nd2
              rw [h1, List.nodup_append] at h2
              exact h2.2.2 r.e mem r.e (by simp) rfl
            · have key : ∀ {i j : Nat} {r r2 : RD}, rs[i]? = some r → r.e ∈ (rs.take i).map RD.e → ((rs.take j).map RD.e).Nodup → ¬ i < j := by
                intro i j r r2 er mem nd lt
                have h1 : (rs.take (i + 1)).map RD.e = (rs.take i).map RD.e ++ [r.e] := by rw [List.take_add_one, er]; simp
                have h2 : ((rs.take (i + 1)).map RD.e).Nodup := by
                  have e : rs.take (i + 1) = (rs.take j).take (i + 1) := by rw [List.take_take, Nat.min_eq_left (by omega)]
                  rw [e, List.map_take]
                  exact take_nodup nd
                rw [h1, List.nodup_append] at h2
                exact h2.2.2 r.e mem r.e (by simp) rfl
              have c1 := key (r2 := r) er mem nd2
              have c2 := key (r2 := r) er2 mem2 nd
              have ij : i = j := by omega
              subst ij
              rw [er] at er2
              cases Option.some.inj er2
              exact q H3 dd (u2.trans s3) e3
          · refine ⟨ra, t, xs, rs, rfl, hx.up u2, hru.up u2, hl, fun _ H3 s3 => rest H3 (u2.trans s3) q, fun j r2 er2 nd2 mem2 H3 dd s3 e3 => ?_⟩
            exfalso
            have h1 : (rs.take (j + 1)).map RD.e = (rs.take j).map RD.e ++ [r2.e] := by rw [List.take_add_one, er2]; simp
            have h2 : ((rs.take (j + 1)).map RD.e).Nodup := by rw [List.map_take]; exact take_nodup (nd rfl)
            rw [h1, List.nodup_append] at h2
            exact h2.2.2 r2.e mem2 r2.e (by simp) rfl
        · refine k_ite (fun hb => absurd (of_decide_eq_true hb) hmd) (fun _ => ?_)
          rcases h with ⟨z, _⟩ | ⟨nd, q⟩
          · exact absurd z hmd
          · exact rest H2 u2 q
    · rw [List.getElem?_map] at e
      cases h2 : xs[i]? with
      | none => rw [h2] at e; cases e
      | some x => rw [h2] at e; cases e
theorem ok_Step_rules (T : Txt K mg) : FnOk P w K mg base CX0 1 T.aM_Step_rules T.fdM_Step_rules ["self"] (getSp T.C_Step "_rules") := by
  refine T.FM_Step_rules.ok sc_Step_rules (fun vs H Q E h => ?_) (fun cdv A outer s H vs Q E hr h => ?_)
  · obtain ⟨a, dx, fs, v, rfl, _⟩ := h
    rfl
  · obtain ⟨a, dx, fs, v, rfl, ha, l, q⟩ := h
    refine ⟨_, (pss_one (ps_ret (fldK K (pv 0)))), ?_⟩
    walk_at "kk"
    exact k_fldR ha T.cl_Step T.n_Step_rules l q
theorem ok_Step_mode (T : Txt K mg) : FnOk P w K mg base CX0 1 T.aM_Step_mode T.fdM_Step_mode ["self"] (getSp T.C_Step "_mode") := by
  refine T.FM_Step_mode.ok sc_Step_mode (fun vs H Q E h => ?_) (fun cdv A outer s H vs Q E hr h => ?_)
  · obtain ⟨a, dx, fs, v, rfl, _⟩ := h
    rfl
  · obtain ⟨a, dx, fs, v, rfl, ha, l, q⟩ := h
    refine ⟨_, (pss_one (ps_ret (fldK K (pv 0)))), ?_⟩
    walk_at "kk"
    exact k_fldR ha T.cl_Step T.n_Step_mode l q
/-- tuples of rules compared -/
theorem rulesEqK {X : Cx} (T : Txt X.K X.mg) (hr : Room 2 X.A) : OpR X (compareOp .Eq) (rEqB (DTupB X.K (DRul X.K T.C_Rule))) :=
  op_eqB (rcB_tup mon_DRul (eqB_rul (ok_Rule_eq T) T.ow_Rule T.bM_Rule_eq T.in_Rule)) hr
theorem ok_Step_eq (T : Txt K mg) : FnOk P w K mg base CX0 3 T.aM_Step_eq T.fdM_Step_eq ["self", "other"] (spOwnEq (stR K T.C_Step T.C_Rule)) := by
  refine T.FM_Step_eq.ok sc_Step_eq (fun vs H Q E h => ?_) (fun cdv A outer s H vs Q E hr h => ?_)
  · obtain ⟨x, y, b, rfl, _⟩ := h
    rfl
  · obtain ⟨x, y, b, rfl, ⟨r, hx, sx, h⟩, q⟩ := h
    refine ⟨_, (pss_one (ps_ret (pe_and (pe_callB (isiK K) (by rfl) T.z_isinstance B_isinstance (pa_cons (pv 1) (pa_cons (C8.pe_gc (v := .ref T.C_Step) (by rfl) ⟨_, T.mc_Step, rfl⟩) pa_nil))) (pe_and (pe_cmpR (rulesEqK T (hr.mono (by decide))) (fldK K (pv 0)) (fldK K (pv 1)) (nomark _)) (pe_one (pe_cmpR (eqK K hr) (fldK K (pv 0)) (fldK K (pv 1)) (nomark _))))))), ?_⟩
    obtain ⟨a, dx, fs, t, xs, rfl, ha, l1, l2, ht, hd⟩ := hx
    walk_at "kk"
    rcases h with ⟨r', hy, sy, ob, rfl⟩ | ⟨ob, rfl⟩
    · refine k_ob ob ?_
      obtain ⟨a', dx', fs', t', xs', rfl, ha', m1, m2, ht', hd'⟩ := hy
      walk_at "kk"
      refine k_fldR ha T.cl_Step T.n_Step_rules l1 ?_
      walk_at "kk"
      refine k_fldR ha' T.cl_Step T.n_Step_rules m1 ?_
      refine ⟨reqvAll r.rs r'.rs, ⟨t, t', xs, xs', _, rfl, rfl, ht, ht', prB_rules hd hd' sx sy, ?_⟩, fun H1 g1 => ?_⟩
      · rw [hd.len, hd'.len, same_reqv]
      walk_at "kk"
      refine k_ite (fun hb => ?_) (fun hb => ?_)
      · walk_at "kk"
        refine k_fldR (g1 _ _ ha) T.cl_Step T.n_Step_mode l2 ?_
        walk_at "kk"
        refine k_fldR (g1 _ _ ha') T.cl_Step T.n_Step_mode m2 ?_
        walk_at "kk"
        have e : seqv r r' = decide (r.mode = r'.mode) := by unfold seqv; rw [hb, Bool.true_and]
        rw [e] at q
        exact q _ g1
      · have e : seqv r r' = false := by unfold seqv; rw [hb, Bool.false_and]
        rw [e] at q
        exact q _ g1
    · refine k_ob ob ?_
      walk_at "kk"
      exact q _ Ext.rfl'
end
end K02
set_option Elab.async false
set_option linter.all false
set_option maxRecDepth 100000
set_option maxHeartbeats 4000000
namespace K02
open PySem PySem.Spec PyProof.Rows L2 TL Mi
/-! ### short words -/
local macro_rules | `(tactic| walk_at "idx") => `(tactic| first | assumption | exact Evl.sq_of (by assumption) | exact Evl.st_of (by assumption) | exact Evl.sq_of upd_same | exact Evl.st_of upd_same)
local macro_rules | `(tactic| walk_at "side") => `(tactic| first | omega | exact Or.inl ⟨by omega, by omega⟩ | exact Or.inr ⟨by omega, by omega⟩ | exact ⟨by omega, by omega⟩ | decide +kernel)
local macro_rules | `(tactic| walk_at "div") => `(tactic| exact wide_div (b := 30) (by omega) (by omega) (by decide) (by decide))
local macro_rules | `(tactic| walk_at "pow") => `(tactic| exact ⟨by decide +kernel, by decide +kernel, by decide +kernel⟩)
local macro_rules | `(tactic| walk_at "rv") => `(tactic| first
  | with_reducible exact rv_addI | with_reducible exact rv_sub | with_reducible exact rv_lt | with_reducible exact rv_le | with_reducible exact rv_gt | with_reducible exact rv_ge
  | with_reducible exact rv_inC | with_reducible exact rv_notInC | with_reducible exact rv_isB
  | (with_reducible apply rv_mul
     walk_at "side")
  | (with_reducible apply rv_mod
     walk_at "side")
  | (with_reducible apply rv_div
     walk_at "div")
  | (with_reducible apply rv_pow
     walk_at "pow")
  | (with_reducible apply rv_eq
     exact rfl)
  | (with_reducible apply rv_ne
     exact rfl)
  | (with_reducible apply rv_ixL
     · walk_at "idx"
     · exact rfl)
  | (with_reducible apply rv_ixT
     · walk_at "idx"
     · exact rfl)
  | (with_reducible apply rv_ixS
     · walk_at "side"
     · exact rfl)
  | (with_reducible apply rv_addS
     walk_at "side"))
local macro_rules | `(tactic| walk_at "val") => `(tactic| first
  | with_reducible exact val_c | exact val_c
  | (with_reducible apply val_var
     exact rfl)
  | (with_reducible apply val_bin
     · walk_at "val"
     · walk_at "val"
     · walk_at "rv")
  | (with_reducible apply val_int1
     walk_at "val")
  | (with_reducible apply val_max2
     · walk_at "val"
     · walk_at "val")
  | (with_reducible apply val_min2
     · walk_at "val"
     · walk_at "val")
  | (with_reducible apply val_endsw
     · walk_at "val"
     · walk_at "val")
  | (with_reducible apply val_lenS
     · walk_at "val"
     · walk_at "side")
  | (with_reducible apply val_lenL
     · walk_at "val"
     · walk_at "idx")
  | (with_reducible apply val_lenT
     · walk_at "val"
     · walk_at "idx")
  | (with_reducible apply val_notV
     walk_at "val"))
local macro_rules | `(tactic| walk_at "ans") => `(tactic| first
  | (with_reducible apply ans_T
     walk_at "val")
  | (with_reducible apply ans_B
     walk_at "val")
  | (with_reducible apply ans_not
     walk_at "ans"))
local macro_rules | `(tactic| walk_at "ifp") => `(tactic| first
  | (with_reducible refine Eq.mpr (if_pos ?_) ?_
     · decide +kernel)
  | (with_reducible refine Eq.mpr (if_neg ?_) ?_
     · decide +kernel))
local macro_rules | `(tactic| walk_at "k") => `(tactic| first
  | with_reducible apply k_seq | with_reducible apply k_asg | with_reducible apply k_ret | with_reducible apply k_ifS | with_reducible apply k_drop | with_reducible apply k_name
  | (with_reducible apply k_var
     · exact rfl)
  | with_reducible apply k_c
  | with_reducible apply k_op | with_reducible apply k_cb | with_reducible apply k_call | with_reducible apply k_cons | with_reducible apply k_nil | with_reducible apply k_tup | with_reducible apply k_lst
  | with_reducible apply k_ifE | with_reducible apply k_test | with_reducible apply k_tb | with_reducible apply k_not | with_reducible apply k_and | with_reducible apply k_or | with_reducible apply k_bl
  | with_reducible apply k_sl | with_reducible apply k_part | with_reducible apply k_isI | with_reducible apply k_nopart
  | with_reducible apply k_lcZS | with_reducible apply k_onZS | with_reducible apply k_un | with_reducible apply k_neg
  | with_reducible apply k_forEB | with_reducible apply k_forSB | with_reducible apply k_lcSB | with_reducible apply k_fld | with_reducible apply k_prop | with_reducible apply k_sfld | with_reducible apply k_make | with_reducible apply k_makeK | with_reducible apply k_mkO | with_reducible apply k_par | with_reducible apply k_parR
  | with_reducible apply k_lcS | with_reducible apply k_lcR | with_reducible apply k_lcL | with_reducible apply k_lcT | with_reducible apply k_forS | with_reducible apply k_forR | with_reducible apply k_forL | with_reducible apply k_forT | with_reducible apply k_onS | with_reducible apply k_yes
  | (with_reducible apply k_augC
     · exact rfl)
  | with_reducible apply k_next | with_reducible apply k_eqInt | with_reducible apply k_neInt | with_reducible apply k_eqStr | with_reducible apply k_neStr
  | with_reducible apply k_andV | with_reducible apply k_orV | with_reducible apply k_notV
  | with_reducible apply k_m1 | with_reducible apply k_onStr | with_reducible apply k_endsw
  | (with_reducible apply k_slS
     · walk_at "side")
  | (with_reducible apply k_newT
     · walk_at "len")
  | (with_reducible apply k_newL
     · walk_at "len")
  | with_reducible apply k_int1 | with_reducible apply k_max2 | with_reducible apply k_min2
  | (with_reducible apply k_lenS
     · walk_at "side")
  | (with_reducible apply k_lenL
     · walk_at "idx")
  | (with_reducible apply k_lenT
     · walk_at "idx")
  | (with_reducible apply k_rv
     · walk_at "rv")
  | walk_at "ifp")
local macro_rules | `(tactic| walk_at "kk") => `(tactic| (repeat (walk_at "k")))
local macro_rules | `(tactic| walk_at "len") => `(tactic| first | exact (by decide : (1:Nat) ≤ 100000) | exact (by decide : (2:Nat) ≤ 100000) | exact (by decide : (3:Nat) ≤ 100000) | exact (by decide : (4:Nat) ≤ 100000) | exact (by decide : (7:Nat) ≤ 100000) | (simp only [List.length_cons, List.length_nil]; omega) | omega)
local macro_rules | `(tactic| walk_at "up") => `(tactic| first
  | assumption
  | (refine Dq.up ?_ (Gr.new (by assumption))
     walk_at "up")
  | (refine Dq.up ?_ (by assumption)
     walk_at "up"))
local macro_rules | `(tactic| walk_at "lit") => `(tactic| first
  | with_reducible exact lit_str | with_reducible exact lit_int | with_reducible exact lit_bl | with_reducible exact lit_non | with_reducible exact lit_neg | with_reducible exact lit_nil | with_reducible exact lit_dic
  | (with_reducible apply lit_cons
     · walk_at "lit"
     · walk_at "lit")
  | (with_reducible apply lit_tup
     · walk_at "lit"
     · decide)
  | (with_reducible apply lit_lst
     · walk_at "lit"
     · decide))

section
variable {P : Program} {w : World} {K : PySem.W.Frag} {mg : Str → Option Value} {base : Heap}
theorem Pu.same {H H' : Hp} {p : Addr} {n : Nat} (h : Pu H p n) (s : Same H H') : Pu H' p n := by
  obtain ⟨a, b, k, e, r⟩ := h
  exact ⟨a, b, k, s _ _ e, r⟩
/-- a drawn rule -/
def smR (z : Str) (r : RD) : Prop := (1 ≤ r.e.length ∧ r.e.length ≤ 2 ∧ ∀ c ∈ tl r.e, c ∈ tl z) ∧ (r.p.length ≤ 2 ∧ ∀ c ∈ tl r.p, c ∈ tl z) ∧ r.cs.length ≤ 2 ∧ ∀ c ∈ r.cs, smc z c
def spLRule (K : PySem.W.Frag) : Sp := fun vs H Q _ => ∃ (p : Addr) (z : Str) (n : Nat), vs = [.ref p, .str z] ∧ 0 < z.length ∧ z.length ≤ 100 ∧ Pu H p n ∧ n < 2 ^ 37 ∧
  ∀ (H' : Hp) (v : V) (r : RD), Gr [p] H H' → Pu H' p (n + 30000) → Dq K [p] H' v (encR r) → smR z r → Q v H'
theorem ok_law_rule (T : Txt K mg) : FnOk P w K mg base CX0 5 T.a_law_rule T.fd_law_rule ["purse", "signs"] (spLRule K) := by
  refine T.F_law_rule.ok sc_law_rule (fun vs H Q E h => ?_) (fun cdv A outer s H vs Q E hr h => ?_)
  · obtain ⟨p, z, n, rfl, _⟩ := h
    rfl
  · obtain ⟨p, z, n, rfl, hz, hz2, hp, hn, q⟩ := h
    refine ⟨_, (pss_cons (ps_setLc (i := 2) (own := [("turn", 3)]) (by rfl) sc_law_rule.nd rfl rfl (sw_true rfl rfl rfl (by decide +kernel)) (pi_range1 (by rfl) T.z_range (pa_cons (pe_ix (ixK K) (pe_lst (pa_cons pe_int (pa_cons pe_int (pa_cons pe_int (pa_cons pe_int (pa_cons pe_int pa_nil)))))) (pe_call (ok_law_draw T) (hr.mono (by decide)) (by rfl) T.m_law_draw T.F_law_draw.kp T.b_law_draw .nil pass0 (pa_cons (pv 0) (pa_cons pe_int pa_nil))) (fun _ _ => rfl)) pa_nil)) (blkOk_by (N := ["purse", "signs", "lots", "turn"]) (sc := defScope s_law_rule) (by decide +kernel)) (fun _ _ _ _ _ => (pg_name (i := 3) sc_law_rule.nd rfl (Or.inl rfl))) (fun _ _ _ _ _ => pts_nil) (fun _ _ _ _ _ => (pe_call (ok_law_condition T) (hr.mono (by decide)) (by rfl) T.m_law_condition T.F_law_condition.kp T.b_law_condition .nil pass0 (pa_cons (pv 0) (pa_cons (pv 1) pa_nil)))))
      (pss_one (ps_ret (pe_tup (pa_cons (pe_call (ok_law_text T) (hr.mono (by decide)) (by rfl) T.m_law_text T.F_law_text.kp T.b_law_text .nil pass0 (pa_cons (pv 0) (pa_cons (pv 1) (pa_cons pe_int (pa_cons pe_int pa_nil))))) (pa_cons (pe_call (ok_law_text T) (hr.mono (by decide)) (by rfl) T.m_law_text T.F_law_text.kp T.b_law_text .nil pass0 (pa_cons (pv 0) (pa_cons (pv 1) (pa_cons pe_int (pa_cons pe_int pa_nil))))) (pa_cons (pe_callTy (tupK K) (by rfl) T.z_tuple B_tuple (pa_cons (pv 2) pa_nil)) pa_nil))))))), ?_⟩
    walk_at "kk"
    intro l hl
    have p0 := hp.new (o := .lst [.int 0, .int 0, .int 1, .int 1, .int 2]) hl
    have nl : l ∉ [p] := fun z => hp.ne hl (List.mem_singleton.mp z).symm
    walk_at "kk"
    refine ⟨p, 5, n, rfl, by omega, by omega, p0, by omega, fun H1 d g1 p1 d1 d2 => ?_⟩
    obtain ⟨m, hm, m1, m2⟩ : ∃ m : Int, ([.int 0, .int 0, .int 1, .int 1, .int 2] : List V)[d.toNat]? = some (.int m) ∧ 0 ≤ m ∧ m ≤ 2 := by
      have h4 : d = 0 ∨ d = 1 ∨ d = 2 ∨ d = 3 ∨ d = 4 := by omega
      rcases h4 with rfl | rfl | rfl | rfl | rfl
      · exact ⟨0, rfl, by decide, by decide⟩
      · exact ⟨0, rfl, by decide, by decide⟩
      · exact ⟨1, rfl, by decide, by decide⟩
      · exact ⟨1, rfl, by decide, by decide⟩
      · exact ⟨2, rfl, by decide, by decide⟩
    apply k_rv
    · exact rv_ixL (Evl.sq_of (g1 l _ nl upd_same)) (at_int d1 hm)
    have g1' : Gr [p] H H1 := (Gr.new hl).trans g1
    walk_at "kk"
    refine k_onR1 (by omega) (lc_go (walk_range (lo := 0) (n := m.toNat)) (fun D i H' => p ≠ D ∧ H D = none ∧ Gr [D, p] H H' ∧ Pu H' p (n + 1 + i * 10000) ∧ ∃ (vs : List V) (cs : List Cond), H' D = some (.lst vs) ∧ DqAll K [D, p] H' vs (cs.map enc) ∧ cs.length = i ∧ ∀ c ∈ cs, smc z c) (by intro _; rfl) (fun D hD => ?_) (fun _ _ _ _ _ => trivial) (fun D i x Ha Hb hi iv hy => ?_) (fun D H2 iv => ?_))
    · have hpD := p1.ne hD
      exact ⟨hpD, g1'.free hD (by simpa using hpD.symm), (g1'.more (by simp)).trans (Gr.mut (by simp)), p1.up (upd_ne hpD) (by omega), [], [], upd_same, .nil, rfl, by simp⟩
    · obtain ⟨hpD, hD0, g2, p2, vs, cs, e2, dv2, l2, m2⟩ := iv
      obtain ⟨rfl, rfl⟩ := hy
      walk_at "kk"
      refine ⟨p, z, n + 1 + i * 10000, rfl, hz, hz2, p2, by omega, fun H3 v c g3 p3 dv sm => ?_⟩
      have e3 : H3 D = some (.lst vs) := g3 D _ (by simpa using hpD.symm) e2
      have g3' : Gr [D, p] Hb H3 := g3.more (by simp)
      have gm : Gr [D, p] H3 (upd H3 D (.lst (vs ++ [v]))) := Gr.mut (by simp)
      have dvD : Dq K [D, p] H3 v (enc c) := dv.avoid e3 (noLst_enc c)
      refine k_add e3 (by rw [dv2.len, List.length_map]; omega) ⟨hpD, hD0, (g2.trans g3').trans gm, p3.up (upd_ne hpD) (by omega), vs ++ [v], cs ++ [c], upd_same, ?_, by simp [l2], fun t ht => ?_⟩
      · rw [List.map_append]
        exact ((dv2.up g3').append (.cons dvD .nil)).up gm
      · rcases List.mem_append.mp ht with h | h
        · exact m2 t h
        · rw [List.mem_singleton.mp h]; exact sm
    · obtain ⟨hpD, hD0, g2, p2, vs, cs, e2, dv2, l2, m2'⟩ := iv
      have g2' := g2.less hD0
      walk_at "kk"
      refine ⟨p, z, 1, 2, n + 1 + m.toNat * 10000, rfl, by omega, by omega, by omega, hz, hz2, p2, by omega, fun H3 x g3 p3 mx lx1 lx2 => ?_⟩
      walk_at "kk"
      refine ⟨p, z, 0, 2, n + 1 + m.toNat * 10000 + 1001, rfl, by omega, by omega, by omega, hz, hz2, p3, by omega, fun H4 y g4 p4 my ly1 ly2 => ?_⟩
      have e4 : H4 D = some (.lst vs) := g4 D _ (by simpa using hpD.symm) (g3 D _ (by simpa using hpD.symm) e2)
      walk_at "kk"
      refine k_tupOfL (Evl.sq_of e4) fun t1 ht1 => ?_
      have dvs : DqAll K [p] (upd H4 t1 (.tup vs)) vs (cs.map enc) := ((dv2.less1.up g3).up g4).up (Gr.new ht1)
      walk_at "kk"
      intro t2 ht2
      have p5 := (p4.new (o := .tup vs) ht1).new (o := .tup [.str x, .str y, .ref t1]) ht2
      have np1 : t1 ∉ [p] := fun z => p4.ne ht1 (List.mem_singleton.mp z).symm
      have np2 : t2 ∉ [p] := fun z => (p4.new (o := .tup vs) ht1).ne ht2 (List.mem_singleton.mp z).symm
      have gAll : Gr [p] H (upd (upd H4 t1 (.tup vs)) t2 (.tup [.str x, .str y, .ref t1])) := g2'.trans (g3.trans (g4.trans ((Gr.new ht1).trans (Gr.new ht2))))
      refine q _ _ ⟨x, y, cs⟩ gAll (p5.up rfl (by omega)) ?_ ⟨⟨(show 1 ≤ x.length by omega), (show x.length ≤ 2 by omega), mx⟩, ⟨(show y.length ≤ 2 by omega), my⟩, (show cs.length ≤ 2 by omega), m2'⟩
      refine Dq.tup np2 upd_same (.cons (Dq.str x) (.cons (Dq.str y) (.cons ?_ .nil)))
      exact (Dq.tup np1 upd_same dvs).up (Gr.new ht2)
end
end K02
set_option Elab.async false
set_option linter.all false
set_option maxRecDepth 100000
set_option maxHeartbeats 4000000
namespace K02
open PySem PySem.Spec PyProof.Rows L2 TL Mi
/-! ### short words -/
local macro_rules | `(tactic| walk_at "idx") => `(tactic| first | assumption | exact Evl.sq_of (by assumption) | exact Evl.st_of (by assumption) | exact Evl.sq_of upd_same | exact Evl.st_of upd_same)
local macro_rules | `(tactic| walk_at "side") => `(tactic| first | omega | exact Or.inl ⟨by omega, by omega⟩ | exact Or.inr ⟨by omega, by omega⟩ | exact ⟨by omega, by omega⟩ | decide +kernel)
local macro_rules | `(tactic| walk_at "div") => `(tactic| exact wide_div (b := 30) (by omega) (by omega) (by decide) (by decide))
local macro_rules | `(tactic| walk_at "pow") => `(tactic| exact ⟨by decide +kernel, by decide +kernel, by decide +kernel⟩)
local macro_rules | `(tactic| walk_at "rv") => `(tactic| first
  | with_reducible exact rv_addI | with_reducible exact rv_sub | with_reducible exact rv_lt | with_reducible exact rv_le | with_reducible exact rv_gt | with_reducible exact rv_ge
  | with_reducible exact rv_inC | with_reducible exact rv_notInC | with_reducible exact rv_isB
  | (with_reducible apply rv_mul
     walk_at "side")
  | (with_reducible apply rv_mod
     walk_at "side")
  | (with_reducible apply rv_div
     walk_at "div")
  | (with_reducible apply rv_pow
     walk_at "pow")
  | (with_reducible apply rv_eq
     exact rfl)
  | (with_reducible apply rv_ne
     exact rfl)
  | (with_reducible apply rv_ixL
     · walk_at "idx"
     · exact rfl)
  | (with_reducible apply rv_ixT
     · walk_at "idx"
     · exact rfl)
  | (with_reducible apply rv_ixS
     · walk_at "side"
     · exact rfl)
  | (with_reducible apply rv_addS
     walk_at "side"))
local macro_rules | `(tactic| walk_at "val") => `(tactic| first
  | with_reducible exact val_c | exact val_c
  | (with_reducible apply val_var
     exact rfl)
  | (with_reducible apply val_bin
     · walk_at "val"
     · walk_at "val"
     · walk_at "rv")
  | (with_reducible apply val_int1
     walk_at "val")
  | (with_reducible apply val_max2
     · walk_at "val"
     · walk_at "val")
  | (with_reducible apply val_min2
     · walk_at "val"
     · walk_at "val")
  | (with_reducible apply val_endsw
     · walk_at "val"
     · walk_at "val")
  | (with_reducible apply val_lenS
     · walk_at "val"
     · walk_at "side")
  | (with_reducible apply val_lenL
     · walk_at "val"
     · walk_at "idx")
  | (with_reducible apply val_lenT
     · walk_at "val"
     · walk_at "idx")
  | (with_reducible apply val_notV
     walk_at "val"))
local macro_rules | `(tactic| walk_at "ans") => `(tactic| first
  | (with_reducible apply ans_T
     walk_at "val")
  | (with_reducible apply ans_B
     walk_at "val")
  | (with_reducible apply ans_not
     walk_at "ans"))
local macro_rules | `(tactic| walk_at "ifp") => `(tactic| first
  | (with_reducible refine Eq.mpr (if_pos ?_) ?_
     · decide +kernel)
  | (with_reducible refine Eq.mpr (if_neg ?_) ?_
     · decide +kernel))
local macro_rules | `(tactic| walk_at "k") => `(tactic| first
  | with_reducible apply k_seq | with_reducible apply k_asg | with_reducible apply k_ret | with_reducible apply k_ifS | with_reducible apply k_drop | with_reducible apply k_name
  | (with_reducible apply k_var
     · exact rfl)
  | with_reducible apply k_c
  | with_reducible apply k_op | with_reducible apply k_cb | with_reducible apply k_call | with_reducible apply k_cons | with_reducible apply k_nil | with_reducible apply k_tup | with_reducible apply k_lst
  | with_reducible apply k_ifE | with_reducible apply k_test | with_reducible apply k_tb | with_reducible apply k_not | with_reducible apply k_and | with_reducible apply k_or | with_reducible apply k_bl
  | with_reducible apply k_sl | with_reducible apply k_part | with_reducible apply k_isI | with_reducible apply k_nopart
  | with_reducible apply k_lcZS | with_reducible apply k_onZS | with_reducible apply k_un | with_reducible apply k_neg
  | with_reducible apply k_forEB | with_reducible apply k_forSB | with_reducible apply k_lcSB | with_reducible apply k_fld | with_reducible apply k_prop | with_reducible apply k_sfld | with_reducible apply k_make | with_reducible apply k_makeK | with_reducible apply k_mkO | with_reducible apply k_par | with_reducible apply k_parR
  | with_reducible apply k_lcS | with_reducible apply k_lcR | with_reducible apply k_lcL | with_reducible apply k_lcT | with_reducible apply k_forS | with_reducible apply k_forR | with_reducible apply k_forL | with_reducible apply k_forT | with_reducible apply k_onS | with_reducible apply k_yes
  | (with_reducible apply k_augC
     · exact rfl)
  | with_reducible apply k_next | with_reducible apply k_eqInt | with_reducible apply k_neInt | with_reducible apply k_eqStr | with_reducible apply k_neStr
  | with_reducible apply k_andV | with_reducible apply k_orV | with_reducible apply k_notV
  | with_reducible apply k_m1 | with_reducible apply k_onStr | with_reducible apply k_endsw
  | (with_reducible apply k_slS
     · walk_at "side")
  | (with_reducible apply k_newT
     · walk_at "len")
  | (with_reducible apply k_newL
     · walk_at "len")
  | with_reducible apply k_int1 | with_reducible apply k_max2 | with_reducible apply k_min2
  | (with_reducible apply k_lenS
     · walk_at "side")
  | (with_reducible apply k_lenL
     · walk_at "idx")
  | (with_reducible apply k_lenT
     · walk_at "idx")
  | (with_reducible apply k_rv
     · walk_at "rv")
  | walk_at "ifp")
local macro_rules | `(tactic| walk_at "kk") => `(tactic| (repeat (walk_at "k")))
local macro_rules | `(tactic| walk_at "len") => `(tactic| first | exact (by decide : (1:Nat) ≤ 100000) | exact (by decide : (2:Nat) ≤ 100000) | exact (by decide : (3:Nat) ≤ 100000) | exact (by decide : (4:Nat) ≤ 100000) | exact (by decide : (7:Nat) ≤ 100000) | (simp only [List.length_cons, List.length_nil]; omega) | omega)
local macro_rules | `(tactic| walk_at "up") => `(tactic| first
  | assumption
  | (refine Dq.up ?_ (Gr.new (by assumption))
     walk_at "up")
  | (refine Dq.up ?_ (by assumption)
     walk_at "up"))
local macro_rules | `(tactic| walk_at "lit") => `(tactic| first
  | with_reducible exact lit_str | with_reducible exact lit_int | with_reducible exact lit_bl | with_reducible exact lit_non | with_reducible exact lit_neg | with_reducible exact lit_nil | with_reducible exact lit_dic
  | (with_reducible apply lit_cons
     · walk_at "lit"
     · walk_at "lit")
  | (with_reducible apply lit_tup
     · walk_at "lit"
     · decide)
  | (with_reducible apply lit_lst
     · walk_at "lit"
     · decide))

section
variable {P : Program} {w : World} {K : PySem.W.Frag} {mg : Str → Option Value} {base : Heap}
theorem encR_at {S : List Addr} {H : Hp} {v : V} {r : RD} (h : Dp K H v (encR r)) : ∃ a c, v = .ref a ∧ SqT K H a [.str r.e, .str r.p, c] ∧ Dp K H c (encs r.cs) := by
  cases h with
  | @tup a xs _ ha hd =>
    cases hd with
    | cons h1 hr1 =>
      cases h1
      cases hr1 with
      | cons h2 hr2 =>
        cases h2
        cases hr2 with
        | @cons c _ _ _ h3 hr3 =>
          cases hr3
          exact ⟨a, c, rfl, ha, h3⟩
def fstE : PyData → V
  | .tuple (.str e :: _) => .str e
  | _ => .non
/-- a drawn step -/
def smS (z : Str) (top : Nat) (s : SD) : Prop := s.rs.length ≤ top ∧ (∀ r ∈ s.rs, smR z r) ∧ (s.mode = "longest" ∨ s.mode = "first") ∧ (s.mode = "longest" → (s.rs.map RD.e).Nodup)
def stepI (K : PySem.W.Frag) (H : Hp) (f p : Addr) (z md : Str) (n i : Nat) (H' : Hp) : Prop := Gr [f, p] H H' ∧ Pu H' p (n + 2 + i * 30000) ∧ ∃ (xs : List V) (rs : List RD), H' f = some (.lst xs) ∧ DqAll K [f, p] H' xs (rs.map encR) ∧ rs.length ≤ i ∧ (∀ r ∈ rs, smR z r) ∧ (md = "longest" → (rs.map RD.e).Nodup)
theorem fst_str {r : RD} {H : Hp} {v : V} (h : Dp K H v (encR r)) : ∃ a xs, v = .ref a ∧ SqT K H a (.str r.e :: xs) := by
  obtain ⟨a, c, rfl, h, _⟩ := encR_at (S := []) h
  exact ⟨a, _, rfl, h⟩
def spLStep (K : PySem.W.Frag) : Sp := fun vs H Q _ => ∃ (p : Addr) (z : Str) (top n : Nat), vs = [.ref p, .str z, .int (top : Nat)] ∧ top ≤ 8 ∧ 0 < z.length ∧ z.length ≤ 100 ∧ Pu H p n ∧ n < 2 ^ 36 ∧
  ∀ (H' : Hp) (v : V) (s : SD), Gr [p] H H' → Pu H' p (n + 400000) → Dq K [p] H' v (encS s) → smS z top s → Q v H'
theorem ok_law_step (T : Txt K mg) : FnOk P w K mg base CX0 6 T.a_law_step T.fd_law_step ["purse", "signs", "top"] (spLStep K) := by
  refine T.F_law_step.ok sc_law_step (fun vs H Q E h => ?_) (fun cdv A outer s H vs Q E hr h => ?_)
  · obtain ⟨p, z, top, n, rfl, _⟩ := h
    rfl
  · obtain ⟨p, z, top, n, rfl, htop, hz, hz2, hp, hn, q⟩ := h
    refine ⟨_, (pss_cons (ps_par (i := 3) (j := 4) (by rfl) sc_law_step.nd rfl rfl (by decide) rfl rfl (pa_cons (pe_lst pa_nil) (pa_cons (pe_ix (ixK K) (pe_lst (pa_cons pe_str (pa_cons pe_str pa_nil))) (pe_call (ok_law_draw T) (hr.mono (by decide)) (by rfl) T.m_law_draw T.F_law_draw.kp T.b_law_draw .nil pass0 (pa_cons (pv 0) (pa_cons pe_int pa_nil))) (fun _ _ => rfl)) pa_nil)) (by rfl))
      (pss_cons (ps_for PassesOwn.never rfl (pi_range1 (by rfl) T.z_range (pa_cons (pe_call (ok_law_draw T) (hr.mono (by decide)) (by rfl) T.m_law_draw T.F_law_draw.kp T.b_law_draw .nil pass0 (pa_cons (pv 0) (pa_cons (pe_op (addK K) (pv 2) pe_int) pa_nil))) pa_nil)) (pg_name (i := 5) sc_law_step.nd rfl (Or.inl rfl)) (pss_cons (ps_set (i := 6) sc_law_step.nd rfl (Or.inl rfl) (pe_call (ok_law_rule T) (hr.mono (by decide)) (by rfl) T.m_law_rule T.F_law_rule.kp T.b_law_rule .nil pass0 (pa_cons (pv 0) (pa_cons (pv 1) pa_nil))))
      (pss_one (ps_if (PW.pt (pw_or (pt_cmpR (eqK K hr) (pv 4) pe_str (nomark _)) (pw_or1 (pt_cmpR (notInSK K) (pe_ix (ixK K) (pv 6) pe_int (fun _ _ => rfl)) (pe_lc (own := [("one_rule", 7)]) (by rfl) sc_law_step.nd (listK K (pv 3)) (blkOk_by (N := ["purse", "signs", "top", "found", "how", "turn", "one", "one_rule"]) (sc := defScope s_law_step) (by decide +kernel)) (fun _ _ _ _ _ => (pg_name (i := 7) sc_law_step.nd rfl (Or.inl rfl))) (fun _ _ _ _ _ => pts_nil) (fun _ _ _ _ _ => (pe_ix (ixK K) (pv 7) pe_int (fun _ _ => rfl)))) (by rfl))))) (pss_one (ps_expr (appK K (pv 3) (pv 6)))) pss_nil))))
      (pss_one (ps_ret (pe_tup (pa_cons (pv 3) (pa_cons (pv 4) pa_nil))))))), ?_⟩
    walk_at "kk"
    intro f hf
    have p0 := hp.new (o := .lst []) hf
    have nf : f ∉ [p] := fun z => hp.ne hf (List.mem_singleton.mp z).symm
    walk_at "kk"
    intro l hl
    have p1 := p0.new (o := .lst [.str "longest", .str "first"]) hl
    have nl : l ∉ [p] := fun z => p0.ne hl (List.mem_singleton.mp z).symm
    walk_at "kk"
    refine ⟨p, 2, n, rfl, by omega, by omega, p1, by omega, fun H1 d g1 p2 d1 d2 => ?_⟩
    obtain ⟨md, hm, md2⟩ : ∃ md : Str, ([.str "longest", .str "first"] : List V)[d.toNat]? = some (.str md) ∧ (md = "longest" ∨ md = "first") := by
      have h4 : d = 0 ∨ d = 1 := by omega
      rcases h4 with rfl | rfl
      · exact ⟨"longest", rfl, .inl rfl⟩
      · exact ⟨"first", rfl, .inr rfl⟩
    apply k_rv
    · exact rv_ixL (Evl.sq_of (g1 l _ nl upd_same)) (at_int d1 hm)
    have ef1 : H1 f = some (.lst []) := g1 f _ nf (by rw [upd_ne (ne_of_none upd_same hl)]; exact upd_same)
    have gA : Gr [f, p] H H1 := ((Gr.new hf).trans ((Gr.new hl).trans g1)).more (by simp)
    walk_at "kk"
    have fp : f ≠ p := by simpa using nf
    refine ⟨p, (top : Nat) + 1, n + 1, rfl, by omega, by omega, p2, by omega, fun H2 m g2 p3 m1 m2 => ?_⟩
    walk_at "kk"
    have g2' : Gr [f, p] H H2 := gA.trans (g2.more (by simp))
    have ef2 := g2 f _ nf ef1
    refine k_onR1 (by omega) (for_go (walk_rng (n := m.toNat)) (fun i σ H' => stepI K H f p z md n i H' ∧ ∃ y1 y2 y3, σ = [some (.ref p), some (.str z), some (.int (top : Nat)), some (.ref f), some (.str md), y1, y2, y3]) ⟨⟨g2', p3, [], [], ef2, .nil, Nat.le_refl _, by simp, by simp⟩, none, none, none, rfl⟩ (fun _ _ _ _ _ => trivial) (fun i x σ Ha Hb hi iv hy => ?_) (fun σ H3 iv => ?_))
    · obtain ⟨⟨g3, p4, xs, rs, ef, dx, lr, sm, nd⟩, y1, y2, y3, rfl⟩ := iv
      obtain ⟨rfl, rfl⟩ := hy
      walk_at "kk"
      refine ⟨p, z, _, rfl, hz, hz2, p4, by omega, fun H4 v r g4 p5 dv smr => ?_⟩
      have ef4 : H4 f = some (.lst xs) := g4 f _ nf ef
      have g4' : Gr [f, p] Hb H4 := g4.more (by simp)
      have dvf : Dq K [f, p] H4 v (encR r) := dv.avoid ef4 (noLst_encR r)
      obtain ⟨av, cv, rfl, hv, _⟩ := encR_at (S := []) dv.dp
      walk_at "kk"
      have add : ∀ H5, Same H4 H5 → (md = "longest" → r.e ∉ rs.map RD.e) → stepI K H f p z md n (i + 1) (upd H5 f (.lst (xs ++ [.ref av]))) := by
        intro H5 s5 no
        have gm : Gr [f, p] H5 (upd H5 f (.lst (xs ++ [.ref av]))) := Gr.mut (by simp)
        have g5 : Gr [f, p] H4 H5 := Gr.of s5
        refine ⟨(g3.trans (g4'.trans g5)).trans gm, (p5.same s5).up (upd_ne (Ne.symm fp)) (by omega), xs ++ [.ref av], rs ++ [r], upd_same, ?_, by simp; omega, fun q hq => ?_, fun e => ?_⟩
        · rw [List.map_append]
          exact (((dx.up g4').up g5).append (.cons (dvf.up g5) .nil)).up gm
        · rcases List.mem_append.mp hq with h | h
          · exact sm q h
          · rw [List.mem_singleton.mp h]; exact smr
        · rw [List.map_append, List.nodup_append]
          refine ⟨nd e, by simp, fun x hx y hy => ?_⟩
          rw [List.mem_singleton.mp hy]
          intro z
          exact no e (z ▸ hx)
      have xl : xs.length ≤ 100 := by rw [dx.len, List.length_map]; omega
      refine k_ite (fun hb => ?_) (fun hb => ?_)
      · have hb := of_decide_eq_true hb
        walk_at "kk"
        refine k_appV rfl rfl ef4 (by omega) ?_
        exact ⟨add H4 (Same.refl H4) (fun e => by rw [e] at hb; exact absurd hb (by decide +kernel)), _, _, _, rfl⟩
      · walk_at "kk"
        have dp4 : DpAll K H4 xs (rs.map encR) := (dx.up g4').dp
        refine k_onL (Evl.sq_of ef4) (lc_mapLD fstE (Evl.sq_of ef4) dp4 (by rw [List.length_map]; omega) (by intro _; rfl) (fun v d H5 hd dv5 s5 Q2 k2 => ?_) (fun D H5 n5 s5 e5 => ?_))
        · obtain ⟨r2, _, rfl⟩ := List.mem_map.mp hd
          obtain ⟨a2, ys, rfl, h2⟩ := fst_str dv5
          walk_at "kk"
          apply k_rv
          · exact rv_ixT h2 (at_int (by decide) rfl)
          exact k2 _ (Same.refl _)
        · walk_at "kk"
          rw [List.map_map, show fstE ∘ encR = V.str ∘ RD.e from rfl, ← List.map_map] at e5
          refine k_inS (Evl.sq_of e5) ?_
          walk_at "kk"
          refine k_ite (fun hb2 => ?_) (fun hb2 => ?_)
          · walk_at "kk"
            refine k_appV rfl rfl (s5 _ _ ef4) (by omega) ?_
            refine ⟨add H5 s5 (fun _ mem => ?_), _, _, _, rfl⟩
            have z2 : ((rs.map RD.e).any fun t => t == r.e) = true := List.any_eq_true.mpr ⟨_, mem, by simp⟩
            rw [z2] at hb2
            cases hb2
          · walk_at "kk"
            exact ⟨⟨(g3.trans g4').trans (Gr.of s5), (p5.same s5).up rfl (by omega), xs, rs, s5 _ _ ef4, (dx.up g4').up (Gr.of s5), by omega, sm, nd⟩, _, _, _, rfl⟩
    · obtain ⟨⟨g3, p4, xs, rs, ef, dx, lr, sm, nd⟩, y1, y2, y3, rfl⟩ := iv
      walk_at "kk"
      intro t ht
      have np : t ∉ [p] := fun z => p4.ne ht (List.mem_singleton.mp z).symm
      refine q _ _ ⟨rs, md⟩ ((g3.less hf).trans (Gr.new ht)) ((p4.new ht).up rfl (by omega)) ?_ ⟨(show rs.length ≤ top by omega), sm, md2, nd⟩
      refine Dq.tup np upd_same (.cons ?_ (.cons (Dq.str md) .nil))
      exact (Dq.lst nf ef dx.less1).up (Gr.new ht)
end
end K02
set_option Elab.async false
set_option linter.all false
set_option maxRecDepth 100000
set_option maxHeartbeats 4000000
namespace K02
open PySem PySem.Spec PyProof.Rows L2 TL Mi
/-! ### short words -/
local macro_rules | `(tactic| walk_at "idx") => `(tactic| first | assumption | exact Evl.sq_of (by assumption) | exact Evl.st_of (by assumption) | exact Evl.sq_of upd_same | exact Evl.st_of upd_same)
local macro_rules | `(tactic| walk_at "side") => `(tactic| first | omega | exact Or.inl ⟨by omega, by omega⟩ | exact Or.inr ⟨by omega, by omega⟩ | exact ⟨by omega, by omega⟩ | decide +kernel)
local macro_rules | `(tactic| walk_at "div") => `(tactic| exact wide_div (b := 30) (by omega) (by omega) (by decide) (by decide))
local macro_rules | `(tactic| walk_at "pow") => `(tactic| exact ⟨by decide +kernel, by decide +kernel, by decide +kernel⟩)
local macro_rules | `(tactic| walk_at "rv") => `(tactic| first
  | with_reducible exact rv_addI | with_reducible exact rv_sub | with_reducible exact rv_lt | with_reducible exact rv_le | with_reducible exact rv_gt | with_reducible exact rv_ge
  | with_reducible exact rv_inC | with_reducible exact rv_notInC | with_reducible exact rv_isB
  | (with_reducible apply rv_mul
     walk_at "side")
  | (with_reducible apply rv_mod
     walk_at "side")
  | (with_reducible apply rv_div
     walk_at "div")
  | (with_reducible apply rv_pow
     walk_at "pow")
  | (with_reducible apply rv_eq
     exact rfl)
  | (with_reducible apply rv_ne
     exact rfl)
  | (with_reducible apply rv_ixL
     · walk_at "idx"
     · exact rfl)
  | (with_reducible apply rv_ixT
     · walk_at "idx"
     · exact rfl)
  | (with_reducible apply rv_ixS
     · walk_at "side"
     · exact rfl)
  | (with_reducible apply rv_addS
     walk_at "side"))
local macro_rules | `(tactic| walk_at "val") => `(tactic| first
  | with_reducible exact val_c | exact val_c
  | (with_reducible apply val_var
     exact rfl)
  | (with_reducible apply val_bin
     · walk_at "val"
     · walk_at "val"
     · walk_at "rv")
  | (with_reducible apply val_int1
     walk_at "val")
  | (with_reducible apply val_max2
     · walk_at "val"
     · walk_at "val")
  | (with_reducible apply val_min2
     · walk_at "val"
     · walk_at "val")
  | (with_reducible apply val_endsw
     · walk_at "val"
     · walk_at "val")
  | (with_reducible apply val_lenS
     · walk_at "val"
     · walk_at "side")
  | (with_reducible apply val_lenL
     · walk_at "val"
     · walk_at "idx")
  | (with_reducible apply val_lenT
     · walk_at "val"
     · walk_at "idx")
  | (with_reducible apply val_notV
     walk_at "val"))
local macro_rules | `(tactic| walk_at "ans") => `(tactic| first
  | (with_reducible apply ans_T
     walk_at "val")
  | (with_reducible apply ans_B
     walk_at "val")
  | (with_reducible apply ans_not
     walk_at "ans"))
local macro_rules | `(tactic| walk_at "ifp") => `(tactic| first
  | (with_reducible refine Eq.mpr (if_pos ?_) ?_
     · decide +kernel)
  | (with_reducible refine Eq.mpr (if_neg ?_) ?_
     · decide +kernel))
local macro_rules | `(tactic| walk_at "k") => `(tactic| first
  | with_reducible apply k_seq | with_reducible apply k_asg | with_reducible apply k_ret | with_reducible apply k_ifS | with_reducible apply k_drop | with_reducible apply k_name
  | (with_reducible apply k_var
     · exact rfl)
  | with_reducible apply k_c
  | with_reducible apply k_op | with_reducible apply k_cb | with_reducible apply k_call | with_reducible apply k_cons | with_reducible apply k_nil | with_reducible apply k_tup | with_reducible apply k_lst
  | with_reducible apply k_ifE | with_reducible apply k_test | with_reducible apply k_tb | with_reducible apply k_not | with_reducible apply k_and | with_reducible apply k_or | with_reducible apply k_bl
  | with_reducible apply k_sl | with_reducible apply k_part | with_reducible apply k_isI | with_reducible apply k_nopart
  | with_reducible apply k_lcZS | with_reducible apply k_onZS | with_reducible apply k_un | with_reducible apply k_neg
  | with_reducible apply k_forEB | with_reducible apply k_forSB | with_reducible apply k_lcSB | with_reducible apply k_fld | with_reducible apply k_prop | with_reducible apply k_sfld | with_reducible apply k_make | with_reducible apply k_makeK | with_reducible apply k_mkO | with_reducible apply k_par | with_reducible apply k_parR
  | with_reducible apply k_lcS | with_reducible apply k_lcR | with_reducible apply k_lcL | with_reducible apply k_lcT | with_reducible apply k_forS | with_reducible apply k_forR | with_reducible apply k_forL | with_reducible apply k_forT | with_reducible apply k_onS | with_reducible apply k_yes
  | (with_reducible apply k_augC
     · exact rfl)
  | with_reducible apply k_next | with_reducible apply k_eqInt | with_reducible apply k_neInt | with_reducible apply k_eqStr | with_reducible apply k_neStr
  | with_reducible apply k_andV | with_reducible apply k_orV | with_reducible apply k_notV
  | with_reducible apply k_m1 | with_reducible apply k_onStr | with_reducible apply k_endsw
  | (with_reducible apply k_slS
     · walk_at "side")
  | (with_reducible apply k_newT
     · walk_at "len")
  | (with_reducible apply k_newL
     · walk_at "len")
  | with_reducible apply k_int1 | with_reducible apply k_max2 | with_reducible apply k_min2
  | (with_reducible apply k_lenS
     · walk_at "side")
  | (with_reducible apply k_lenL
     · walk_at "idx")
  | (with_reducible apply k_lenT
     · walk_at "idx")
  | (with_reducible apply k_rv
     · walk_at "rv")
  | walk_at "ifp")
local macro_rules | `(tactic| walk_at "kk") => `(tactic| (repeat (walk_at "k")))
local macro_rules | `(tactic| walk_at "len") => `(tactic| first | exact (by decide : (1:Nat) ≤ 100000) | exact (by decide : (2:Nat) ≤ 100000) | exact (by decide : (3:Nat) ≤ 100000) | exact (by decide : (4:Nat) ≤ 100000) | exact (by decide : (7:Nat) ≤ 100000) | (simp only [List.length_cons, List.length_nil]; omega) | omega)
local macro_rules | `(tactic| walk_at "up") => `(tactic| first
  | assumption
  | (refine Dq.up ?_ (Gr.new (by assumption))
     walk_at "up")
  | (refine Dq.up ?_ (by assumption)
     walk_at "up"))
local macro_rules | `(tactic| walk_at "lit") => `(tactic| first
  | with_reducible exact lit_str | with_reducible exact lit_int | with_reducible exact lit_bl | with_reducible exact lit_non | with_reducible exact lit_neg | with_reducible exact lit_nil | with_reducible exact lit_dic
  | (with_reducible apply lit_cons
     · walk_at "lit"
     · walk_at "lit")
  | (with_reducible apply lit_tup
     · walk_at "lit"
     · decide)
  | (with_reducible apply lit_lst
     · walk_at "lit"
     · decide))

section
variable {P : Program} {w : World} {K : PySem.W.Frag} {mg : Str → Option Value} {base : Heap}
/-- a rule that is let -/
structure Let (r : RD) : Prop where
  ze : r.e.length ≤ 50000
  zp : r.p.length ≤ 50000
  we : isWordOf (.str r.e) alph = true
  wp : isTextOf (.str r.p) alph = true
  lc : r.cs.length ≤ 50000
  ft : ∀ c ∈ r.cs, Fit c
theorem Let.wf {r : RD} (h : Let r) : wfR r := shaped_condsT h.ft
def condsAt (K : PySem.W.Frag) (H : Hp) (c : V) (cs : List Cond) : Prop := ∃ (ca : Addr) (t : Bool) (xs : List V), c = .ref ca ∧ SqB K t H ca xs ∧ DpAll K H xs (cs.map enc)
theorem conds_dp {H : Hp} {c : V} {cs : List Cond} (h : Dp K H c (encs cs)) : condsAt K H c cs := by
  cases h with
  | tup h a => exact ⟨_, true, _, rfl, h, a⟩
theorem rule_ok (T : Txt K mg) {H : Hp} {r : RD} {c : V} {Q : VK} {E : XK} {x dx : Addr} (hc : condsAt K H c r.cs) (lt : Let r) (h1 : H x = none) (h2 : H dx = none) (ne : dx ≠ x) (k : ∀ x H', Same H H' → RuA K T.C_Rule H' x r → Q x H') :
    spRule T [.ref x, .str r.e, .str r.p, c] (upd (upd H dx (.own x)) x (.ins T.C_Rule dx [])) (fun v H2 => v = .non ∧ Q (.ref x) H2) E := by
  obtain ⟨ca, t, xs, rfl, hx, hd⟩ := hc
  have ms := made_same (C := T.C_Rule) h1 h2 ne
  exact ⟨x, dx, _, _, _, .str r.e, .str r.p, rfl, upd_same, .inl (.str _), lt.ze, .inl (.str _), lt.zp, .inr ⟨lt.we, .inr ⟨lt.wp, .inr ⟨r.e, r.p, r.cs, ca, t, xs, rfl, rfl, rfl, hx.up ms, DpAll.up ms hd, lt.lc, lt.ft, fun H' g ru => ⟨rfl, k (.ref x) H' (made_up h1 h2 ne g) ru⟩⟩⟩⟩⟩
theorem step_okX (T : Txt K mg) {H : Hp} {s : SD} {r : V} {xs : List V} {Q : VK} {E : XK} {x dx : Addr} (hr : rulesAt T r H s.rs xs) (om : okS s.mode) (im : isMode (.str s.mode) = true) (nd : s.mode = "longest" → (s.rs.map RD.e).Nodup) (h1 : H x = none) (h2 : H dx = none) (ne : dx ≠ x)
    (k : ∀ x H', Same H H' → StX K T.C_Step T.C_Rule H' x s xs → Q x H') : spStep T [.ref x, r, .str s.mode] (upd (upd H dx (.own x)) x (.ins T.C_Step dx [])) (fun v H2 => v = .non ∧ Q (.ref x) H2) E := by
  obtain ⟨ra, t, rfl, hx, hru, hl⟩ := hr
  have ms := made_same (C := T.C_Step) h1 h2 ne
  exact ⟨x, dx, _, _, rfl, upd_same, .inr ⟨s.rs, xs, ⟨ra, t, rfl, hx.up ms, hru.up ms, hl⟩, .inr ⟨s.mode, rfl, om, im, .inr ⟨nd, fun H' g st => ⟨rfl, k (.ref x) H' (made_up h1 h2 ne g) st⟩⟩⟩⟩⟩
theorem step_ok (T : Txt K mg) {H : Hp} {s : SD} {r : V} {Q : VK} {E : XK} {x dx : Addr} (hr : rulesOk T r H s.rs) (om : okS s.mode) (im : isMode (.str s.mode) = true) (nd : s.mode = "longest" → (s.rs.map RD.e).Nodup) (h1 : H x = none) (h2 : H dx = none) (ne : dx ≠ x)
    (k : ∀ x H', Same H H' → StA K T.C_Step T.C_Rule H' x s → Q x H') : spStep T [.ref x, r, .str s.mode] (upd (upd H dx (.own x)) x (.ins T.C_Step dx [])) (fun v H2 => v = .non ∧ Q (.ref x) H2) E := by
  obtain ⟨ra, t, xs, e, hx, hru, hl⟩ := hr
  exact step_okX T ⟨ra, t, e, hx, hru, hl⟩ om im nd h1 h2 ne fun x H' s st => k x H' s st.st
theorem rule_madeK (T : Txt K mg) {H : Hp} {r : RD} {c : V} {Q : VK} {E : XK} (hc : condsAt K H c r.cs) (lt : Let r) (k : ∀ x H', Same H H' → RuA K T.C_Rule H' x r → Q x H') :
    madeK T.C_Rule 2 1 (spRule T) (fun vs zs => vs ++ pick [0] zs) E [.str r.e, .str r.p] [c] H Q := ⟨rfl, rfl, fun x dx h1 h2 ne => rule_ok T hc lt h1 h2 ne k⟩
theorem step_madeK (T : Txt K mg) {H : Hp} {s : SD} {r : V} {Q : VK} {E : XK} (hr : rulesOk T r H s.rs) (om : okS s.mode) (im : isMode (.str s.mode) = true) (nd : s.mode = "longest" → (s.rs.map RD.e).Nodup)
    (k : ∀ x H', Same H H' → StA K T.C_Step T.C_Rule H' x s → Q x H') : madeK T.C_Step 1 1 (spStep T) (fun vs zs => vs ++ pick [0] zs) E [r] [.str s.mode] H Q := ⟨rfl, rfl, fun x dx h1 h2 ne => step_ok T hr om im nd h1 h2 ne k⟩
/-- a step that is let -/
structure LetS (s : SD) : Prop where
  len : s.rs.length ≤ 1000
  lt : ∀ r ∈ s.rs, Let r
  om : okS s.mode
  im : isMode (.str s.mode) = true
  nd : s.mode = "longest" → (s.rs.map RD.e).Nodup
def spMade (T : Txt K mg) : Sp := fun vs H Q _ => ∃ (v : V) (s : SD), vs = [v] ∧ Dp K H v (encS s) ∧ LetS s ∧ ∀ x H', Same H H' → StA K T.C_Step T.C_Rule H' x s → Q x H'
theorem encS_at {H : Hp} {v : V} {s : SD} (h : Dp K H v (encS s)) : ∃ a l xs, v = .ref a ∧ SqT K H a [.ref l, .str s.mode] ∧ SqL K H l xs ∧ DpAll K H xs (s.rs.map encR) := by
  cases h with
  | @tup a xs _ ha hd =>
    cases hd with
    | cons h1 hr1 =>
      cases h1 with
      | lst hl hd =>
        cases hr1 with
        | cons h2 hr2 =>
          cases h2
          cases hr2
          exact ⟨a, _, _, rfl, ha, hl, hd⟩
theorem ok_law_made_step (T : Txt K mg) : FnOk P w K mg base CX0 10 T.a_law_made_step T.fd_law_made_step ["raw"] (spMade T) := by
  refine T.F_law_made_step.ok sc_law_made_step (fun vs H Q E h => ?_) (fun cdv A outer s H vs Q E hr h => ?_)
  · obtain ⟨v, s, rfl, _⟩ := h
    rfl
  · obtain ⟨v, sd, rfl, hv, lt, q⟩ := h
    refine ⟨_, (pss_one (ps_ret (pe_makeK T.mk_Step (ok_Step_init T) (hr.mono (by decide)) (by rfl) T.mc_Step T.kb_Step_init_1_mode passL (pa_cons (pe_lc (own := [("one", 1)]) (by rfl) sc_law_made_step.nd (listK K (pe_ix (ixK K) (pv 0) pe_int (fun _ _ => rfl))) (blkOk_by (N := ["raw", "one"]) (sc := defScope s_law_made_step) (by decide +kernel)) (fun _ _ _ _ _ => (pg_name (i := 1) sc_law_made_step.nd rfl (Or.inl rfl))) (fun _ _ _ _ _ => pts_nil) (fun _ _ _ _ _ => (pe_makeK T.mk_Rule (ok_Rule_init T) (hr.mono (by decide)) (by rfl) T.mc_Rule T.kb_Rule_init_2_conditions passL (pa_cons (pe_ix (ixK K) (pv 1) pe_int (fun _ _ => rfl)) (pa_cons (pe_ix (ixK K) (pv 1) pe_int (fun _ _ => rfl)) pa_nil)) (pk_cons (pe_ix (ixK K) (pv 1) pe_int (fun _ _ => rfl)) pk_nil)))) pa_nil) (pk_cons (pe_ix (ixK K) (pv 0) pe_int (fun _ _ => rfl)) pk_nil)))), ?_⟩
    obtain ⟨a, l, xs, rfl, ha, hl, hd⟩ := encS_at hv
    walk_at "kk"
    have xl : xs.length = sd.rs.length := by rw [hd.len, List.length_map]
    refine k_onL hl (lc_go (walk_L (xs := xs)) (fun D i H' => H D = none ∧ Gr [D] H H' ∧ ∃ vs, H' D = some (.lst vs) ∧ RuAll K T.C_Rule (Hd [D] H') vs (sd.rs.take i)) (by intro _; rfl) (fun D hD => ?_) (fun D i H' _ iv => ?_) (fun D i x Ha Hb hi iv hy => ?_) (fun D H2 iv => ?_))
    · exact ⟨hD, Gr.new hD, [], upd_same, .nil⟩
    · exact (iv.2.1.less iv.1).same.seq hl
    · obtain ⟨hD, g1, vs, eD, ru⟩ := iv
      obtain ⟨rfl, rfl⟩ := hy
      have s1 := (g1.less hD).same
      have lr : i < sd.rs.length := by omega
      obtain ⟨x, hx, dx⟩ := DpAll.get hd (i := i) (d := encR sd.rs[i]) (by rw [List.getElem?_map, List.getElem?_eq_getElem lr]; rfl)
      have ex : xs.getD i .non = x := by rw [List.getD_eq_getElem?_getD, hx]; rfl
      rw [ex]
      obtain ⟨ar, c, rfl, har, hc⟩ := encR_at (S := []) (dx.up s1)
      walk_at "kk"
      refine rule_madeK T (r := sd.rs[i]) (conds_dp hc) (lt.lt _ (List.getElem_mem lr)) fun xr H4 s4 ru4 => ?_
      have e4 := s4 _ _ eD
      have gm : Gr [D] H4 (upd H4 D (.lst (vs ++ [xr]))) := Gr.mut (by simp)
      have tk : sd.rs.take (i + 1) = sd.rs.take i ++ [sd.rs[i]] := by rw [List.take_add_one, List.getElem?_eq_getElem lr]; rfl
      have l1 := ru.len
      rw [List.length_take] at l1
      have l2 := lt.len
      refine k_add e4 (by omega) ⟨hD, (g1.trans (Gr.of s4)).trans gm, vs ++ [xr], upd_same, ?_⟩
      rw [tk]
      exact ((ru.up (Gr.of s4).hd).append (.cons (ru4.d1 e4) .nil)).up gm.hd
    · obtain ⟨hD, g1, vs, eD, ru⟩ := iv
      have s1 := (g1.less hD).same
      rw [List.take_of_length_le (by omega)] at ru
      walk_at "kk"
      apply k_rv
      · exact rv_ixT (Evl.ex_t s1 ha) (at_int (by decide) rfl)
      walk_at "kk"
      exact step_madeK T (s := sd) ⟨D, false, vs, rfl, Evl.sq_of eD, ru.up (hd_same _ _), lt.len⟩ lt.om lt.im lt.nd fun xs H4 s4 st => q xs H4 (s1.trans s4) st
/-! asking, and what is caught -/
def raisesR (T : Txt K mg) (C : Addr) (f : Str) (v : V) (H : Hp) (E : XK) : Prop := ∀ H' dd, Same H H' → H' dd = some (.xd [(f, v)]) → E (.ref C) (some dd) H'
/-- Rule(e, p, conditions = c): what is raised, or that it is let -/
def askRule (T : Txt K mg) (e p c : V) (H : Hp) (N : VK) (E : XK) : Prop := ∃ de dp : PyData, Th K H e de ∧ szd de ∧ Th K H p dp ∧ szd dp ∧
  ((isWordOf de alph = false ∧ raisesR T T.C_InvalidText "thing" e H E) ∨
   isWordOf de alph = true ∧ ((isTextOf dp alph = false ∧ raisesR T T.C_InvalidText "thing" p H E) ∨
     isTextOf dp alph = true ∧ condR T c H (fun _ => False) E))
/-- Step(r, mode = m) -/
def askStep (T : Txt K mg) (r m : V) (H : Hp) (N : VK) (E : XK) : Prop :=
  rulesR T r H (fun _ => False) E ∨ ∃ rs, rulesOk T r H rs ∧
    ((∃ dm, Dp K H m dm ∧ SeqAt.shaped dm = true ∧ isMode dm = false ∧ raisesR T T.C_InvalidMode "thing" m H E) ∨
     (∃ md : Str, m = .str md ∧ okS md ∧ isMode (.str md) = true ∧
       ((md = "longest" ∧ ∃ (i : Nat) (r : RD), rs[i]? = some r ∧ ((rs.take i).map RD.e).Nodup ∧ r.e ∈ (rs.take i).map RD.e ∧ raisesR T T.C_SameEnding "ending" (.str r.e) H E) ∨
        ((md = "longest" → (rs.map RD.e).Nodup) ∧ ∀ x H', Same H H' → N x H'))))
def spAsked (T : Txt K mg) : Sp := fun vs H Q E => ∃ (l : Addr) (xs : List V), SqL K H l xs ∧
  ((vs = [.int 0, .ref l] ∧ ∃ e p c, xs = [e, p, c] ∧ askRule T e p c H Q E) ∨ (vs = [.int 1, .ref l] ∧ ∃ r m, xs = [r, m] ∧ askStep T r m H Q E))
theorem condR_up (T : Txt K mg) {c : V} {H H1 : Hp} {E : XK} (s : Same H H1) (h : condR T c H (fun _ => False) E) : condR T c H1 (fun _ => False) E := by
  rcases h with ⟨d, th, nk, q⟩ | ⟨ca, t, xs, ds, rfl, hx, hl1, hl2, hd, q1, q2⟩
  · exact .inl ⟨d, th.up s, nk, fun H3 dd s3 e3 => q H3 dd (s.trans s3) e3⟩
  · exact .inr ⟨ca, t, xs, ds, rfl, hx.up s, hl1, hl2, fun i x e => (by obtain ⟨d, z, th, r⟩ := hd i x e; exact ⟨d, z, th.up s, r⟩), fun all H3 s3 => q1 all H3 (s.trans s3), fun i d z b g H3 dd s3 e3 => q2 i d z b g H3 dd (s.trans s3) e3⟩
theorem rulesR_up (T : Txt K mg) {c : V} {H H1 : Hp} {E : XK} (s : Same H H1) (h : rulesR T c H (fun _ => False) E) : rulesR T c H1 (fun _ => False) E := by
  rcases h with ⟨d, th, nk, q⟩ | ⟨ca, t, xs, bs, rfl, hx, hl1, hl2, hd, q1, q2⟩
  · exact .inl ⟨d, th.up s, nk, fun H3 dd s3 e3 => q H3 dd (s.trans s3) e3⟩
  · exact .inr ⟨ca, t, xs, bs, rfl, hx.up s, hl1, hl2, fun i x e => (by obtain ⟨d, z, th⟩ := hd i x e; exact ⟨d, z, th.same s⟩), fun all H3 s3 => q1 all H3 (s.trans s3), fun i b g H3 dd s3 e3 => q2 i b g H3 dd (s.trans s3) e3⟩
theorem ok_law_asked (T : Txt K mg) : FnOk P w K mg base (L2.CX P w) 10 T.a_law_asked T.fd_law_asked ["kind", "some"] (spAsked T) := by
  refine T.F_law_asked.okX sc_law_asked (fun vs H Q E h => ?_) (fun cdv A outer s H vs Q E hr h => ?_)
  · obtain ⟨l, xs, hl, ⟨rfl, _⟩ | ⟨rfl, _⟩⟩ := h <;> rfl
  · obtain ⟨l, xs, hl, ⟨rfl, e, p, c, rfl, h⟩ | ⟨rfl, r, m, rfl, h⟩⟩ := h
    · refine ⟨_, (pss_cons (ps_if (pt_cmpR (eqK K hr) (pv 0) pe_int (nomark _)) (pss_one (ps_ret (pe_makeK T.mk_Rule (ok_Rule_init T) (hr.mono (by decide)) (by rfl) T.mc_Rule T.kb_Rule_init_2_conditions (passes_call (takes_of rfl rfl rfl rfl) (fun _ _ _ _ h => h)) (pa_cons (pe_ix (ixK K) (pv 1) pe_int (fun _ _ => rfl)) (pa_cons (pe_ix (ixK K) (pv 1) pe_int (fun _ _ => rfl)) pa_nil)) (pk_cons (pe_ix (ixK K) (pv 1) pe_int (fun _ _ => rfl)) pk_nil)))) pss_nil)
      (pss_one (ps_ret (pe_makeK T.mk_Step (ok_Step_init T) (hr.mono (by decide)) (by rfl) T.mc_Step T.kb_Step_init_1_mode (passes_call (takes_of rfl rfl rfl rfl) (fun _ _ _ _ h => h)) (pa_cons (pe_ix (ixK K) (pv 1) pe_int (fun _ _ => rfl)) pa_nil) (pk_cons (pe_ix (ixK K) (pv 1) pe_int (fun _ _ => rfl)) pk_nil))))), ?_⟩
      walk_at "kk"
      refine ⟨rfl, rfl, fun x dx h1 h2 ne => ?_⟩
      have ms := made_same (C := T.C_Rule) h1 h2 ne
      obtain ⟨de, dp, he, ze, hp, zp, h⟩ := h
      refine ⟨x, dx, e, p, c, de, dp, rfl, upd_same, he.up ms, ze, hp.up ms, zp, ?_⟩
      rcases h with ⟨b, q⟩ | ⟨b, ⟨b2, q⟩ | ⟨b2, q⟩⟩
      · exact .inl ⟨b, fun H' dd s' e' => q H' dd (ms.trans s') e'⟩
      · exact .inr ⟨b, .inl ⟨b2, fun H' dd s' e' => q H' dd (ms.trans s') e'⟩⟩
      · exact .inr ⟨b, .inr ⟨b2, .inl (condR_up T ms q)⟩⟩
    · refine ⟨_, (pss_cons (ps_if (pt_cmpR (eqK K hr) (pv 0) pe_int (nomark _)) (pss_one (ps_ret (pe_makeK T.mk_Rule (ok_Rule_init T) (hr.mono (by decide)) (by rfl) T.mc_Rule T.kb_Rule_init_2_conditions (passes_call (takes_of rfl rfl rfl rfl) (fun _ _ _ _ h => h)) (pa_cons (pe_ix (ixK K) (pv 1) pe_int (fun _ _ => rfl)) (pa_cons (pe_ix (ixK K) (pv 1) pe_int (fun _ _ => rfl)) pa_nil)) (pk_cons (pe_ix (ixK K) (pv 1) pe_int (fun _ _ => rfl)) pk_nil)))) pss_nil)
      (pss_one (ps_ret (pe_makeK T.mk_Step (ok_Step_init T) (hr.mono (by decide)) (by rfl) T.mc_Step T.kb_Step_init_1_mode (passes_call (takes_of rfl rfl rfl rfl) (fun _ _ _ _ h => h)) (pa_cons (pe_ix (ixK K) (pv 1) pe_int (fun _ _ => rfl)) pa_nil) (pk_cons (pe_ix (ixK K) (pv 1) pe_int (fun _ _ => rfl)) pk_nil))))), ?_⟩
      walk_at "kk"
      refine ⟨rfl, rfl, fun x dx h1 h2 ne => ?_⟩
      have ms := made_same (C := T.C_Step) h1 h2 ne
      refine ⟨x, dx, r, m, rfl, upd_same, ?_⟩
      rcases h with h | ⟨rs, ⟨ra, t, ys, rfl, hx, hru, hlen⟩, h⟩
      · exact .inl (rulesR_up T ms h)
      · refine .inr ⟨rs, ys, ⟨ra, t, rfl, hx.up ms, hru.up ms, hlen⟩, ?_⟩
        rcases h with ⟨dm, hm, sm, nm, q⟩ | ⟨md, rfl, om, im, ⟨lg, i, r, er, nd, mem, q⟩ | ⟨nd, q⟩⟩
        · exact .inl ⟨dm, hm.up ms, sm, nm, fun H' dd s' e' => q H' dd (ms.trans s') e'⟩
        · exact .inr ⟨md, rfl, om, im, .inl ⟨lg, i, r, er, nd, mem, fun H' dd s' e' => q H' dd (ms.trans s') e'⟩⟩
        · exact .inr ⟨md, rfl, om, im, .inr ⟨nd, fun H' g st => ⟨rfl, q (.ref x) H' (made_up h1 h2 ne g)⟩⟩⟩
end
end K02
set_option Elab.async false
set_option linter.all false
set_option maxRecDepth 100000
set_option maxHeartbeats 4000000
namespace K02
open PySem PySem.Spec PyProof.Rows L2 TL Mi
/-! ### short words -/
local macro_rules | `(tactic| walk_at "idx") => `(tactic| first | assumption | exact Evl.sq_of (by assumption) | exact Evl.st_of (by assumption) | exact Evl.sq_of upd_same | exact Evl.st_of upd_same)
local macro_rules | `(tactic| walk_at "side") => `(tactic| first | omega | exact Or.inl ⟨by omega, by omega⟩ | exact Or.inr ⟨by omega, by omega⟩ | exact ⟨by omega, by omega⟩ | decide +kernel)
local macro_rules | `(tactic| walk_at "div") => `(tactic| exact wide_div (b := 30) (by omega) (by omega) (by decide) (by decide))
local macro_rules | `(tactic| walk_at "pow") => `(tactic| exact ⟨by decide +kernel, by decide +kernel, by decide +kernel⟩)
local macro_rules | `(tactic| walk_at "rv") => `(tactic| first
  | with_reducible exact rv_addI | with_reducible exact rv_sub | with_reducible exact rv_lt | with_reducible exact rv_le | with_reducible exact rv_gt | with_reducible exact rv_ge
  | with_reducible exact rv_inC | with_reducible exact rv_notInC | with_reducible exact rv_isB
  | (with_reducible apply rv_mul
     walk_at "side")
  | (with_reducible apply rv_mod
     walk_at "side")
  | (with_reducible apply rv_div
     walk_at "div")
  | (with_reducible apply rv_pow
     walk_at "pow")
  | (with_reducible apply rv_eq
     exact rfl)
  | (with_reducible apply rv_ne
     exact rfl)
  | (with_reducible apply rv_ixL
     · walk_at "idx"
     · exact rfl)
  | (with_reducible apply rv_ixT
     · walk_at "idx"
     · exact rfl)
  | (with_reducible apply rv_ixS
     · walk_at "side"
     · exact rfl)
  | (with_reducible apply rv_addS
     walk_at "side"))
local macro_rules | `(tactic| walk_at "val") => `(tactic| first
  | with_reducible exact val_c | exact val_c
  | (with_reducible apply val_var
     exact rfl)
  | (with_reducible apply val_bin
     · walk_at "val"
     · walk_at "val"
     · walk_at "rv")
  | (with_reducible apply val_int1
     walk_at "val")
  | (with_reducible apply val_max2
     · walk_at "val"
     · walk_at "val")
  | (with_reducible apply val_min2
     · walk_at "val"
     · walk_at "val")
  | (with_reducible apply val_endsw
     · walk_at "val"
     · walk_at "val")
  | (with_reducible apply val_lenS
     · walk_at "val"
     · walk_at "side")
  | (with_reducible apply val_lenL
     · walk_at "val"
     · walk_at "idx")
  | (with_reducible apply val_lenT
     · walk_at "val"
     · walk_at "idx")
  | (with_reducible apply val_notV
     walk_at "val"))
local macro_rules | `(tactic| walk_at "ans") => `(tactic| first
  | (with_reducible apply ans_T
     walk_at "val")
  | (with_reducible apply ans_B
     walk_at "val")
  | (with_reducible apply ans_not
     walk_at "ans"))
local macro_rules | `(tactic| walk_at "ifp") => `(tactic| first
  | (with_reducible refine Eq.mpr (if_pos ?_) ?_
     · decide +kernel)
  | (with_reducible refine Eq.mpr (if_neg ?_) ?_
     · decide +kernel))
local macro_rules | `(tactic| walk_at "k") => `(tactic| first
  | with_reducible apply k_seq | with_reducible apply k_asg | with_reducible apply k_ret | with_reducible apply k_ifS | with_reducible apply k_drop | with_reducible apply k_name
  | (with_reducible apply k_var
     · exact rfl)
  | with_reducible apply k_c
  | with_reducible apply k_op | with_reducible apply k_cb | with_reducible apply k_call | with_reducible apply k_cons | with_reducible apply k_nil | with_reducible apply k_tup | with_reducible apply k_lst
  | with_reducible apply k_ifE | with_reducible apply k_test | with_reducible apply k_tb | with_reducible apply k_not | with_reducible apply k_and | with_reducible apply k_or | with_reducible apply k_bl
  | with_reducible apply k_sl | with_reducible apply k_part | with_reducible apply k_isI | with_reducible apply k_nopart
  | with_reducible apply k_lcZS | with_reducible apply k_onZS | with_reducible apply k_un | with_reducible apply k_neg
  | with_reducible apply k_forEB | with_reducible apply k_forSB | with_reducible apply k_lcSB | with_reducible apply k_fld | with_reducible apply k_prop | with_reducible apply k_sfld | with_reducible apply k_make | with_reducible apply k_makeK | with_reducible apply k_mkO | with_reducible apply k_par | with_reducible apply k_parR
  | with_reducible apply k_lcS | with_reducible apply k_lcR | with_reducible apply k_lcL | with_reducible apply k_lcT | with_reducible apply k_forS | with_reducible apply k_forR | with_reducible apply k_forL | with_reducible apply k_forT | with_reducible apply k_onS | with_reducible apply k_yes
  | (with_reducible apply k_augC
     · exact rfl)
  | with_reducible apply k_next | with_reducible apply k_eqInt | with_reducible apply k_neInt | with_reducible apply k_eqStr | with_reducible apply k_neStr
  | with_reducible apply k_andV | with_reducible apply k_orV | with_reducible apply k_notV
  | with_reducible apply k_m1 | with_reducible apply k_onStr | with_reducible apply k_endsw
  | (with_reducible apply k_slS
     · walk_at "side")
  | (with_reducible apply k_newT
     · walk_at "len")
  | (with_reducible apply k_newL
     · walk_at "len")
  | with_reducible apply k_int1 | with_reducible apply k_max2 | with_reducible apply k_min2
  | (with_reducible apply k_lenS
     · walk_at "side")
  | (with_reducible apply k_lenL
     · walk_at "idx")
  | (with_reducible apply k_lenT
     · walk_at "idx")
  | (with_reducible apply k_rv
     · walk_at "rv")
  | walk_at "ifp")
local macro_rules | `(tactic| walk_at "kk") => `(tactic| (repeat (walk_at "k")))
local macro_rules | `(tactic| walk_at "len") => `(tactic| first | exact (by decide : (1:Nat) ≤ 100000) | exact (by decide : (2:Nat) ≤ 100000) | exact (by decide : (3:Nat) ≤ 100000) | exact (by decide : (4:Nat) ≤ 100000) | exact (by decide : (7:Nat) ≤ 100000) | (simp only [List.length_cons, List.length_nil]; omega) | omega)
local macro_rules | `(tactic| walk_at "up") => `(tactic| first
  | assumption
  | (refine Dq.up ?_ (Gr.new (by assumption))
     walk_at "up")
  | (refine Dq.up ?_ (by assumption)
     walk_at "up"))
local macro_rules | `(tactic| walk_at "lit") => `(tactic| first
  | with_reducible exact lit_str | with_reducible exact lit_int | with_reducible exact lit_bl | with_reducible exact lit_non | with_reducible exact lit_neg | with_reducible exact lit_nil | with_reducible exact lit_dic
  | (with_reducible apply lit_cons
     · walk_at "lit"
     · walk_at "lit")
  | (with_reducible apply lit_tup
     · walk_at "lit"
     · decide)
  | (with_reducible apply lit_lst
     · walk_at "lit"
     · decide))

section
variable {P : Program} {w : World} {K : PySem.W.Frag} {mg : Str → Option Value} {base : Heap}
theorem raisesR.mono {T : Txt K mg} {C : Addr} {f : Str} {v : V} {H : Hp} {E E2 : XK} (h : raisesR T C f v H E) (e : ∀ c d H', E c d H' → E2 c d H') : raisesR T C f v H E2 := fun H' dd s x => e _ _ _ (h H' dd s x)
theorem condR.mono {T : Txt K mg} {v : V} {H : Hp} {N : Hp → Prop} {E E2 : XK} (h : condR T v H N E) (e : ∀ c d H', E c d H' → E2 c d H') : condR T v H N E2 := by
  rcases h with ⟨d, a, b, q⟩ | ⟨a, t, xs, ds, h1, h2, h3, h4, h5, h6, q⟩
  · exact .inl ⟨d, a, b, fun H' dd s x => e _ _ _ (q H' dd s x)⟩
  · exact .inr ⟨a, t, xs, ds, h1, h2, h3, h4, h5, h6, fun i d a b c H' dd s x => e _ _ _ (q i d a b c H' dd s x)⟩
theorem rulesR.mono {T : Txt K mg} {v : V} {H : Hp} {N : Hp → Prop} {E E2 : XK} (h : rulesR T v H N E) (e : ∀ c d H', E c d H' → E2 c d H') : rulesR T v H N E2 := by
  rcases h with ⟨d, a, b, q⟩ | ⟨a, t, xs, ds, h1, h2, h3, h4, h5, h6, q⟩
  · exact .inl ⟨d, a, b, fun H' dd s x => e _ _ _ (q H' dd s x)⟩
  · exact .inr ⟨a, t, xs, ds, h1, h2, h3, h4, h5, h6, fun i a b H' dd s x => e _ _ _ (q i a b H' dd s x)⟩
theorem spAsked_mono {T : Txt K mg} {vs : List V} {H : Hp} {Q Q2 : VK} {E E2 : XK} (n : ∀ v H', Q v H' → Q2 v H') (e : ∀ c d H', E c d H' → E2 c d H') (h : spAsked T vs H Q E) : spAsked T vs H Q2 E2 := by
  obtain ⟨l, xs, hl, ⟨hv, e1, p, c, hx, de, dp, h1, h2, h3, h4, h⟩ | ⟨hv, r, m, hx, h⟩⟩ := h
  · refine ⟨l, xs, hl, .inl ⟨hv, e1, p, c, hx, de, dp, h1, h2, h3, h4, ?_⟩⟩
    rcases h with ⟨b, q⟩ | ⟨b, ⟨b2, q⟩ | ⟨b2, q⟩⟩
    · exact .inl ⟨b, q.mono e⟩
    · exact .inr ⟨b, .inl ⟨b2, q.mono e⟩⟩
    · exact .inr ⟨b, .inr ⟨b2, q.mono e⟩⟩
  · refine ⟨l, xs, hl, .inr ⟨hv, r, m, hx, ?_⟩⟩
    rcases h with h | ⟨rs, hr, h⟩
    · exact .inl (h.mono e)
    · refine .inr ⟨rs, hr, ?_⟩
      rcases h with ⟨dm, hm, sm, nm, q⟩ | ⟨md, em, om, im, ⟨lg, i, r, er, nd, mem, q⟩ | ⟨nd, q⟩⟩
      · exact .inl ⟨dm, hm, sm, nm, q.mono e⟩
      · exact .inr ⟨md, em, om, im, .inl ⟨lg, i, r, er, nd, mem, q.mono e⟩⟩
      · exact .inr ⟨md, em, om, im, .inr ⟨nd, fun x H' s => n _ _ (q x H' s)⟩⟩
def caughtBy (T : Txt K mg) (C : Addr) (f nm : Str) : Prop :=
  (C = T.C_InvalidText ∧ f = "thing" ∧ nm = "text") ∨ (C = T.C_InvalidConditions ∧ f = "place" ∧ nm = "conditions") ∨ (C = T.C_InvalidRules ∧ f = "place" ∧ nm = "rules") ∨ (C = T.C_InvalidMode ∧ f = "thing" ∧ nm = "mode") ∨ (C = T.C_SameEnding ∧ f = "ending" ∧ nm = "same")
def caughtE (T : Txt K mg) (Q : VK) : XK := fun cls d H' => ∃ (C : Addr) (f nm : Str) (v : V) (dd : Addr), cls = .ref C ∧ d = some dd ∧ H' dd = some (.xd [(f, v)]) ∧ caughtBy T C f nm ∧ ∀ r H'', Same H' H'' → H' r = none → H'' r = some (.lst [.str nm, v]) → Q (.ref r) H''
def spCaught (T : Txt K mg) : Sp := fun vs H Q _ => spAsked T vs H (fun _ H' => Q .non H') (caughtE T Q)
theorem ok_law_caught (T : Txt K mg) : FnOk P w K mg base CX0 11 T.a_law_caught T.fd_law_caught ["kind", "some"] (spCaught T) := by
  refine T.F_law_caught.ok sc_law_caught (fun vs H Q E h => ?_) (fun cdv A outer s H vs Q E hr h => ?_)
  · obtain ⟨l, xs, hl, ⟨rfl, _⟩ | ⟨rfl, _⟩⟩ := h <;> rfl
  · obtain ⟨k, l, ev⟩ : ∃ k l, vs = [k, .ref l] := by
      obtain ⟨l, xs, hl, ⟨rfl, _⟩ | ⟨rfl, _⟩⟩ := h
      · exact ⟨_, l, rfl⟩
      · exact ⟨_, l, rfl⟩
    subst ev
    refine ⟨_, (pss_cons (ps_set (i := 2) sc_law_caught.nd rfl (Or.inl rfl) pe_non)
      (pss_cons (ps_tryC rfl rfl sc_law_caught.nd takes0 (fun W pn xe tk po => (pss_one (ps_expr (by exact (pe_callS (ok_law_asked T) (hr.mono (by decide)) (by rfl) T.m_law_asked T.F_law_asked.kp T.b_law_asked (fun σ => passAt tk σ) (by exact (pa_cons (pv 0) (pa_cons (pv 1) pa_nil))))))))
      (ClsOk.as (i := 3) ⟨by rfl, by decide, .inl T.mc_InvalidText⟩ rfl rfl (fun a ob cls d l hz hv => (pss_one (ps_set (i := 2) sc_law_caught.nd rfl (Or.inl rfl) (pe_lst (pa_cons pe_str (pa_cons (pe_xf T.xf_InvalidText T.n_InvalidText_thing hz hv (pv 3)) pa_nil)))))) (ClsOk.as (i := 3) ⟨by rfl, by decide, .inl T.mc_InvalidConditions⟩ rfl rfl (fun a ob cls d l hz hv => (pss_one (ps_set (i := 2) sc_law_caught.nd rfl (Or.inl rfl) (pe_lst (pa_cons pe_str (pa_cons (pe_xf T.xf_InvalidConditions T.n_InvalidConditions_place hz hv (pv 3)) pa_nil)))))) (ClsOk.as (i := 3) ⟨by rfl, by decide, .inl T.mc_InvalidRules⟩ rfl rfl (fun a ob cls d l hz hv => (pss_one (ps_set (i := 2) sc_law_caught.nd rfl (Or.inl rfl) (pe_lst (pa_cons pe_str (pa_cons (pe_xf T.xf_InvalidRules T.n_InvalidRules_place hz hv (pv 3)) pa_nil)))))) (ClsOk.as (i := 3) ⟨by rfl, by decide, .inl T.mc_InvalidMode⟩ rfl rfl (fun a ob cls d l hz hv => (pss_one (ps_set (i := 2) sc_law_caught.nd rfl (Or.inl rfl) (pe_lst (pa_cons pe_str (pa_cons (pe_xf T.xf_InvalidMode T.n_InvalidMode_thing hz hv (pv 3)) pa_nil)))))) (ClsOk.as (i := 3) ⟨by rfl, by decide, .inl T.mc_SameEnding⟩ rfl rfl (fun a ob cls d l hz hv => (pss_one (ps_set (i := 2) sc_law_caught.nd rfl (Or.inl rfl) (pe_lst (pa_cons pe_str (pa_cons (pe_xf T.xf_SameEnding T.n_SameEnding_ending hz hv (pv 3)) pa_nil)))))) (ClsOk.no ⟨by rfl, by decide, .inl T.mc_StemError⟩ (fun a ob cls d l hz hv => (pss_one (ps_set (i := 2) sc_law_caught.nd rfl (Or.inl rfl) (pe_lst (pa_cons pe_str pa_nil))))) ClsOk.nil)))))))
      (pss_one (ps_ret (pv 2))))), ?_⟩
    walk_at "kk"
    apply k_tryC
    walk_at "kk"
    apply k_callS
    walk_at "kk"
    refine spAsked_mono (fun v H' q => ?_) (fun c d H' q => ?_) h
    · show tRet (tVar 2) _ _ _
      walk_at "kk"
      exact q
    · obtain ⟨C, f, nm, v, dd, rfl, rfl, ed, by_, q⟩ := q
      have go : ∀ {σ : L2.St} {D : Ends} {a : Addr}, (∀ H2 r, Same H' H2 → H' r = none → H2 r = some (.lst [.str nm, v]) → D.nx ((σ.set 3 (some (.ref a))).set 2 (some (.ref r))) H2) → σ.length = 4 →
          tAsg (tLst (tCons (tC (.str nm)) (tCons (tXf a (.ref C) (some dd) C f (tVar 3)) tNil))) (gName 2) D (σ.set 3 (some (.ref a))) H' := by
        intro σ D a k hl
        walk_at "kk"
        refine k_xfV (by rw [List.getElem?_set_self (by omega)]) ed (show List.lookup f [(f, v)] = some v by simp [List.lookup]) ?_
        walk_at "kk"
        intro r hr
        walk_at "kk"
        exact k _ _ (same_new hr) hr upd_same
      have fin : ∀ {σ : L2.St} {H2 : Hp} {r : Addr} {D : Ends}, Same H' H2 → H' r = none → H2 r = some (.lst [.str nm, v]) → σ[2]? = some (some (.ref r)) → D.rt = Q → tRet (tVar 2) D σ H2 := by
        intro σ H2 r D s n e es eD
        refine ⟨_, es, ?_⟩
        rw [eD]
        exact q r H2 s n e
      rcases by_ with ⟨rfl, rfl, rfl⟩ | ⟨rfl, rfl, rfl⟩ | ⟨rfl, rfl, rfl⟩ | ⟨rfl, rfl, rfl⟩ | ⟨rfl, rfl, rfl⟩
      · refine ⟨true, T.e_InvalidText_InvalidText, fun _ a na => ?_, fun hb => (nomatch hb)⟩
        refine go (fun H2 r s2 n2 e2 => ?_) rfl
        exact fin s2 n2 e2 rfl rfl
      · refine ⟨false, T.e_InvalidConditions_InvalidText, fun hb => (nomatch hb), fun _ => ⟨true, T.e_InvalidConditions_InvalidConditions, fun _ a na => ?_, fun hb => (nomatch hb)⟩⟩
        refine go (fun H2 r s2 n2 e2 => ?_) rfl
        exact fin s2 n2 e2 rfl rfl
      · refine ⟨false, T.e_InvalidRules_InvalidText, fun hb => (nomatch hb), fun _ => ⟨false, T.e_InvalidRules_InvalidConditions, fun hb => (nomatch hb), fun _ => ⟨true, T.e_InvalidRules_InvalidRules, fun _ a na => ?_, fun hb => (nomatch hb)⟩⟩⟩
        refine go (fun H2 r s2 n2 e2 => ?_) rfl
        exact fin s2 n2 e2 rfl rfl
      · refine ⟨false, T.e_InvalidMode_InvalidText, fun hb => (nomatch hb), fun _ => ⟨false, T.e_InvalidMode_InvalidConditions, fun hb => (nomatch hb), fun _ => ⟨false, T.e_InvalidMode_InvalidRules, fun hb => (nomatch hb), fun _ => ⟨true, T.e_InvalidMode_InvalidMode, fun _ a na => ?_, fun hb => (nomatch hb)⟩⟩⟩⟩
        refine go (fun H2 r s2 n2 e2 => ?_) rfl
        exact fin s2 n2 e2 rfl rfl
      · refine ⟨false, T.e_SameEnding_InvalidText, fun hb => (nomatch hb), fun _ => ⟨false, T.e_SameEnding_InvalidConditions, fun hb => (nomatch hb), fun _ => ⟨false, T.e_SameEnding_InvalidRules, fun hb => (nomatch hb), fun _ => ⟨false, T.e_SameEnding_InvalidMode, fun hb => (nomatch hb), fun _ => ⟨true, T.e_SameEnding_SameEnding, fun _ a na => ?_, fun hb => (nomatch hb)⟩⟩⟩⟩⟩
        refine go (fun H2 r s2 n2 e2 => ?_) rfl
        exact fin s2 n2 e2 rfl rfl
/-! what is caught of one asking -/
abbrev Out := Option (Str × V × PyData)
def outD : Out → PyData
  | none => .none
  | some (nm, _, d) => .list [.str nm, d]
def Outc (T : Txt K mg) (kind : Int) (it : V) (H : Hp) (o : Out) : Prop := (∀ nm x d, o = some (nm, x, d) → Du H x d) ∧ ∀ H', Same H H' → ∀ Q' : VK, (o = none → ∀ H'', Same H' H'' → Q' .non H'') →
  (∀ nm x d, o = some (nm, x, d) → ∀ r H'', Same H' H'' → H' r = none → H'' r = some (.lst [.str nm, x]) → Q' (.ref r) H'') → spCaught T [.int kind, it] H' Q' E0
theorem Outc.up {T : Txt K mg} {kind : Int} {it : V} {H H1 : Hp} {o : Out} (h : Outc T kind it H o) (s : Same H H1) : Outc T kind it H1 o :=
  ⟨fun nm x d e => (h.1 nm x d e).up s, fun H' s' Q' q1 q2 => h.2 H' (s.trans s') Q' q1 q2⟩
theorem free_of {H H' : Hp} {a : Addr} (s : Same H H') (n : H' a = none) : H a = none := by
  cases q : H a with
  | none => rfl
  | some o =>
    rw [s a o q] at n
    cases n
theorem raises_caught {T : Txt K mg} {C : Addr} {f nm : Str} {v : V} {H' : Hp} {Q' : VK} (b : caughtBy T C f nm) (q : ∀ r H'', Same H' H'' → H' r = none → H'' r = some (.lst [.str nm, v]) → Q' (.ref r) H'') : raisesR T C f v H' (caughtE T Q') := fun H2 dd s e =>
  ⟨C, f, nm, v, dd, rfl, rfl, e, b, fun r H3 s3 n3 e3 => q r H3 (s.trans s3) (free_of s n3) e3⟩
/-- [_law_caught(kind, some) for some in asked] -/
theorem caught_lc (T : Txt K mg) {kind : Int} {j : Nat} {vs0 : List Nat} {σ : L2.St} {Q : VK} {a : Addr} {H : Hp} (items : List V) (outs : List Out) (ha : SqL K H a items) (hl : items.length = outs.length) (l50 : items.length ≤ 500) (hw : ∀ x, wipe ((wipe σ vs0).set j (some x)) vs0 = wipe σ vs0) (hj : j < (wipe σ vs0).length)
    (ho : ∀ (i : Nat) x o, items[i]? = some x → outs[i]? = some o → Outc T kind x H o)
    (hd : ∀ D H' ws, H D = none → Same H H' → H' D = some (.lst ws) → DuAll H' ws (outs.map outD) → Q (.ref D) H') :
    lcOn (gName j) tYes (tCall (spCaught T) [] E0 (tCons (tC (.int kind)) (tCons (tVar j) tNil))) vs0 σ Q (Itl K a) H := by
  refine lc_go (walk_L (xs := items)) (fun D i H' => H D = none ∧ Gr [D] H H' ∧ ∃ ws, H' D = some (.lst ws) ∧ DuAll (Hd [D] H') ws ((outs.take i).map outD)) hw (fun D hD => ⟨hD, Gr.new hD, [], upd_same, .nil⟩) (fun D i H' _ iv => (iv.2.1.less iv.1).same.seq ha) (fun D i x Ha Hb hi iv hy => ?_) (fun D H2 iv => ?_)
  · obtain ⟨hD, g1, ws, eD, du⟩ := iv
    obtain ⟨rfl, rfl⟩ := hy
    have s1 := (g1.less hD).same
    have lo : i < outs.length := by omega
    have tk : outs.take (i + 1) = outs.take i ++ [outs[i]] := by rw [List.take_add_one, List.getElem?_eq_getElem lo]; rfl
    have oc := ho i (items.getD i .non) outs[i] (by rw [List.getD_eq_getElem?_getD, List.getElem?_eq_getElem hi]; rfl) (List.getElem?_eq_getElem lo)
    have wl : ws.length ≤ 1000 := by
      rw [du.len, List.length_map, List.length_take]
      omega
    have put : ∀ H4 v, Same Hb H4 → Du (Hd [D] H4) v (outD outs[i]) → addTo D H4 v fun H' => H D = none ∧ Gr [D] H H' ∧ ∃ ws, H' D = some (.lst ws) ∧ DuAll (Hd [D] H') ws ((outs.take (i + 1)).map outD) := by
      intro H4 v s4 dv
      have e4 := s4 _ _ eD
      have gm : Gr [D] H4 (upd H4 D (.lst (ws ++ [v]))) := Gr.mut (by simp)
      refine k_add e4 (by omega) ⟨hD, (g1.trans (Gr.of s4)).trans gm, ws ++ [v], upd_same, ?_⟩
      rw [tk, List.map_append]
      exact ((du.up (Gr.of s4).hd).append (.cons dv .nil)).up gm.hd
    apply k_yes
    refine iteT ?_
    refine ⟨items.getD i .non, by rw [List.getElem?_set_self hj], ?_⟩
    refine oc.2 Hb s1 _ (fun e H4 s4 => ?_) (fun nm x d e r H4 s4 nr er => ?_)
    · refine put H4 _ s4 ?_
      rw [e]
      exact .non
    · refine put H4 _ s4 ?_
      rw [e]
      have nD : r ≠ D := fun z => by
        subst z
        rw [nr] at eD
        cases eD
      have up : Same H (Hd [D] H4) := fun b o e => by
        have nb : b ≠ D := ne_of_none e hD
        rw [hd_out (by simpa using nb)]
        exact s4 _ _ (s1 _ _ e)
      exact .lst (by rw [hd_out (by simpa using nD)]; exact er) (.cons (.str _) (.cons ((oc.1 nm x d e).up up) .nil))
  · obtain ⟨hD, g1, ws, eD, du⟩ := iv
    rw [List.take_of_length_le (by omega)] at du
    exact hd D H2 ws hD (g1.less hD).same eD (du.up (hd_same _ _))
end
end K02
set_option Elab.async false
set_option linter.all false
set_option maxRecDepth 100000
set_option maxHeartbeats 4000000
namespace K02
open PySem PySem.Spec PyProof.Rows L2 TL Mi
section
variable {P : Program} {w : World} {K : PySem.W.Frag} {mg : Str → Option Value} {base : Heap}
/-- [..][_law_draw(purse, m)] -/
theorem k_pick {ta : TA} {ds : List PyData} {σ : L2.St} {H : Hp} {R : VK} {p : Addr} {n m : Nat} (h : Lit [p] (tLst ta) (.list ds)) (l : Live [p] H) (hv : σ[0]? = some (some (.ref p))) (hl : ds.length = m) (m0 : 0 < m) (m1 : m < 1000) (hn : n < 2 ^ 40) (pu : Pu H p n)
    (k : ∀ (v : V) (d : PyData) (H2 : Hp), Gr [p] H H2 → Pu H2 p (n + 1) → d ∈ ds → Du (Hd [p] H2) v d → R v H2) :
    tOp (rIx K) (tLst ta) (tCall spDraw [] E0 (tCons (tVar 0) (tCons (tC (.int (m : Int))) tNil))) σ H R := by
  refine h σ H _ l fun v H1 s1 d1 => ?_
  obtain ⟨b, ys, rfl, nb, e1, d1⟩ := d1.lstAt
  refine ⟨.ref p, hv, p, m, n, rfl, by omega, by omega, pu.same s1, hn, fun H2 i g2 p2 i1 i2 => ?_⟩
  have hi : i.toNat < ds.length := by omega
  obtain ⟨x, ex, dx⟩ := d1.get (List.getElem?_eq_getElem hi)
  show rIx K (.ref b) (.int i) H2 R
  apply k_rv
  · exact rv_ixL (Evl.sq_of (g2 b _ nb e1)) (at_int i1 ex)
  · exact k x _ H2 ((Gr.of s1).trans g2) p2 (List.getElem_mem hi) (dx.up g2.hd)
section
variable {T : Txt K mg} {H : Hp} {l : Addr} {e p c r m : V} {de dp dc : PyData}
def letB (r : RD) : Bool := (decide (r.e.length ≤ 50000) && decide (r.p.length ≤ 50000)) && (isWordOf (.str r.e) alph && (isTextOf (.str r.p) alph && decide (r.cs.length ≤ 50000)))
theorem letB_ok {r : RD} (h : letB r = true) (f : ∀ c ∈ r.cs, Fit c) : Let r := by
  have h1 := Bool.and_eq_true_iff.mp h
  have h2 := Bool.and_eq_true_iff.mp h1.1
  have h3 := Bool.and_eq_true_iff.mp h1.2
  have h4 := Bool.and_eq_true_iff.mp h3.2
  exact ⟨of_decide_eq_true h2.1, of_decide_eq_true h2.2, h3.1, h4.1, of_decide_eq_true h4.2, f⟩
theorem rule_madeR (T : Txt K mg) {H : Hp} {e p : Str} {Q : VK} {E : XK} (b : letB ⟨e, p, []⟩ = true) (k : ∀ x H', Same H H' → RuA K T.C_Rule H' x ⟨e, p, []⟩ → Q x H') :
    madeR T.C_Rule (spRule T) [.ref T.e_Rule_conditions] E [.str e, .str p] H Q := fun x dx h1 h2 ne => rule_ok T ⟨_, true, [], rfl, T.te_Rule_conditions H, .nil⟩ (letB_ok b (fun _ h => nomatch h)) h1 h2 ne k
theorem ho_nil {kind : Int} {H : Hp} : ∀ (i : Nat) x o, ([] : List V)[i]? = some x → ([] : List Out)[i]? = some o → Outc T kind x H o := fun i x o e => by simp at e
theorem ho_cons {kind : Int} {H : Hp} {y : V} {u : Out} {items : List V} {outs : List Out} (h : Outc T kind y H u) (r : ∀ (i : Nat) x o, items[i]? = some x → outs[i]? = some o → Outc T kind x H o) :
    ∀ (i : Nat) x o, (y :: items)[i]? = some x → (u :: outs)[i]? = some o → Outc T kind x H o := fun i x o e1 e2 => by
  cases i with
  | zero =>
    cases Option.some.inj e1
    cases Option.some.inj e2
    exact h
  | succ i => exact r i x o e1 e2
theorem outcR1 (hl : SqL K H l [e, p, c]) (he : Du H e de) (hp : Du H p dp) (ze : (plainB de && szb de) = true) (zp : (plainB dp && szb dp) = true) (b : isWordOf de alph = false) : Outc T 0 (.ref l) H (some ("text", e, de)) := by
  have z1 := Bool.and_eq_true_iff.mp ze
  have z2 := Bool.and_eq_true_iff.mp zp
  refine ⟨fun nm x d q => (by cases q; exact he), fun H' s Q' _ q2 => ?_⟩
  exact ⟨l, _, s.seq hl, .inl ⟨rfl, e, p, c, rfl, de, dp, (he.up s).th (plainB_ok z1.1), szb_ok z1.2, (hp.up s).th (plainB_ok z2.1), szb_ok z2.2, .inl ⟨b, raises_caught (.inl ⟨rfl, rfl, rfl⟩) (q2 _ _ _ rfl)⟩⟩⟩
theorem outcR2 (hl : SqL K H l [e, p, c]) (he : Du H e de) (hp : Du H p dp) (ze : (plainB de && szb de) = true) (zp : (plainB dp && szb dp) = true) (b : isWordOf de alph = true) (b2 : isTextOf dp alph = false) : Outc T 0 (.ref l) H (some ("text", p, dp)) := by
  have z1 := Bool.and_eq_true_iff.mp ze
  have z2 := Bool.and_eq_true_iff.mp zp
  refine ⟨fun nm x d q => (by cases q; exact hp), fun H' s Q' _ q2 => ?_⟩
  exact ⟨l, _, s.seq hl, .inl ⟨rfl, e, p, c, rfl, de, dp, (he.up s).th (plainB_ok z1.1), szb_ok z1.2, (hp.up s).th (plainB_ok z2.1), szb_ok z2.2, .inr ⟨b, .inl ⟨b2, raises_caught (.inl ⟨rfl, rfl, rfl⟩) (q2 _ _ _ rfl)⟩⟩⟩⟩
theorem outcR3 (hl : SqL K H l [e, p, c]) (he : Du H e de) (hp : Du H p dp) (hc : Du H c dc) (ze : (plainB de && szb de) = true) (zp : (plainB dp && szb dp) = true) (zc : (plainB dc && loneB dc) = true) (b : isWordOf de alph = true) (b2 : isTextOf dp alph = true) : Outc T 0 (.ref l) H (some ("conditions", .non, .none)) := by
  have z1 := Bool.and_eq_true_iff.mp ze
  have z2 := Bool.and_eq_true_iff.mp zp
  have z3 := Bool.and_eq_true_iff.mp zc
  refine ⟨fun nm x d q => (by cases q; exact .non), fun H' s Q' _ q2 => ?_⟩
  exact ⟨l, _, s.seq hl, .inl ⟨rfl, e, p, c, rfl, de, dp, (he.up s).th (plainB_ok z1.1), szb_ok z1.2, (hp.up s).th (plainB_ok z2.1), szb_ok z2.2, .inr ⟨b, .inr ⟨b2, .inl ⟨dc, (hc.up s).th (plainB_ok z3.1), kit_lone K z3.2, raises_caught (.inr (.inl ⟨rfl, rfl, rfl⟩)) (q2 _ _ _ rfl)⟩⟩⟩⟩⟩
theorem outcR4 {ca : Addr} {t : Bool} {xs : List V} {ds : List PyData} {i : Nat} (hl : SqL K H l [e, p, .ref ca]) (he : Du H e de) (hp : Du H p dp) (hc : SqB K t H ca xs) (hd : DuAll H xs ds) (ze : (plainB de && szb de) = true) (zp : (plainB dp && szb dp) = true)
    (len : ds.length ≤ 50000) (zc : ds.all (fun d => plainB d && deepB d) = true) (hi : i < ds.length) (one : ((ds.take i).all isCd && !isCd (ds.getD i .none)) = true) (b : isWordOf de alph = true) (b2 : isTextOf dp alph = true) : Outc T 0 (.ref l) H (some ("conditions", .int (i : Nat), .int (i : Nat))) := by
  have z1 := Bool.and_eq_true_iff.mp ze
  have z2 := Bool.and_eq_true_iff.mp zp
  have o := Bool.and_eq_true_iff.mp one
  have first : isCd (ds.getD i .none) = false := by simpa using o.2
  refine ⟨fun nm x d q => (by cases q; exact .int _), fun H' s Q' _ q2 => ?_⟩
  refine ⟨l, _, s.seq hl, .inl ⟨rfl, e, p, .ref ca, rfl, de, dp, (he.up s).th (plainB_ok z1.1), szb_ok z1.2, (hp.up s).th (plainB_ok z2.1), szb_ok z2.2, .inr ⟨b, .inr ⟨b2, .inr ⟨ca, t, xs, ds, rfl, hc.up s, hd.len.symm, by rw [hd.len]; exact len, fun j x ex => ?_, fun all => ?_, fun j d ej bad before => ?_⟩⟩⟩⟩⟩
  · have hj : j < ds.length := by
      rw [← hd.len]
      exact (List.getElem?_eq_some_iff.mp ex).1
    obtain ⟨x', ex', dx⟩ := hd.get (List.getElem?_eq_getElem hj)
    cases ex.symm.trans ex'
    have z := Bool.and_eq_true_iff.mp (List.all_eq_true.mp zc _ (List.getElem_mem hj))
    exact ⟨_, List.getElem?_eq_getElem hj, (dx.up s).th (plainB_ok z.1), (deepB_ok z.2).1, (deepB_ok z.2).2⟩
  · have := all _ (List.getElem_mem hi)
    rw [List.getD_eq_getElem?_getD, List.getElem?_eq_getElem hi] at first
    rw [show (some ds[i]).getD PyData.none = ds[i] from rfl] at first
    rw [first] at this
    cases this
  · have ij : i = j := by
      rcases Nat.lt_trichotomy i j with h | h | h
      · have := before i (ds.getD i .none) h (by rw [List.getD_eq_getElem?_getD, List.getElem?_eq_getElem hi]; rfl)
        rw [first] at this
        cases this
      · exact h
      · have hj : j < ds.length := (List.getElem?_eq_some_iff.mp ej).1
        have := List.all_eq_true.mp o.1 d (List.mem_of_getElem? (by rw [List.getElem?_take_of_lt h]; exact ej))
        rw [bad] at this
        cases this
    subst ij
    exact raises_caught (.inr (.inl ⟨rfl, rfl, rfl⟩)) (q2 _ _ _ rfl)
theorem outcS1 (hl : SqL K H l [r, m]) (hr : Du H r de) (zr : (plainB de && loneB de) = true) : Outc T 1 (.ref l) H (some ("rules", .non, .none)) := by
  have z1 := Bool.and_eq_true_iff.mp zr
  refine ⟨fun nm x d q => (by cases q; exact .non), fun H' s Q' _ q2 => ?_⟩
  exact ⟨l, _, s.seq hl, .inr ⟨rfl, r, m, rfl, .inl (.inl ⟨de, (hr.up s).th (plainB_ok z1.1), kit_lone K z1.2, raises_caught (.inr (.inr (.inl ⟨rfl, rfl, rfl⟩))) (q2 _ _ _ rfl)⟩)⟩⟩
theorem outcS2 {ra : Addr} {t : Bool} {xs : List V} {bs : List Bool} {i : Nat} (hl : SqL K H l [.ref ra, m]) (hx : SqB K t H ra xs) (hb : bs.length = xs.length) (len : xs.length ≤ 50000) (ob : ∀ (i : Nat) (x : V), xs[i]? = some x → ∃ b, bs[i]? = some b ∧ Ob K T.C_Rule H x b)
    (hi : bs[i]? = some false) (first : ∀ b ∈ bs.take i, b = true) : Outc T 1 (.ref l) H (some ("rules", .int (i : Nat), .int (i : Nat))) := by
  refine ⟨fun nm x d q => (by cases q; exact .int _), fun H' s Q' _ q2 => ?_⟩
  refine ⟨l, _, s.seq hl, .inr ⟨rfl, _, m, rfl, .inl (.inr ⟨ra, t, xs, bs, rfl, hx.up s, hb, len, fun j x e => (by obtain ⟨b, z, o⟩ := ob j x e; exact ⟨b, z, o.same s⟩), fun all => ?_, fun j ej before => ?_⟩)⟩⟩
  · have := all _ (List.mem_of_getElem? hi)
    cases this
  · have ij : i = j := by
      rcases Nat.lt_trichotomy i j with h | h | h
      · have := before i false h hi
        cases this
      · exact h
      · have := first false (List.mem_of_getElem? (by rw [List.getElem?_take_of_lt h]; exact ej))
        cases this
    subst ij
    exact raises_caught (.inr (.inr (.inl ⟨rfl, rfl, rfl⟩))) (q2 _ _ _ rfl)
theorem outcS3 {rs : List RD} (hl : SqL K H l [r, m]) (hr : rulesOk T r H rs) (hm : Du H m de) (zm : (!de.hasDict && (SeqAt.shaped de && !isMode de)) = true) : Outc T 1 (.ref l) H (some ("mode", m, de)) := by
  have z1 := Bool.and_eq_true_iff.mp zm
  have z2 := Bool.and_eq_true_iff.mp z1.2
  refine ⟨fun nm x d q => (by cases q; exact hm), fun H' s Q' _ q2 => ?_⟩
  obtain ⟨ra, t, xs, rfl, hx, hru, hlen⟩ := hr
  exact ⟨l, _, s.seq hl, .inr ⟨rfl, _, m, rfl, .inr ⟨rs, ⟨ra, t, xs, rfl, hx.up s, hru.up s, hlen⟩, .inl ⟨de, (hm.up s).dp (by simpa using z1.1), z2.1, by simpa using z2.2, raises_caught (.inr (.inr (.inr (.inl ⟨rfl, rfl, rfl⟩)))) (q2 _ _ _ rfl)⟩⟩⟩⟩
theorem outcS4 {rs : List RD} {e : Str} (i : Nat) (rd : RD) (hl : SqL K H l [r, .str "longest"]) (hr : rulesOk T r H rs) (er : rs[i]? = some rd) (ee : rd.e = e) (nd : ((rs.take i).map RD.e).Nodup) (mem : rd.e ∈ (rs.take i).map RD.e) : Outc T 1 (.ref l) H (some ("same", .str e, .str e)) := by
  refine ⟨fun nm x d q => (by cases q; exact .str _), fun H' s Q' _ q2 => ?_⟩
  obtain ⟨ra, t, xs, rfl, hx, hru, hlen⟩ := hr
  subst ee
  exact ⟨l, _, s.seq hl, .inr ⟨rfl, _, _, rfl, .inr ⟨rs, ⟨ra, t, xs, rfl, hx.up s, hru.up s, hlen⟩, .inr ⟨"longest", rfl, okB_ok (by decide +kernel), by decide +kernel, .inl ⟨rfl, i, rd, er, nd, mem, raises_caught (.inr (.inr (.inr (.inr ⟨rfl, rfl, rfl⟩)))) (q2 _ _ _ rfl)⟩⟩⟩⟩⟩
theorem outcS5 {rs : List RD} {md : Str} (hl : SqL K H l [r, .str md]) (hr : rulesOk T r H rs) (om : okS md) (im : isMode (.str md) = true) (nd : md = "longest" → (rs.map RD.e).Nodup) : Outc T 1 (.ref l) H none := by
  refine ⟨fun nm x d q => (by cases q), fun H' s Q' q1 _ => ?_⟩
  obtain ⟨ra, t, xs, rfl, hx, hru, hlen⟩ := hr
  exact ⟨l, _, s.seq hl, .inr ⟨rfl, _, _, rfl, .inr ⟨rs, ⟨ra, t, xs, rfl, hx.up s, hru.up s, hlen⟩, .inr ⟨md, rfl, om, im, .inr ⟨nd, fun x H2 s2 => q1 rfl H2 s2⟩⟩⟩⟩⟩
end
theorem obs_nil {C : Addr} {H : Hp} : ∀ (i : Nat) (x : V), ([] : List V)[i]? = some x → ∃ b, ([] : List Bool)[i]? = some b ∧ Ob K C H x b := fun i x e => by simp at e
theorem obs_cons {C : Addr} {H : Hp} {y : V} {c : Bool} {xs : List V} {bs : List Bool} (h : Ob K C H y c) (r : ∀ (i : Nat) (x : V), xs[i]? = some x → ∃ b, bs[i]? = some b ∧ Ob K C H x b) :
    ∀ (i : Nat) (x : V), (y :: xs)[i]? = some x → ∃ b, (c :: bs)[i]? = some b ∧ Ob K C H x b := fun i x e => by
  cases i with
  | zero =>
    cases Option.some.inj e
    exact ⟨c, rfl, h⟩
  | succ i => exact r i x e
theorem wrong_obs {C : Addr} {H : Hp} {one two wr nn : V} {k : Nat} (o1 : Ob K C H one true) (o2 : Ob K C H two true) (ow : Ob K C H wr false) (on : Ob K C H nn false) (hk : k < 3) : ∃ bs : List Bool, bs.length = (List.take k [one, two] ++ [wr, nn]).length ∧
    (∀ (i : Nat) (x : V), (List.take k [one, two] ++ [wr, nn])[i]? = some x → ∃ b, bs[i]? = some b ∧ Ob K C H x b) ∧ bs[k]? = some false ∧ ∀ b ∈ bs.take k, b = true := by
  match k, hk with
  | 0, _ => exact ⟨[false, false], rfl, obs_cons ow (obs_cons on obs_nil), rfl, fun b h => by simp at h⟩
  | 1, _ => exact ⟨[true, false, false], rfl, obs_cons o1 (obs_cons ow (obs_cons on obs_nil)), rfl, fun b h => by simpa using h⟩
  | 2, _ => exact ⟨[true, true, false, false], rfl, obs_cons o1 (obs_cons o2 (obs_cons ow (obs_cons on obs_nil))), rfl, fun b h => by simpa using h⟩
end
abbrev wrongs : List PyData := [.none, .str "rule", .tuple [.str "a", .str ""], .int 5]
theorem wrongs_ok : ∀ d ∈ wrongs, plainB d = true := List.all_eq_true.mp (by decide +kernel)
abbrev odds : List PyData := [.none, .str "", .str "A", .str "a b", .int 5, .tuple [.str "a"], .list [.str "a"], .str "a1", .bool true, .str "\n", .str "ab\n", .str "ab "]
abbrev bads : List PyData := [.none, .str "A", .str "-", .int 5, .tuple [.str "a"], .list [.str "a"], .str "aB", .bool true, .dict [], .str "a1", .str "a b", .str "\n", .str "b\n"]
abbrev spoils : List PyData := [.none, .str "vowel", .tuple [.str "x"], .tuple [.str "runs", .int (-1)]]
abbrev nones : List PyData := [.none, .int 5, .str "ab", .dict [], .bool true]
abbrev manners : List PyData := [.none, .str "Longest", .str "", .int 5, .list [.str "first"], .bool true]
abbrev goods : List PyData := [.tuple [.str "vowel"], .tuple [.str "least", .int 2]]
def oddOk (d : PyData) : Bool := (plainB d && szb d) && !isWordOf d alph
def badOk (d : PyData) : Bool := (plainB d && szb d) && !isTextOf d alph
def noneOk (d : PyData) : Bool := plainB d && loneB d
def mannOk (d : PyData) : Bool := !d.hasDict && (SeqAt.shaped d && !isMode d)
def spoilt (n : Nat) (b : PyData) : List PyData := goods.take n ++ [b] ++ [.none]
def spoOk (n : Nat) (b : PyData) : Bool := (spoilt n b).all (fun d => plainB d && deepB d) && ((((spoilt n b).take n).all isCd && !isCd ((spoilt n b).getD n .none)) && decide ((spoilt n b).length ≤ 50000 ∧ n < (spoilt n b).length))
theorem odds_ok : ∀ d ∈ odds, oddOk d = true := List.all_eq_true.mp (by decide +kernel)
theorem bads_ok : ∀ d ∈ bads, badOk d = true := List.all_eq_true.mp (by decide +kernel)
theorem nones_ok : ∀ d ∈ nones, noneOk d = true := List.all_eq_true.mp (by decide +kernel)
theorem manners_ok : ∀ d ∈ manners, mannOk d = true := List.all_eq_true.mp (by decide +kernel)
theorem spo_ok : ∀ n ∈ [0, 1, 2], ∀ b ∈ spoils, spoOk n b = true := fun n hn b hb => List.all_eq_true.mp (List.all_eq_true.mp (by decide +kernel : ([0, 1, 2].all fun n => spoils.all fun b => spoOk n b) = true) n hn) b hb
def due0 (o b : PyData) (n : Nat) : List PyData := [.list [.str "text", o], .list [.str "text", b], .list [.str "conditions", .none], .list [.str "conditions", .int (n : Nat)], .list [.str "conditions", .int (n : Nat)]]
def due1 (m : PyData) (n : Nat) : List PyData := [.list [.str "rules", .none], .list [.str "rules", .int (n : Nat)], .list [.str "mode", m], .list [.str "mode", m], .list [.str "same", .str "b"], .none, .list [.str "same", .str "c"]]
def showB (ds : List PyData) : Bool := (PyData.list ds).showable && (decide ((PyData.list ds).shown.length ≤ 1000) && decide ((PyData.list ds).depth ≤ 40))
theorem due0_ok : ∀ o ∈ odds, ∀ b ∈ bads, ∀ n ∈ [0, 1, 2], showB (due0 o b n) = true := fun o ho b hb n hn =>
  List.all_eq_true.mp (List.all_eq_true.mp (List.all_eq_true.mp (by decide +kernel : (odds.all fun o => bads.all fun b => [0, 1, 2].all fun n => showB (due0 o b n)) = true) o ho) b hb) n hn
theorem due1_ok : ∀ m ∈ manners, ∀ n ∈ [0, 1, 2], showB (due1 m n) = true := fun m hm n hn =>
  List.all_eq_true.mp (List.all_eq_true.mp (by decide +kernel : (manners.all fun m => [0, 1, 2].all fun n => showB (due1 m n)) = true) m hm) n hn
theorem showB_ok {ds : List PyData} (h : showB ds = true) : (PyData.list ds).showable = true ∧ (PyData.list ds).shown.length ≤ sizeLine ∧ (PyData.list ds).depth ≤ 40 := by
  have h1 := Bool.and_eq_true_iff.mp h
  have h2 := Bool.and_eq_true_iff.mp h1.2
  exact ⟨h1.1, Nat.le_trans (of_decide_eq_true h2.1) (by decide), of_decide_eq_true h2.2⟩
end K02
set_option Elab.async false
set_option linter.all false
set_option maxRecDepth 100000
set_option maxHeartbeats 4000000
namespace K02
open PySem PySem.Spec PyProof.Rows L2 TL Mi
/-! ### short words -/
local macro_rules | `(tactic| walk_at "idx") => `(tactic| first | assumption | exact Evl.sq_of (by assumption) | exact Evl.st_of (by assumption) | exact Evl.sq_of upd_same | exact Evl.st_of upd_same)
local macro_rules | `(tactic| walk_at "side") => `(tactic| first | omega | exact Or.inl ⟨by omega, by omega⟩ | exact Or.inr ⟨by omega, by omega⟩ | exact ⟨by omega, by omega⟩ | decide +kernel)
local macro_rules | `(tactic| walk_at "div") => `(tactic| exact wide_div (b := 30) (by omega) (by omega) (by decide) (by decide))
local macro_rules | `(tactic| walk_at "pow") => `(tactic| exact ⟨by decide +kernel, by decide +kernel, by decide +kernel⟩)
local macro_rules | `(tactic| walk_at "rv") => `(tactic| first
  | with_reducible exact rv_addI | with_reducible exact rv_sub | with_reducible exact rv_lt | with_reducible exact rv_le | with_reducible exact rv_gt | with_reducible exact rv_ge
  | with_reducible exact rv_inC | with_reducible exact rv_notInC | with_reducible exact rv_isB
  | (with_reducible apply rv_mul
     walk_at "side")
  | (with_reducible apply rv_mod
     walk_at "side")
  | (with_reducible apply rv_div
     walk_at "div")
  | (with_reducible apply rv_pow
     walk_at "pow")
  | (with_reducible apply rv_eq
     exact rfl)
  | (with_reducible apply rv_ne
     exact rfl)
  | (with_reducible apply rv_ixL
     · walk_at "idx"
     · exact rfl)
  | (with_reducible apply rv_ixT
     · walk_at "idx"
     · exact rfl)
  | (with_reducible apply rv_ixS
     · walk_at "side"
     · exact rfl)
  | (with_reducible apply rv_addS
     walk_at "side"))
local macro_rules | `(tactic| walk_at "val") => `(tactic| first
  | with_reducible exact val_c | exact val_c
  | (with_reducible apply val_var
     exact rfl)
  | (with_reducible apply val_bin
     · walk_at "val"
     · walk_at "val"
     · walk_at "rv")
  | (with_reducible apply val_int1
     walk_at "val")
  | (with_reducible apply val_max2
     · walk_at "val"
     · walk_at "val")
  | (with_reducible apply val_min2
     · walk_at "val"
     · walk_at "val")
  | (with_reducible apply val_endsw
     · walk_at "val"
     · walk_at "val")
  | (with_reducible apply val_lenS
     · walk_at "val"
     · walk_at "side")
  | (with_reducible apply val_lenL
     · walk_at "val"
     · walk_at "idx")
  | (with_reducible apply val_lenT
     · walk_at "val"
     · walk_at "idx")
  | (with_reducible apply val_notV
     walk_at "val"))
local macro_rules | `(tactic| walk_at "ans") => `(tactic| first
  | (with_reducible apply ans_T
     walk_at "val")
  | (with_reducible apply ans_B
     walk_at "val")
  | (with_reducible apply ans_not
     walk_at "ans"))
local macro_rules | `(tactic| walk_at "ifp") => `(tactic| first
  | (with_reducible refine Eq.mpr (if_pos ?_) ?_
     · decide +kernel)
  | (with_reducible refine Eq.mpr (if_neg ?_) ?_
     · decide +kernel))
local macro_rules | `(tactic| walk_at "k") => `(tactic| first
  | with_reducible apply k_seq | with_reducible apply k_asg | with_reducible apply k_ret | with_reducible apply k_ifS | with_reducible apply k_drop | with_reducible apply k_name
  | (with_reducible apply k_var
     · exact rfl)
  | with_reducible apply k_c
  | with_reducible apply k_op | with_reducible apply k_cb | with_reducible apply k_call | with_reducible apply k_cons | with_reducible apply k_nil | with_reducible apply k_tup | with_reducible apply k_lst
  | with_reducible apply k_ifE | with_reducible apply k_test | with_reducible apply k_tb | with_reducible apply k_not | with_reducible apply k_and | with_reducible apply k_or | with_reducible apply k_bl
  | with_reducible apply k_sl | with_reducible apply k_part | with_reducible apply k_isI | with_reducible apply k_nopart
  | with_reducible apply k_lcZS | with_reducible apply k_onZS | with_reducible apply k_un | with_reducible apply k_neg
  | with_reducible apply k_forEB | with_reducible apply k_forSB | with_reducible apply k_lcSB | with_reducible apply k_fld | with_reducible apply k_prop | with_reducible apply k_sfld | with_reducible apply k_make | with_reducible apply k_makeK | with_reducible apply k_mkO | with_reducible apply k_par | with_reducible apply k_parR
  | with_reducible apply k_lcS | with_reducible apply k_lcR | with_reducible apply k_lcL | with_reducible apply k_lcT | with_reducible apply k_forS | with_reducible apply k_forR | with_reducible apply k_forL | with_reducible apply k_forT | with_reducible apply k_onS | with_reducible apply k_yes
  | (with_reducible apply k_augC
     · exact rfl)
  | with_reducible apply k_next | with_reducible apply k_eqInt | with_reducible apply k_neInt | with_reducible apply k_eqStr | with_reducible apply k_neStr
  | with_reducible apply k_andV | with_reducible apply k_orV | with_reducible apply k_notV
  | with_reducible apply k_m1 | with_reducible apply k_onStr | with_reducible apply k_endsw
  | (with_reducible apply k_slS
     · walk_at "side")
  | (with_reducible apply k_newTG
     · walk_at "len")
  | (with_reducible apply k_newLG
     · walk_at "len")
  | with_reducible apply k_int1 | with_reducible apply k_max2 | with_reducible apply k_min2
  | (with_reducible apply k_lenS
     · walk_at "side")
  | (with_reducible apply k_lenL
     · walk_at "idx")
  | (with_reducible apply k_lenT
     · walk_at "idx")
  | (with_reducible apply k_rv
     · walk_at "rv")
  | walk_at "ifp")
local macro_rules | `(tactic| walk_at "kk") => `(tactic| (repeat (walk_at "k")))
local macro_rules | `(tactic| walk_at "len") => `(tactic| first | exact (by decide : (1:Nat) ≤ 100000) | exact (by decide : (2:Nat) ≤ 100000) | exact (by decide : (3:Nat) ≤ 100000) | exact (by decide : (4:Nat) ≤ 100000) | exact (by decide : (7:Nat) ≤ 100000) | (simp only [List.length_cons, List.length_nil]; omega) | omega)
local macro_rules | `(tactic| walk_at "up") => `(tactic| first
  | assumption
  | (refine Dq.up ?_ (Gr.new (by assumption))
     walk_at "up")
  | (refine Dq.up ?_ (by assumption)
     walk_at "up"))
local macro_rules | `(tactic| walk_at "lit") => `(tactic| first
  | with_reducible exact lit_str | with_reducible exact lit_int | with_reducible exact lit_bl | with_reducible exact lit_non | with_reducible exact lit_neg | with_reducible exact lit_nil | with_reducible exact lit_dic
  | (with_reducible apply lit_cons
     · walk_at "lit"
     · walk_at "lit")
  | (with_reducible apply lit_tup
     · walk_at "lit"
     · decide)
  | (with_reducible apply lit_lst
     · walk_at "lit"
     · decide))

section
variable {P : Program} {w : World} {K : PySem.W.Frag} {mg : Str → Option Value} {base : Heap}
def spDoors : Sp := fun vs H Q _ => ∃ (p : Addr) (n : Nat), vs = [.ref p] ∧ Pu H p n ∧ n < 2 ^ 39 ∧ ∀ H', Gr [p] H H' → Pu H' p (n + 8) → Q (.bl true) H'
theorem ok_law_doors_right (T : Txt K mg) : FnG P w K mg base 12 T.a_law_doors_right T.fd_law_doors_right ["purse"] spDoors := by
  refine T.F_law_doors_right.okG sc_law_doors_right (fun vs H Q E h => ?_) (fun cdv A outer s H vs Q E gd hr h => ?_)
  · obtain ⟨p, n, rfl, _⟩ := h
    rfl
  · obtain ⟨p, n, rfl, hp, hn, q⟩ := h
    refine ⟨_, (pss_cons (ps_set (i := 1) sc_law_doors_right.nd rfl (Or.inl rfl) (pe_ix (ixK K) (pe_lst (pa_cons pe_non (pa_cons pe_str (pa_cons pe_str (pa_cons pe_str (pa_cons pe_int (pa_cons (pe_tup (pa_cons pe_str pa_nil)) (pa_cons (pe_lst (pa_cons pe_str pa_nil)) (pa_cons pe_str (pa_cons pe_bl (pa_cons pe_str (pa_cons pe_str (pa_cons pe_str pa_nil))))))))))))) (pe_call (ok_law_draw T) (hr.mono (by decide)) (by rfl) T.m_law_draw T.F_law_draw.kp T.b_law_draw .nil pass0 (pa_cons (pv 0) (pa_cons pe_int pa_nil))) (fun _ _ => rfl)))
      (pss_cons (ps_set (i := 2) sc_law_doors_right.nd rfl (Or.inl rfl) (pe_ix (ixK K) (pe_lst (pa_cons pe_non (pa_cons pe_str (pa_cons pe_str (pa_cons pe_int (pa_cons (pe_tup (pa_cons pe_str pa_nil)) (pa_cons (pe_lst (pa_cons pe_str pa_nil)) (pa_cons pe_str (pa_cons pe_bl (pa_cons pe_dnewK (pa_cons pe_str (pa_cons pe_str (pa_cons pe_str (pa_cons pe_str pa_nil)))))))))))))) (pe_call (ok_law_draw T) (hr.mono (by decide)) (by rfl) T.m_law_draw T.F_law_draw.kp T.b_law_draw .nil pass0 (pa_cons (pv 0) (pa_cons pe_int pa_nil))) (fun _ _ => rfl)))
      (pss_cons (ps_set (i := 3) sc_law_doors_right.nd rfl (Or.inl rfl) (pe_call (ok_law_draw T) (hr.mono (by decide)) (by rfl) T.m_law_draw T.F_law_draw.kp T.b_law_draw .nil pass0 (pa_cons (pv 0) (pa_cons pe_int pa_nil))))
      (pss_cons (ps_set (i := 4) sc_law_doors_right.nd rfl (Or.inl rfl) (pe_op (addK K) (pe_op (addK K) (pe_slice (slK K) (pe_lst (pa_cons (pe_tup (pa_cons pe_str pa_nil)) (pa_cons (pe_tup (pa_cons pe_str (pa_cons pe_int pa_nil))) pa_nil))) po_none (po_some (pv 3))) (pe_lst (pa_cons (pe_ix (ixK K) (pe_lst (pa_cons pe_non (pa_cons pe_str (pa_cons (pe_tup (pa_cons pe_str pa_nil)) (pa_cons (pe_tup (pa_cons pe_str (pa_cons (pe_un un_negA pe_int) pa_nil))) pa_nil))))) (pe_call (ok_law_draw T) (hr.mono (by decide)) (by rfl) T.m_law_draw T.F_law_draw.kp T.b_law_draw .nil pass0 (pa_cons (pv 0) (pa_cons pe_int pa_nil))) (fun _ _ => rfl)) pa_nil))) (pe_lst (pa_cons pe_non pa_nil))))
      (pss_cons (ps_set (i := 5) sc_law_doors_right.nd rfl (Or.inl rfl) (pe_ix (ixK K) (pe_lst (pa_cons pe_non (pa_cons pe_int (pa_cons pe_str (pa_cons pe_dnewK (pa_cons pe_bl pa_nil)))))) (pe_call (ok_law_draw T) (hr.mono (by decide)) (by rfl) T.m_law_draw T.F_law_draw.kp T.b_law_draw .nil pass0 (pa_cons (pv 0) (pa_cons pe_int pa_nil))) (fun _ _ => rfl)))
      (pss_cons (ps_set (i := 6) sc_law_doors_right.nd rfl (Or.inl rfl) (pe_lst (pa_cons (pe_lst (pa_cons (pv 1) (pa_cons (pv 2) (pa_cons (pv 5) pa_nil)))) (pa_cons (pe_lst (pa_cons pe_str (pa_cons (pv 2) (pa_cons (pv 5) pa_nil)))) (pa_cons (pe_lst (pa_cons pe_str (pa_cons pe_str (pa_cons (pv 5) pa_nil)))) (pa_cons (pe_lst (pa_cons pe_str (pa_cons pe_str (pa_cons (pv 4) pa_nil)))) (pa_cons (pe_lst (pa_cons pe_str (pa_cons pe_str (pa_cons (pe_callTy (tupK K) (by rfl) T.z_tuple B_tuple (pa_cons (pv 4) pa_nil)) pa_nil)))) pa_nil)))))))
      (pss_cons (ps_set (i := 7) sc_law_doors_right.nd rfl (Or.inl rfl) (pe_lst (pa_cons (pe_lst (pa_cons pe_str (pa_cons (pv 1) pa_nil))) (pa_cons (pe_lst (pa_cons pe_str (pa_cons (pv 2) pa_nil))) (pa_cons (pe_lst (pa_cons pe_str (pa_cons pe_non pa_nil))) (pa_cons (pe_lst (pa_cons pe_str (pa_cons (pe_callB (call_minA rfl) (by rfl) T.z_min B_min (pa_cons (pv 3) (pa_cons pe_int pa_nil))) pa_nil))) (pa_cons (pe_lst (pa_cons pe_str (pa_cons (pe_callB (call_minA rfl) (by rfl) T.z_min B_min (pa_cons (pv 3) (pa_cons pe_int pa_nil))) pa_nil))) pa_nil)))))))
      (pss_cons (ps_if (pt_cmpR (neK K hr) (pe_callTy (strLK hr gd) (by rfl) T.z_str B_str (pa_cons (pe_lc (own := [("some", 16)]) (by rfl) sc_law_doors_right.nd (listK K (pv 6)) (blkOk_by (N := ["purse", "odd", "bad", "at", "spoilt", "none", "asked", "due", "manner", "one", "two", "lots", "spot", "wrong", "twice", "nested", "some"]) (sc := defScope s_law_doors_right) (by decide +kernel)) (fun _ _ _ _ _ => (pg_name (i := 16) sc_law_doors_right.nd rfl (Or.inl rfl))) (fun _ _ _ _ _ => pts_nil) (fun _ _ _ _ _ => (pe_call (ok_law_caught T) (hr.mono (by decide)) (by rfl) T.m_law_caught T.F_law_caught.kp T.b_law_caught .nil pass0 (pa_cons pe_int (pa_cons (pv 16) pa_nil))))) pa_nil)) (pe_callTy (strLK hr gd) (by rfl) T.z_str B_str (pa_cons (pv 7) pa_nil)) (nomark _)) (pss_one (ps_ret pe_bl)) pss_nil)
      (pss_cons (ps_set (i := 8) sc_law_doors_right.nd rfl (Or.inl rfl) (pe_ix (ixK K) (pe_lst (pa_cons pe_non (pa_cons pe_str (pa_cons pe_str (pa_cons pe_int (pa_cons (pe_lst (pa_cons pe_str pa_nil)) (pa_cons pe_bl pa_nil))))))) (pe_call (ok_law_draw T) (hr.mono (by decide)) (by rfl) T.m_law_draw T.F_law_draw.kp T.b_law_draw .nil pass0 (pa_cons (pv 0) (pa_cons pe_int pa_nil))) (fun _ _ => rfl)))
      (pss_cons (ps_par (i := 9) (j := 10) (by rfl) sc_law_doors_right.nd rfl rfl (by decide) rfl rfl (pa_cons (pe_make T.mk_Rule (ok_Rule_init T) (hr.mono (by decide)) (by rfl) T.mc_Rule T.bD_Rule T.vD_Rule passL (pa_cons pe_str (pa_cons pe_str pa_nil))) (pa_cons (pe_make T.mk_Rule (ok_Rule_init T) (hr.mono (by decide)) (by rfl) T.mc_Rule T.bD_Rule T.vD_Rule passL (pa_cons pe_str (pa_cons pe_str pa_nil))) pa_nil)) (by rfl))
      (pss_cons (ps_set (i := 11) sc_law_doors_right.nd rfl (Or.inl rfl) (pe_slice (slK K) (pe_lst (pa_cons (pv 9) (pa_cons (pv 10) pa_nil))) po_none (po_some (pe_call (ok_law_draw T) (hr.mono (by decide)) (by rfl) T.m_law_draw T.F_law_draw.kp T.b_law_draw .nil pass0 (pa_cons (pv 0) (pa_cons pe_int pa_nil))))))
      (pss_cons (ps_set (i := 12) sc_law_doors_right.nd rfl (Or.inl rfl) (pe_callB (lenK K) (by rfl) T.z_len B_len (pa_cons (pv 11) pa_nil)))
      (pss_cons (ps_set (i := 13) sc_law_doors_right.nd rfl (Or.inl rfl) (pe_op (addK K) (pv 11) (pe_lst (pa_cons (pe_ix (ixK K) (pe_lst (pa_cons pe_non (pa_cons pe_str (pa_cons (pe_tup (pa_cons pe_str (pa_cons pe_str pa_nil))) (pa_cons pe_int pa_nil))))) (pe_call (ok_law_draw T) (hr.mono (by decide)) (by rfl) T.m_law_draw T.F_law_draw.kp T.b_law_draw .nil pass0 (pa_cons (pv 0) (pa_cons pe_int pa_nil))) (fun _ _ => rfl)) (pa_cons pe_non pa_nil)))))
      (pss_cons (ps_set (i := 14) sc_law_doors_right.nd rfl (Or.inl rfl) (pe_lst (pa_cons (pv 10) (pa_cons (pe_make T.mk_Rule (ok_Rule_init T) (hr.mono (by decide)) (by rfl) T.mc_Rule T.bD_Rule T.vD_Rule passL (pa_cons pe_str (pa_cons pe_str pa_nil))) (pa_cons (pe_makeK T.mk_Rule (ok_Rule_init T) (hr.mono (by decide)) (by rfl) T.mc_Rule T.kb_Rule_init_2_conditions passL (pa_cons pe_str (pa_cons pe_str pa_nil)) (pk_cons (pe_lst (pa_cons (pe_tup (pa_cons pe_str pa_nil)) pa_nil)) pk_nil)) (pa_cons (pe_make T.mk_Rule (ok_Rule_init T) (hr.mono (by decide)) (by rfl) T.mc_Rule T.bD_Rule T.vD_Rule passL (pa_cons pe_str (pa_cons pe_str pa_nil))) pa_nil))))))
      (pss_cons (ps_set (i := 6) sc_law_doors_right.nd rfl (Or.inl rfl) (pe_lst (pa_cons (pe_lst (pa_cons (pv 5) (pa_cons (pv 8) pa_nil))) (pa_cons (pe_lst (pa_cons (pv 13) (pa_cons (pv 8) pa_nil))) (pa_cons (pe_lst (pa_cons (pv 11) (pa_cons (pv 8) pa_nil))) (pa_cons (pe_lst (pa_cons (pv 14) (pa_cons (pv 8) pa_nil))) (pa_cons (pe_lst (pa_cons (pv 14) (pa_cons pe_str pa_nil))) pa_nil)))))))
      (pss_cons (ps_set (i := 15) sc_law_doors_right.nd rfl (Or.inl rfl) (pe_lst (pa_cons (pe_make T.mk_Rule (ok_Rule_init T) (hr.mono (by decide)) (by rfl) T.mc_Rule T.bD_Rule T.vD_Rule passL (pa_cons pe_str (pa_cons pe_str pa_nil))) (pa_cons (pe_make T.mk_Rule (ok_Rule_init T) (hr.mono (by decide)) (by rfl) T.mc_Rule T.bD_Rule T.vD_Rule passL (pa_cons pe_str (pa_cons pe_str pa_nil))) (pa_cons (pe_make T.mk_Rule (ok_Rule_init T) (hr.mono (by decide)) (by rfl) T.mc_Rule T.bD_Rule T.vD_Rule passL (pa_cons pe_str (pa_cons pe_str pa_nil))) (pa_cons (pe_make T.mk_Rule (ok_Rule_init T) (hr.mono (by decide)) (by rfl) T.mc_Rule T.bD_Rule T.vD_Rule passL (pa_cons pe_str (pa_cons pe_str pa_nil))) pa_nil))))))
      (pss_cons (ps_set (i := 6) sc_law_doors_right.nd rfl (Or.inl rfl) (pe_op (addK K) (pv 6) (pe_lst (pa_cons (pe_lst (pa_cons (pe_callTy (tupK K) (by rfl) T.z_tuple B_tuple (pa_cons (pv 14) pa_nil)) (pa_cons pe_str pa_nil))) (pa_cons (pe_lst (pa_cons (pv 15) (pa_cons pe_str pa_nil))) pa_nil)))))
      (pss_cons (ps_set (i := 7) sc_law_doors_right.nd rfl (Or.inl rfl) (pe_lst (pa_cons (pe_lst (pa_cons pe_str (pa_cons pe_non pa_nil))) (pa_cons (pe_lst (pa_cons pe_str (pa_cons (pv 12) pa_nil))) (pa_cons (pe_lst (pa_cons pe_str (pa_cons (pv 8) pa_nil))) (pa_cons (pe_lst (pa_cons pe_str (pa_cons (pv 8) pa_nil))) (pa_cons (pe_lst (pa_cons pe_str (pa_cons pe_str pa_nil))) (pa_cons pe_non pa_nil))))))))
      (pss_cons (ps_expr (appK K (pv 7) (pe_lst (pa_cons pe_str (pa_cons pe_str pa_nil)))))
      (pss_one (ps_ret (pe_cmpR (eqK K hr) (pe_callTy (strLK hr gd) (by rfl) T.z_str B_str (pa_cons (pe_lc (own := [("some", 16)]) (by rfl) sc_law_doors_right.nd (listK K (pv 6)) (blkOk_by (N := ["purse", "odd", "bad", "at", "spoilt", "none", "asked", "due", "manner", "one", "two", "lots", "spot", "wrong", "twice", "nested", "some"]) (sc := defScope s_law_doors_right) (by decide +kernel)) (fun _ _ _ _ _ => (pg_name (i := 16) sc_law_doors_right.nd rfl (Or.inl rfl))) (fun _ _ _ _ _ => pts_nil) (fun _ _ _ _ _ => (pe_call (ok_law_caught T) (hr.mono (by decide)) (by rfl) T.m_law_caught T.F_law_caught.kp T.b_law_caught .nil pass0 (pa_cons pe_int (pa_cons (pv 16) pa_nil))))) pa_nil)) (pe_callTy (strLK hr gd) (by rfl) T.z_str B_str (pa_cons (pv 7) pa_nil)) (nomark _))))))))))))))))))))))), ?_⟩
    apply k_seq
    apply k_asg
    refine k_pick (n := n) (m := 12) (ds := odds) (by walk_at "lit") hp.live rfl rfl (by decide) (by decide) (by omega) hp (fun odd dO H1 g1 p1 mO duO => ?_)
    walk_at "k"
    walk_at "k"
    apply k_asg
    refine k_pick (n := n + 1) (m := 13) (ds := bads) (by walk_at "lit") p1.live rfl rfl (by decide) (by decide) (by omega) p1 (fun bad dB H2 g2 p2 mB duB => ?_)
    walk_at "kk"
    refine ⟨p, 3, n + 1 + 1, rfl, by omega, by omega, p2, by omega, fun H3 i g3 p3 i1 i2 => ?_⟩
    obtain ⟨at_, rfl⟩ := Int.eq_ofNat_of_zero_le i1
    have a3 : at_ < 3 := by omega
    walk_at "k"
    walk_at "k"
    apply k_asg
    apply k_op
    apply k_op
    apply k_sl
    apply k_lit (S := [p]) (d := .list goods)
    · walk_at "lit"
    · exact p3.live
    intro v H4 s4 d4
    obtain ⟨c1, y1, rfl, n1, e1, d1⟩ := d4.lstAt
    have p4 := p3.same s4
    walk_at "kk"
    have l2 : at_ ≤ y1.length := by rw [d1.len]; show at_ ≤ 2; omega
    refine k_slTakeG rfl (Evl.sq_of e1) l2 (fun c2 H5 s5 h2 e2 => ?_)
    have p5 := p4.same s5
    have n2 : c2 ∉ [p] := (p4.live).nin h2
    have d2 := (d1.take at_).up (s5.hid [p])
    apply k_lst
    apply k_cons
    refine k_pick (n := n + 1 + 1 + 1) (m := 4) (ds := spoils) (by walk_at "lit") p5.live rfl rfl (by decide) (by decide) (by omega) p5 (fun spo dS H6 g6 p6 mS duS => ?_)
    walk_at "kk"
    intro c3 H7 s7 h3 e3
    refine k_catG (s7 _ _ (g6 c2 _ n2 e2)) e3 (by rw [List.length_take, d1.len]; show min at_ 2 + 1 ≤ 100000; omega) (fun c4 H8 s8 h4 e4 => ?_)
    walk_at "kk"
    intro c5 H9 s9 h5 e5
    refine k_catG (s9 _ _ e4) e5 (by rw [List.length_append, List.length_take, d1.len]; show min at_ 2 + 1 + 1 ≤ 100000; omega) (fun c6 H10 s10 h6 e6 => ?_)
    have s710 := s7.trans (s8.trans (s9.trans s10))
    have n6 : c6 ∉ [p] := ((p6.same (s7.trans (s8.trans s9))).live).nin h6
    have p10 := p6.same s710
    have g10 : Gr [p] H3 H10 := (((Gr.of s4).trans (Gr.of s5)).trans g6).trans (Gr.of s710)
    have d6 : DuAll (Hd [p] H10) (y1.take at_ ++ [spo] ++ [V.non]) (spoilt at_ dS) := ((d2.up g6.hd).up (s710.hid [p]) |>.append (.cons (duS.up (s710.hid [p])) .nil)).append (.cons .non .nil)
    have xl : (y1.take at_ ++ [spo] ++ [V.non]).length ≤ 4 := by
      rw [d6.len]
      unfold spoilt
      rw [List.length_append, List.length_append, List.length_take]
      show min at_ 2 + 1 + 1 ≤ 4
      omega
    generalize y1.take at_ ++ [spo] ++ [V.non] = xsp at e6 d6 xl
    clear e1 d1 e2 d2 e3 e4 e5 s7 s8 s9 s10 h2 h3 h4 h5 h6 s5 p5 n2 p4 s4
    walk_at "k"
    walk_at "k"
    apply k_asg
    refine k_pick (n := n + 1 + 1 + 1 + 1) (m := 5) (ds := nones) (by walk_at "lit") p10.live rfl rfl (by decide) (by decide) (by omega) p10 (fun non dN H11 g11 p11 mN duN => ?_)
    walk_at "kk"
    intro l1 H12 s12 f1 r1
    walk_at "kk"
    intro l2 H13 s13 f2 r2
    walk_at "kk"
    intro l3 H14 s14 f3 r3
    walk_at "kk"
    intro l4 H15 s15 f4 r4
    walk_at "kk"
    refine k_tupLG (Evl.sq_of (s15 _ _ (s14 _ _ (s13 _ _ (s12 _ _ (g11 _ _ n6 e6)))))) (fun c7 H16 s16 h7 e7 => ?_)
    walk_at "kk"
    intro l5 H17 s17 f5 r5
    walk_at "kk"
    intro l6 H18 s18 f6 r6
    have s1218 := s12.trans (s13.trans (s14.trans (s15.trans (s16.trans (s17.trans s18)))))
    have p18 := p11.same s1218
    have q1 := s18 _ _ (s17 _ _ (s16 _ _ (s15 _ _ (s14 _ _ (s13 _ _ r1)))))
    have q2 := s18 _ _ (s17 _ _ (s16 _ _ (s15 _ _ (s14 _ _ r2))))
    have q3 := s18 _ _ (s17 _ _ (s16 _ _ (s15 _ _ r3)))
    have q4 := s18 _ _ (s17 _ _ (s16 _ _ r4))
    have q5 := s18 _ _ r5
    have r6' := r6
    have q7 := s18 _ _ (s17 _ _ e7)
    have q6 := s1218 _ _ (g11 _ _ n6 e6)
    have up18 : ∀ {S : List Addr} {v : V} {d : PyData}, Du (Hd S H11) v d → Du H18 v d := fun h => (h.up (s1218.hid _)).up (hd_same _ _)
    have duO18 : Du H18 odd dO := up18 (((duO.up (g2.hd)).up g3.hd).up (g10.trans g11).hd)
    have duB18 : Du H18 bad dB := up18 ((duB.up g3.hd).up (g10.trans g11).hd)
    have duN18 : Du H18 non dN := up18 duN
    have duNh := duN.up (s1218.hid [p])
    have d618 : DuAll H18 xsp (spoilt at_ dS) := ((d6.up g11.hd).up (s1218.hid _)).up (hd_same _ _)
    have g18 : Gr [p] H H18 := (((((g1.trans g2).trans g3).trans g10).trans g11).trans (Gr.of s1218))
    clear r1 r2 r3 r4 r5 r6 e7 f1 f2 f3 f4 f5 f6 h7 e6 duO duB duN d6 duS g1 g2 g3 g10 g11 g6 s12 s13 s14 s15 s16 s17 s18 s1218 up18 p1 p2 p3 p6 p10 p11 s710
    walk_at "kk"
    intro m1 H19 t1 f1 r1
    walk_at "kk"
    intro m2 H20 t2 f2 r2
    walk_at "kk"
    intro m3 H21 t3 f3 r3
    walk_at "kk"
    intro m4 H22 t4 f4 r4
    walk_at "kk"
    intro m5 H23 t5 f5 r5
    walk_at "kk"
    intro m6 H24 t6 f6 r6
    walk_at "kk"
    have em : (if (2 : Int) < (at_ : Int) then (2 : Int) else (at_ : Int)) = (at_ : Int) := if_neg (by omega)
    rw [em] at r4 r5
    have t1924 := t1.trans (t2.trans (t3.trans (t4.trans (t5.trans t6))))
    have zo := Bool.and_eq_true_iff.mp (odds_ok dO mO)
    have zb := Bool.and_eq_true_iff.mp (bads_ok dB mB)
    have wo : isWordOf dO alph = false := by simpa using zo.2
    have tb : isTextOf dB alph = false := by simpa using zb.2
    have m3 : at_ ∈ [0, 1, 2] := by simp; omega
    have sp := Bool.and_eq_true_iff.mp (spo_ok at_ m3 dS mS)
    have sp2 := Bool.and_eq_true_iff.mp sp.2
    have sp3 := of_decide_eq_true sp2.2
    have oc1 : Outc T 0 (.ref l1) H18 _ := outcR1 (Evl.sq_of q1) duO18 duB18 zo.1 zb.1 wo
    have oc2 : Outc T 0 (.ref l2) H18 _ := outcR2 (Evl.sq_of q2) (.str "a") duB18 (by decide +kernel) zb.1 (by decide +kernel) tb
    have oc3 : Outc T 0 (.ref l3) H18 _ := outcR3 (Evl.sq_of q3) (.str "a") (.str "") duN18 (by decide +kernel) (by decide +kernel) (nones_ok dN mN) (by decide +kernel) (by decide +kernel)
    have oc4 : Outc T 0 (.ref l4) H18 _ := outcR4 (t := false) (i := at_) (Evl.sq_of q4) (.str "ab") (.str "z") (Evl.sq_of q6) d618 (by decide +kernel) (by decide +kernel) sp3.1 sp.1 sp3.2 sp2.1 (by decide +kernel) (by decide +kernel)
    have oc5 : Outc T 0 (.ref l5) H18 _ := outcR4 (t := true) (i := at_) (Evl.sq_of q5) (.str "ab") (.str "z") (Evl.st_of q7) d618 (by decide +kernel) (by decide +kernel) sp3.1 sp.1 sp3.2 sp2.1 (by decide +kernel) (by decide +kernel)
    refine k_onL (Evl.sq_of (t1924 _ _ r6')) (caught_lc T [.ref l1, .ref l2, .ref l3, .ref l4, .ref l5] [some ("text", odd, dO), some ("text", bad, dB), some ("conditions", .non, .none), some ("conditions", .int (at_ : Nat), .int (at_ : Nat)), some ("conditions", .int (at_ : Nat), .int (at_ : Nat))]
      (Evl.sq_of (t1924 _ _ r6')) rfl (by show 5 ≤ 500; decide) (by intro _; rfl) (by exact (by decide : 16 < 17)) (ho_cons (oc1.up t1924) (ho_cons (oc2.up t1924) (ho_cons (oc3.up t1924) (ho_cons (oc4.up t1924) (ho_cons (oc5.up t1924) ho_nil))))) (fun D1 H25 ws nD1 s25 eD1 du25 => ?_))
    have sh := showB_ok (due0_ok dO mO dB mB at_ m3)
    walk_at "kk"
    refine ⟨D1, due0 dO dB at_, rfl, .lst eD1 du25, (by intro z; cases z), sh.1, sh.2.1, sh.2.2, ?_⟩
    walk_at "kk"
    have w25 := t1924.trans s25
    refine ⟨m6, due0 dO dB at_, rfl, .lst (s25 _ _ r6) ?_, (by intro z; cases z), sh.1, sh.2.1, sh.2.2, ?_⟩
    · exact .cons (.lst (s25 _ _ (t6 _ _ (t5 _ _ (t4 _ _ (t3 _ _ (t2 _ _ r1)))))) (.cons (.str _) (.cons (duO18.up w25) .nil)))
        (.cons (.lst (s25 _ _ (t6 _ _ (t5 _ _ (t4 _ _ (t3 _ _ r2))))) (.cons (.str _) (.cons (duB18.up w25) .nil)))
        (.cons (.lst (s25 _ _ (t6 _ _ (t5 _ _ (t4 _ _ r3)))) (.cons (.str _) (.cons .non .nil)))
        (.cons (.lst (s25 _ _ (t6 _ _ (t5 _ _ r4))) (.cons (.str _) (.cons (.int _) .nil)))
        (.cons (.lst (s25 _ _ (t6 _ _ r5)) (.cons (.str _) (.cons (.int _) .nil))) .nil))))
    refine k_neSame rfl ?_
    walk_at "k"
    walk_at "k"
    walk_at "k"
    have p25 := p18.same w25
    have g25 := g18.trans (Gr.of w25)
    have duN25 := duNh.up (w25.hid [p])
    clear duNh p18 g18 w25 t1924 s25 r1 r2 r3 r4 r5 r6 r6' q1 q2 q3 q4 q5 q6 q7 oc1 oc2 oc3 oc4 oc5 eD1 du25 duO18 duB18 duN18 d618 t1 t2 t3 t4 t5 t6 f1 f2 f3 f4 f5 f6 sp sp2 sp3 sh zo zb wo tb
    refine k_st [some (.ref p), some (odd), some (bad), some (.int at_), some (.ref c6), some (non), some (.ref l6), some (.ref m6), none, none, none, none, none, none, none, none, none] rfl ?_
    walk_at "k"
    apply k_asg
    refine k_pick (n := n + 1 + 1 + 1 + 1 + 1) (m := 6) (ds := manners) (by walk_at "lit") p25.live rfl rfl (by decide) (by decide) (by omega) p25 (fun man dM H26 g26 p26 mM duM => ?_)
    walk_at "kk"
    refine rule_madeR T (by decide +kernel) (fun one H27 s27 ru1 => ?_)
    walk_at "kk"
    refine rule_madeR T (by decide +kernel) (fun two H28 s28 ru2 => ?_)
    walk_at "kk"
    intro c8 H29 s29 h8 e8
    walk_at "kk"
    have p29 := p26.same (s27.trans (s28.trans s29))
    have n8 : c8 ∉ [p] := ((p26.same (s27.trans s28)).live).nin h8
    refine ⟨p, 3, n + 1 + 1 + 1 + 1 + 1 + 1, rfl, by omega, by omega, p29, by omega, fun H30 i g30 p30 j1 j2 => ?_⟩
    obtain ⟨k, rfl⟩ := Int.eq_ofNat_of_zero_le j1
    have k3 : k < 3 := by omega
    walk_at "kk"
    refine k_slTakeG rfl (Evl.sq_of (g30 c8 _ n8 e8)) (by show k ≤ 2; omega) (fun c9 H31 s31 h9 e9 => ?_)
    iterate 11 (walk_at "k")
    have lk : (List.take k [one, two]).length = k := by rw [List.length_take]; show min k 2 = k; omega
    rw [show (((List.take k [one, two]).length : Nat) : Int) = (k : Int) by rw [lk]]
    have p31 := p30.same s31
    have n9 : c9 ∉ [p] := p30.live.nin h9
    apply k_op
    walk_at "k"
    apply k_lst
    apply k_cons
    refine k_pick (n := n + 1 + 1 + 1 + 1 + 1 + 1 + 1) (m := 4) (ds := wrongs) (by walk_at "lit") p31.live rfl rfl (by decide) (by decide) (by omega) p31 (fun wr dW H32 g32 p32 mW duW => ?_)
    walk_at "kk"
    intro c10 H33 s33 h10 e10
    refine k_catG (s33 _ _ (g32 c9 _ n9 e9)) e10 (by rw [lk]; show k + 2 ≤ 100000; omega) (fun c11 H34 s34 h11 e11 => ?_)
    walk_at "k"
    refine k_st [some (.ref p), some (odd), some (bad), some (.int at_), some (.ref c6), some (non), some (.ref l6), some (.ref m6), some (man), some (one), some (two), some (.ref c9), some (.int k), some (.ref c11), none, none, none] rfl ?_
    walk_at "kk"
    refine rule_madeR T (by decide +kernel) (fun rc H35 s35 ru3 => ?_)
    walk_at "kk"
    intro z1 H36 s36 hz1 ez1
    walk_at "kk"
    intro z2 H37 s37 hz2 ez2
    walk_at "kk"
    refine rule_madeK T (r := ⟨"b", "", [.pos .vowel]⟩) ⟨z2, false, [.ref z1], rfl, Evl.sq_of ez2, .cons (.tup (Evl.st_of (s37 _ _ ez1)) (.cons (.str _) .nil)) .nil⟩ (letB_ok (by decide +kernel) fun c hc => (by rw [List.mem_singleton.mp hc]; exact fit_pos trivial trivial trivial fun _ e => nomatch e)) (fun rb H38 s38 ru4 => ?_)
    walk_at "kk"
    refine rule_madeR T (by decide +kernel) (fun ra H39 s39 ru5 => ?_)
    walk_at "kk"
    intro c12 H40 s40 h12 e12
    walk_at "k"
    refine k_st [some (.ref p), some (odd), some (bad), some (.int at_), some (.ref c6), some (non), some (.ref l6), some (.ref m6), some (man), some (one), some (two), some (.ref c9), some (.int k), some (.ref c11), some (.ref c12), none, none] rfl ?_
    walk_at "kk"
    intro a1 H41 s41 h13 e13
    walk_at "kk"
    intro a2 H42 s42 h14 e14
    walk_at "kk"
    intro a3 H43 s43 h15 e15
    walk_at "kk"
    intro a4 H44 s44 h16 e16
    walk_at "kk"
    intro a5 H45 s45 h17 e17
    walk_at "kk"
    intro a6 H46 s46 h18 e18
    walk_at "k"
    refine k_st [some (.ref p), some (odd), some (bad), some (.int at_), some (.ref c6), some (non), some (.ref a6), some (.ref m6), some (man), some (one), some (two), some (.ref c9), some (.int k), some (.ref c11), some (.ref c12), none, none] rfl ?_
    walk_at "kk"
    refine rule_madeR T (by decide +kernel) (fun na H47 s47 ru6 => ?_)
    walk_at "kk"
    refine rule_madeR T (by decide +kernel) (fun nb H48 s48 ru7 => ?_)
    walk_at "kk"
    refine rule_madeR T (by decide +kernel) (fun nc H49 s49 ru8 => ?_)
    walk_at "kk"
    refine rule_madeR T (by decide +kernel) (fun nd H50 s50 ru9 => ?_)
    walk_at "kk"
    intro c13 H51 s51 h19 e19
    walk_at "k"
    refine k_st [some (.ref p), some (odd), some (bad), some (.int at_), some (.ref c6), some (non), some (.ref a6), some (.ref m6), some (man), some (one), some (two), some (.ref c9), some (.int k), some (.ref c11), some (.ref c12), some (.ref c13), none] rfl ?_
    walk_at "kk"
    have s40_51 := s41.trans (s42.trans (s43.trans (s44.trans (s45.trans (s46.trans (s47.trans (s48.trans (s49.trans (s50.trans s51)))))))))
    refine k_tupLG (Evl.sq_of (s40_51 _ _ e12)) (fun c14 H52 s52 h20 e20 => ?_)
    walk_at "kk"
    intro b1 H53 s53 h21 e21
    walk_at "kk"
    intro b2 H54 s54 h22 e22
    walk_at "kk"
    intro b3 H55 s55 h23 e23
    have s46_55 := s47.trans (s48.trans (s49.trans (s50.trans (s51.trans (s52.trans (s53.trans (s54.trans s55)))))))
    refine k_catG (s46_55 _ _ e18) e23 (by show 5 + 2 ≤ 100000; decide) (fun c15 H56 s56 h24 e24 => ?_)
    walk_at "k"
    refine k_st [some (.ref p), some (odd), some (bad), some (.int at_), some (.ref c6), some (non), some (.ref c15), some (.ref m6), some (man), some (one), some (two), some (.ref c9), some (.int k), some (.ref c11), some (.ref c12), some (.ref c13), none] rfl ?_
    walk_at "kk"
    intro d1 H57 s57 h25 e25
    walk_at "kk"
    intro d2 H58 s58 h26 e26
    walk_at "kk"
    intro d3 H59 s59 h27 e27
    walk_at "kk"
    intro d4 H60 s60 h28 e28
    walk_at "kk"
    intro d5 H61 s61 h29 e29
    walk_at "kk"
    intro du H62 s62 h30 e30
    walk_at "k"
    refine k_st [some (.ref p), some (odd), some (bad), some (.int at_), some (.ref c6), some (non), some (.ref c15), some (.ref du), some (man), some (one), some (two), some (.ref c9), some (.int k), some (.ref c11), some (.ref c12), some (.ref c13), none] rfl ?_
    walk_at "kk"
    refine ⟨.ref du, rfl, .inl ⟨rfl, _, Evl.sq_of e30⟩, ?_⟩
    walk_at "kk"
    intro d6 H63 s63 h31 e31
    walk_at "kk"
    refine rAppG (s63 _ _ e30) (by show 6 ≤ 100000; decide) (fun H64 g64 e64 => ?_)
    have sF : Same H61 H64 := (((Gr.of (s62.trans s63)).trans g64).less h30).same
    have e31' : H64 d6 = some (.lst [.str "same", .str "c"]) := g64 _ _ (by
      have : H63 du = some (.lst [.ref d1, .ref d2, .ref d3, .ref d4, .ref d5, .non]) := s63 _ _ e30
      intro z
      rw [List.mem_singleton.mp z] at h31
      rw [e30] at h31
      cases h31) e31
    have u60 := s61
    have u59 := s60.trans u60
    have u58 := s59.trans u59
    have u57 := s58.trans u58
    have u56 := s57.trans u57
    have u55 := s56.trans u56
    have u54 := s55.trans u55
    have u53 := s54.trans u54
    have u52 := s53.trans u53
    have u51 := s52.trans u52
    have u50 := s51.trans u51
    have u49 := s50.trans u50
    have u48 := s49.trans u49
    have u47 := s48.trans u48
    have u46 := s47.trans u47
    have u45 := s46.trans u46
    have u44 := s45.trans u45
    have u43 := s44.trans u44
    have u42 := s43.trans u43
    have u41 := s42.trans u42
    have u40 := s41.trans u41
    have u39 := s40.trans u40
    have u38 := s39.trans u39
    have u37 := s38.trans u38
    have u36 := s37.trans u37
    have u35 := s36.trans u36
    have u34 := s35.trans u35
    have u33 := s34.trans u34
    have u32 := s33.trans u33
    have p29' := p29
    obtain ⟨_, _, _, pe, _⟩ := p29'
    have p30' := p30
    have up32 : ∀ {v : V} {r : RD}, RuA K T.C_Rule H29 v r → RuA K T.C_Rule H61 v r := fun h => (((((h.d1 pe).up g30.hd).up (s31.hid [p])).up g32.hd).up (hd_same _ _)).up u32
    have ru1' := up32 (ru1.up (s28.trans s29))
    have ru2' := up32 (ru2.up s29)
    have r12 : RuAll K T.C_Rule H61 (List.take k [one, two]) _ := (RuAll.cons ru1' (.cons ru2' .nil)).take k
    have hidM : ∀ {v : V} {d : PyData}, Du (Hd [p] H26) v d → Du H61 v d := fun h => (((((h.up ((s27.trans (s28.trans s29)).hid [p])).up g30.hd).up (s31.hid [p])).up g32.hd).up (hd_same _ _)).up u32
    have duM61 := hidM duM
    have duN61 := hidM (duN25.up g26.hd)
    have duW61 := (duW.up (hd_same _ _)).up u32
    have e9' := g32 c9 _ n9 e9
    have q9 := u32 _ _ e9'
    have q11 := u34 _ _ e11
    have q12 := u40 _ _ e12
    have q13 := u51 _ _ e19
    have q14 := u52 _ _ e20
    have tw : RuAll K T.C_Rule H61 [two, rc, rb, ra] [⟨"b", "ab", []⟩, ⟨"c", "", []⟩, ⟨"b", "", [.pos .vowel]⟩, ⟨"c", "a", []⟩] := .cons ru2' (.cons (ru3.up u35) (.cons (ru4.up u38) (.cons (ru5.up u39) .nil)))
    have ne_ : RuAll K T.C_Rule H61 [na, nb, nc, nd] [⟨"b", "", []⟩, ⟨"c", "", []⟩, ⟨"c", "a", []⟩, ⟨"b", "a", []⟩] := .cons (ru6.up u47) (.cons (ru7.up u48) (.cons (ru8.up u49) (.cons (ru9.up u50) .nil)))
    have obR : ∀ {v : V} {r : RD}, RuA K T.C_Rule H61 v r → Ob K T.C_Rule H61 v true := fun h => by
      obtain ⟨a, dx, fs, rfl, ha⟩ := h.ins
      exact ob_ins T.in_Rule ha
    obtain ⟨bs, hb, hob, hi, hf⟩ := wrong_obs (obR ru1') (obR ru2') (ob_th T.ki_Rule T.kt_Rule (duW61.th (plainB_ok (wrongs_ok dW mW)))) (ob_th T.ki_Rule T.kt_Rule (.inl .non : Th K H61 .non .none)) k3
    have oc1 : Outc T 1 (.ref a1) H61 _ := outcS1 (Evl.sq_of (u41 _ _ e13)) duN61 (nones_ok dN mN)
    have oc2 : Outc T 1 (.ref a2) H61 _ := outcS2 (t := false) (i := k) (Evl.sq_of (u42 _ _ e14)) (Evl.sq_of q11) hb (by rw [List.length_append, lk]; show k + 2 ≤ 50000; omega) hob hi hf
    have oc3 : Outc T 1 (.ref a3) H61 _ := outcS3 (Evl.sq_of (u43 _ _ e15)) ⟨c9, false, _, rfl, Evl.sq_of q9, r12, (by rw [← r12.len, lk]; omega)⟩ duM61 (manners_ok dM mM)
    have oc4 : Outc T 1 (.ref a4) H61 _ := outcS3 (Evl.sq_of (u44 _ _ e16)) ⟨c12, false, _, rfl, Evl.sq_of q12, tw, by show 4 ≤ 1000; decide⟩ duM61 (manners_ok dM mM)
    have oc5 : Outc T 1 (.ref a5) H61 (some ("same", .str "b", .str "b")) := outcS4 2 ⟨"b", "", [.pos .vowel]⟩ (Evl.sq_of (u45 _ _ e17)) ⟨c12, false, _, rfl, Evl.sq_of q12, tw, by show 4 ≤ 1000; decide⟩ rfl rfl (by decide +kernel) (by decide +kernel)
    have oc6 : Outc T 1 (.ref b1) H61 _ := outcS5 (md := "first") (Evl.sq_of (u53 _ _ e21)) ⟨c14, true, _, rfl, Evl.st_of q14, tw, by show 4 ≤ 1000; decide⟩ (okB_ok (by decide +kernel)) (by decide +kernel) (fun z => absurd z (by decide +kernel))
    have oc7 : Outc T 1 (.ref b2) H61 (some ("same", .str "c", .str "c")) := outcS4 2 ⟨"c", "a", []⟩ (Evl.sq_of (u54 _ _ e22)) ⟨c13, false, _, rfl, Evl.sq_of q13, ne_, by show 4 ≤ 1000; decide⟩ rfl rfl (by decide +kernel) (by decide +kernel)
    have qa : H64 c15 = some (.lst [.ref a1, .ref a2, .ref a3, .ref a4, .ref a5, .ref b1, .ref b2]) := sF _ _ (u56 _ _ e24)
    walk_at "kk"
    refine k_onL (Evl.sq_of qa) (caught_lc T [.ref a1, .ref a2, .ref a3, .ref a4, .ref a5, .ref b1, .ref b2] [some ("rules", .non, .none), some ("rules", .int (k : Nat), .int (k : Nat)), some ("mode", man, dM), some ("mode", man, dM), some ("same", .str "b", .str "b"), none, some ("same", .str "c", .str "c")]
      (Evl.sq_of qa) rfl (by show 7 ≤ 500; decide) (by intro _; rfl) (by exact (by decide : 16 < 17)) (ho_cons (oc1.up sF) (ho_cons (oc2.up sF) (ho_cons (oc3.up sF) (ho_cons (oc4.up sF) (ho_cons (oc5.up sF) (ho_cons (oc6.up sF) (ho_cons (oc7.up sF) ho_nil))))))) (fun D2 H65 ws2 nD2 s65 eD2 du65 => ?_))
    have sh := showB_ok (due1_ok dM mM k (by simp; omega))
    walk_at "kk"
    refine ⟨D2, due1 dM k, rfl, .lst eD2 du65, (by intro z; cases z), sh.1, sh.2.1, sh.2.2, ?_⟩
    walk_at "kk"
    have w65 := sF.trans s65
    have dM65 := duM61.up w65
    refine ⟨du, due1 dM k, rfl, .lst (s65 _ _ e64) ?_, (by intro z; cases z), sh.1, sh.2.1, sh.2.2, ?_⟩
    · exact .cons (.lst (w65 _ _ (u57 _ _ e25)) (.cons (.str _) (.cons .non .nil)))
        (.cons (.lst (w65 _ _ (u58 _ _ e26)) (.cons (.str _) (.cons (.int _) .nil)))
        (.cons (.lst (w65 _ _ (u59 _ _ e27)) (.cons (.str _) (.cons dM65 .nil)))
        (.cons (.lst (w65 _ _ (u60 _ _ e28)) (.cons (.str _) (.cons dM65 .nil)))
        (.cons (.lst (w65 _ _ e29) (.cons (.str _) (.cons (.str _) .nil)))
        (.cons .non (.cons (.lst (s65 _ _ e31') (.cons (.str _) (.cons (.str _) .nil))) .nil))))))
    refine k_eqSame rfl ?_
    have gEnd : Gr [p] H H65 := (((((g25.trans g26).trans (Gr.of (s27.trans (s28.trans s29)))).trans g30).trans (Gr.of s31)).trans g32).trans (Gr.of (u32.trans w65))
    have pEnd : Pu H65 p (n + 8) := p32.same (u32.trans w65)
    walk_at "kk"
    exact q _ gEnd pEnd
end
end K02
set_option Elab.async false
set_option linter.all false
set_option maxRecDepth 100000
set_option maxHeartbeats 4000000
namespace K02
open PySem PySem.Spec PyProof.Rows L2 TL Mi
section
variable {X : Cx}
theorem ruleNeK {mg : Str → Option Value} (K : PySem.W.Frag) (T : Txt K mg) (hr : Room 2 X.A) (h : X.K = K := by rfl) (hm : X.mg = mg := by rfl) : OpR X (compareOp .NotEq) (rOwnNe K T.C_Rule (reqR K T.C_Rule)) := by
  subst h
  subst hm
  exact op_neB (rnB_own (ok_Rule_eq T) T.ow_Rule T.bM_Rule_eq pass0) hr
theorem ruleEqK {mg : Str → Option Value} (K : PySem.W.Frag) (T : Txt K mg) (hr : Room 1 X.A) (h : X.K = K := by rfl) (hm : X.mg = mg := by rfl) : OpR X (compareOp .Eq) (rOwnEq K T.C_Rule (reqR K T.C_Rule)) := by
  subst h
  subst hm
  exact op_eqB (rcB_own (ok_Rule_eq T) T.ow_Rule T.bM_Rule_eq pass0) hr
theorem ruleInK {mg : Str → Option Value} (K : PySem.W.Frag) (T : Txt K mg) (hr : Room 2 X.A) (h : X.K = K := by rfl) (hm : X.mg = mg := by rfl) : OpR X (compareOp .In) (rInB (DRul K T.C_Rule)) := by
  subst h
  subst hm
  exact op_inB mon_DRul (eqB_rul (ok_Rule_eq T) T.ow_Rule T.bM_Rule_eq T.in_Rule) hr
theorem stepNeK {mg : Str → Option Value} (K : PySem.W.Frag) (T : Txt K mg) (hr : Room 4 X.A) (h : X.K = K := by rfl) (hm : X.mg = mg := by rfl) : OpR X (compareOp .NotEq) (rOwnNe K T.C_Step (stR K T.C_Step T.C_Rule)) := by
  subst h
  subst hm
  exact op_neB (rnB_own (ok_Step_eq T) T.ow_Step T.bM_Step_eq pass0) hr
theorem stepEqK {mg : Str → Option Value} (K : PySem.W.Frag) (T : Txt K mg) (hr : Room 3 X.A) (h : X.K = K := by rfl) (hm : X.mg = mg := by rfl) : OpR X (compareOp .Eq) (rOwnEq K T.C_Step (stR K T.C_Step T.C_Rule)) := by
  subst h
  subst hm
  exact op_eqB (rcB_own (ok_Step_eq T) T.ow_Step T.bM_Step_eq pass0) hr
end
end K02
set_option Elab.async false
set_option linter.all false
set_option maxRecDepth 100000
set_option maxHeartbeats 4000000
namespace K02
open PySem PySem.Spec PyProof.Rows L2 TL Mi
section
variable {K : PySem.W.Frag} {mg : Str → Option Value}
theorem rule_madeK0 (T : Txt K mg) {H : Hp} {r : RD} {c : V} {Q : VK} {E : XK} (hc : condsAt K H c r.cs) (lt : Let r) (k : ∀ x H', Same H H' → RuA K T.C_Rule H' x r → Q x H') :
    madeK T.C_Rule 0 3 (spRule T) (fun vs zs => vs ++ pick [0, 1, 2] zs) E [] [.str r.e, .str r.p, c] H Q := ⟨rfl, rfl, fun x dx h1 h2 ne => rule_ok T hc lt h1 h2 ne k⟩
theorem step_madeK0 (T : Txt K mg) {H : Hp} {s : SD} {r : V} {Q : VK} {E : XK} {xs : List V} (hr : rulesAt T r H s.rs xs) (om : okS s.mode) (im : isMode (.str s.mode) = true) (nd : s.mode = "longest" → (s.rs.map RD.e).Nodup)
    (k : ∀ x H', Same H H' → StX K T.C_Step T.C_Rule H' x s xs → Q x H') : madeK T.C_Step 0 2 (spStep T) (fun vs zs => vs ++ pick [0, 1] zs) E [] [r, .str s.mode] H Q := ⟨rfl, rfl, fun x dx h1 h2 ne => step_okX T hr om im nd h1 h2 ne k⟩
theorem step_madeR (T : Txt K mg) {H : Hp} {rs : List RD} {r : V} {Q : VK} {E : XK} (hr : rulesOk T r H rs) (nd : (rs.map RD.e).Nodup)
    (k : ∀ x H', Same H H' → StA K T.C_Step T.C_Rule H' x ⟨rs, "longest"⟩ → Q x H') : madeR T.C_Step (spStep T) [.str "longest"] E [r] H Q := fun x dx h1 h2 ne => step_ok T (s := ⟨rs, "longest"⟩) hr (okB_ok (show okB "longest" = true by decide +kernel)) (show isMode (.str "longest") = true by decide +kernel) (fun _ => nd) h1 h2 ne k
end
theorem conds_tup {K : PySem.W.Frag} {H : Hp} {c : V} {cs : List Cond} (h : Dp K H c (encs cs)) : ∃ (ca : Addr) (xs : List V), c = .ref ca ∧ SqT K H ca xs ∧ DpAll K H xs (cs.map enc) := by
  cases h with
  | tup h a => exact ⟨_, _, rfl, h, a⟩
section
variable {K : PySem.W.Frag} {mg : Str → Option Value}
/-- [Rule(each[0], each[1], conditions=each[2]) for each in a list] -/
theorem rules_lc (T : Txt K mg) {j : Nat} {vs0 : List Nat} {σ : L2.St} {Q : VK} {a : Addr} {H : Hp} {xs : List V} (rs : List RD) (ha : SqL K H a xs) (hd : DpAll K H xs (rs.map encR)) (lt : ∀ r ∈ rs, Let r) (len : rs.length ≤ 1000)
    (hw : ∀ x, wipe ((wipe σ vs0).set j (some x)) vs0 = wipe σ vs0) (hj : j < (wipe σ vs0).length)
    (k : ∀ D H' ws, H D = none → Same H H' → H' D = some (.lst ws) → RuAll K T.C_Rule H' ws rs → Q (.ref D) H') :
    lcOn (gName j) tYes (tMakeK T.C_Rule 2 1 (spRule T) (fun vs zs => vs ++ pick [0] zs) E0 (tCons (tOp (rIx K) (tVar j) (tC (.int 0))) (tCons (tOp (rIx K) (tVar j) (tC (.int 1))) tNil)) (tCons (tOp (rIx K) (tVar j) (tC (.int 2))) tNil)) vs0 σ Q (Itl K a) H := by
  have xl : xs.length = rs.length := by rw [hd.len, List.length_map]
  refine lc_go (walk_L (xs := xs)) (fun D i H' => H D = none ∧ Gr [D] H H' ∧ ∃ vs, H' D = some (.lst vs) ∧ RuAll K T.C_Rule (Hd [D] H') vs (rs.take i)) hw (fun D hD => ?_) (fun D i H' _ iv => ?_) (fun D i x Ha Hb hi iv hy => ?_) (fun D H2 iv => ?_)
  · exact ⟨hD, Gr.new hD, [], upd_same, .nil⟩
  · exact (iv.2.1.less iv.1).same.seq ha
  · obtain ⟨hD, g1, vs, eD, ru⟩ := iv
    obtain ⟨rfl, rfl⟩ := hy
    have s1 := (g1.less hD).same
    have lr : i < rs.length := by omega
    obtain ⟨x, hx, dx⟩ := DpAll.get hd (i := i) (d := encR rs[i]) (by rw [List.getElem?_map, List.getElem?_eq_getElem lr]; rfl)
    have ex : xs.getD i .non = x := by rw [List.getD_eq_getElem?_getD, hx]; rfl
    rw [ex]
    obtain ⟨ar, c, rfl, har, hc⟩ := encR_at (S := []) (dx.up s1)
    have at_ : ∀ {v : V}, ((wipe σ vs0).set j (some v))[j]? = some (some v) := fun {v} => by rw [List.getElem?_set_self hj]
    apply k_yes
    refine iteT ?_
    apply k_makeK
    apply k_cons
    apply k_op
    refine ⟨_, at_, ?_⟩
    apply k_c
    apply k_rv
    · exact rv_ixT har rfl
    apply k_cons
    apply k_op
    refine ⟨_, at_, ?_⟩
    apply k_c
    apply k_rv
    · exact rv_ixT har rfl
    apply k_nil
    apply k_cons
    apply k_op
    refine ⟨_, at_, ?_⟩
    apply k_c
    apply k_rv
    · exact rv_ixT har rfl
    apply k_nil
    refine rule_madeK T (r := rs[i]) (conds_dp hc) (lt _ (List.getElem_mem lr)) fun xr H4 s4 ru4 => ?_
    have e4 := s4 _ _ eD
    have gm : Gr [D] H4 (upd H4 D (.lst (vs ++ [xr]))) := Gr.mut (by simp)
    have tk : rs.take (i + 1) = rs.take i ++ [rs[i]] := by rw [List.take_add_one, List.getElem?_eq_getElem lr]; rfl
    have l1 := ru.len
    rw [List.length_take] at l1
    refine k_add e4 (by omega) ⟨hD, (g1.trans (Gr.of s4)).trans gm, vs ++ [xr], upd_same, ?_⟩
    rw [tk]
    exact ((ru.up (Gr.of s4).hd).append (.cons (ru4.d1 e4) .nil)).up gm.hd
  · obtain ⟨hD, g1, vs, eD, ru⟩ := iv
    rw [List.take_of_length_le (by omega)] at ru
    exact k D H2 vs hD (g1.less hD).same eD (ru.up (hd_same _ _))
end
theorem tl_add (a b : Str) : tl (a ++ b) = tl a ++ tl b := by
  show (a.cps ++ b.cps).toList = _
  rw [Array.toList_append]
theorem len_add (a b : Str) : (a ++ b).length = a.length + b.length := by
  show (a.cps ++ b.cps).size = a.cps.size + b.cps.size
  rw [Array.size_append]
theorem menu_alph : ∀ s ∈ menu, ∀ c ∈ tl s, c ∈ tl alph := fun s hs c hc =>
  of_decide_eq_true (List.all_eq_true.mp (List.all_eq_true.mp (by decide +kernel : (menu.all fun s => (tl s).all fun c => decide (c ∈ tl alph)) = true) s hs) c hc)
/-- texts of the drawn letters -/
structure Wd (z : Str) (r : RD) (m : Nat) : Prop where
  e0 : 1 ≤ r.e.length
  e1 : r.e.length ≤ m
  ec : ∀ c ∈ tl r.e, c ∈ tl z
  p1 : r.p.length ≤ m
  pc : ∀ c ∈ tl r.p, c ∈ tl z
  cl : r.cs.length ≤ m
  cf : ∀ c ∈ r.cs, Fit c
theorem wd_of {z : Str} {r : RD} (hz : okS z) (h : smR z r) : Wd z r 2 := ⟨h.1.1, h.1.2.1, h.1.2.2, h.2.1.1, h.2.1.2, h.2.2.1, fun c hc => fit_of hz (h.2.2.2 c hc)⟩
theorem Wd.lt {z : Str} {r : RD} {m : Nat} (h : Wd z r m) (hm : m ≤ 100) (mz : z ∈ menu) : Let r := by
  have al := menu_alph z mz
  have te : isTextOf (.str r.e) alph = true := List.all_eq_true.mpr fun c hc => decide_eq_true (al c (h.ec c hc))
  have h1 := h.e0
  have h2 := h.e1
  have h3 := h.p1
  have h4 := h.cl
  refine ⟨by omega, by omega, ?_, List.all_eq_true.mpr fun c hc => decide_eq_true (al c (h.pc c hc)), by omega, h.cf⟩
  show (isTextOf (.str r.e) alph && decide (0 < r.e.length)) = true
  rw [te, Bool.true_and]
  exact decide_eq_true (by omega)
/-- the first letter -/
theorem first_of {z : Str} (h : 0 < z.length) : ∃ c, atI z.cps.toList 0 = some c ∧ ∀ d ∈ tl (⟨#[c]⟩ : Str), d ∈ tl z := by
  have hl : 0 < z.cps.toList.length := by simpa [Str.length] using h
  refine ⟨z.cps.toList[0], at_int (by decide) (List.getElem?_eq_getElem hl), fun d hd => ?_⟩
  have : d = z.cps.toList[0] := by simpa [tl] using hd
  rw [this]
  exact List.getElem_mem hl
theorem eqvAll_len : ∀ {ds es : List PyData}, PyData.eqvAll ds es = true → ds.length = es.length
  | [], [], _ => rfl
  | [], _ :: _, h => by cases h
  | _ :: _, [], h => by cases h
  | _ :: ds, _ :: es, h => by
    have h2 := (Bool.and_eq_true_iff.mp (show (_ && PyData.eqvAll ds es) = true from h)).2
    simp [eqvAll_len h2]
theorem eqvAll_snoc : ∀ {ds es : List PyData} (x y : PyData), ds.length = es.length → PyData.eqvAll (ds ++ [x]) (es ++ [y]) = (PyData.eqvAll ds es && PyData.eqv x y)
  | [], [], x, y, _ => by
    show (PyData.eqv x y && true) = (true && PyData.eqv x y)
    simp
  | [], _ :: _, _, _, h => by cases h
  | _ :: _, [], _, _, h => by cases h
  | d :: ds, e :: es, x, y, h => by
    show (PyData.eqv d e && PyData.eqvAll (ds ++ [x]) (es ++ [y])) = ((PyData.eqv d e && PyData.eqvAll ds es) && PyData.eqv x y)
    rw [eqvAll_snoc x y (by simpa using h), Bool.and_assoc]
theorem eqvAll_rev : ∀ {ds es : List PyData}, ds.length = es.length → PyData.eqvAll ds.reverse es.reverse = PyData.eqvAll ds es
  | [], [], _ => rfl
  | [], _ :: _, h => by cases h
  | _ :: _, [], h => by cases h
  | d :: ds, e :: es, h => by
    rw [List.reverse_cons, List.reverse_cons, eqvAll_snoc d e (by simpa using h), eqvAll_rev (by simpa using h), Bool.and_comm]
    rfl
theorem turned_eq (rs : List RD) (m : Str) : seqv ⟨rs.reverse, m⟩ ⟨rs, m⟩ = PyData.eqv (.list (rs.map encR)) (.list (rs.map encR).reverse) := by
  show (PyData.eqvAll (rs.reverse.map encR) (rs.map encR) && decide (m = m)) = PyData.eqvAll (rs.map encR) (rs.map encR).reverse
  rw [decide_eq_true rfl, Bool.and_true, List.map_reverse]
  have := eqvAll_rev (ds := rs.map encR) (es := (rs.map encR).reverse) (by simp)
  rw [List.reverse_reverse] at this
  exact this
theorem reqv_def (r s : RD) : reqv r s = ((r.e == s.e) && ((r.p == s.p) && (PyData.eqvAll (r.cs.map enc) (s.cs.map enc) && true))) := rfl
theorem str_beq_len {a b : Str} (h : a.length ≠ b.length) : (a == b) = false := by
  apply Bool.eq_false_iff.mpr
  intro e
  exact h (congrArg Str.length (eq_of_beq e))
theorem reqv_e {r s : RD} (h : r.e.length ≠ s.e.length) : reqv r s = false := by rw [reqv_def, str_beq_len h, Bool.false_and]
theorem reqv_p {r s : RD} (h : r.p.length ≠ s.p.length) : reqv r s = false := by rw [reqv_def, str_beq_len h, Bool.false_and, Bool.and_false]
theorem reqv_c {r s : RD} (h : r.cs.length ≠ s.cs.length) : reqv r s = false := by
  rw [reqv_def]
  cases q : PyData.eqvAll (r.cs.map enc) (s.cs.map enc) with
  | false => simp
  | true =>
    have := eqvAll_len q
    rw [List.length_map, List.length_map] at this
    exact absurd this h
theorem encR_lay {r : RD} (h : Let r) (hz : ∀ c ∈ tl r.e, c < 1114112) (hp : ∀ c ∈ tl r.p, c < 1114112) : (encR r).canLay0 = true ∧ (encR r).depth ≤ 6 := lay_encR hz hp h.ft
theorem reqv_refl {r : RD} (h : (encR r).canLay0 = true) : reqv r r = true := SeqAt.eqv_refl _ h
/-! rows of rules that are the same, turned about -/
theorem beq_symm' {α : Type} [BEq α] [LawfulBEq α] (a b : α) : (a == b) = (b == a) := by
  apply Bool.eq_iff_iff.mpr
  rw [beq_iff_eq, beq_iff_eq]
  exact eq_comm
section
variable {K : PySem.W.Frag} {H : Hp} {Q : VK} {C : Addr} {r : RD} {x : V}
theorem ru_prop {f : Str} {E : XK} {v : V} (h : RuA K C H x r) (sel : ∀ a dx fs, x = .ref a → H a = some (.ins C dx fs) → fs.lookup ("_ending" : Str) = some (.str r.e) → fs.lookup ("_put" : Str) = some (.str r.p) → fs.lookup f = some v) (k : Q v H) : propR C (getSp C f) [] E x H Q := by
  obtain ⟨a, dx, fs, t, xs, rfl, h1, h2, h3, h4, h5, h6⟩ := h
  have := sel a dx fs rfl h1 h2 h3
  exact ⟨a, dx, fs, rfl, h1, a, dx, fs, v, rfl, h1, this, k⟩
theorem ru_ending {E : XK} (h : RuA K C H x r) (k : Q (.str r.e) H) : propR C (getSp C "_ending") [] E x H Q := ru_prop h (fun _ _ _ _ _ h1 _ => h1) k
theorem ru_put {E : XK} (h : RuA K C H x r) (k : Q (.str r.p) H) : propR C (getSp C "_put") [] E x H Q := ru_prop h (fun _ _ _ _ _ _ h2 => h2) k
theorem ru_conds {E : XK} (h : RuA K C H x r) (k : ∀ t xs, SqT K H t xs → DpAll K H xs (r.cs.map enc) → Q (.ref t) H) : propR C (getSp C "_conditions") [] E x H Q := by
  obtain ⟨a, dx, fs, t, xs, rfl, h1, h2, h3, h4, h5, h6⟩ := h
  exact ⟨a, dx, fs, rfl, h1, a, dx, fs, .ref t, rfl, h1, h4, k t xs h5 h6⟩
theorem st_rules {CS CR : Addr} {s : SD} {E : XK} {t : Addr} {a dx : Addr} {fs : List (Str × V)} (hx : x = .ref a) (h1 : H a = some (.ins CS dx fs)) (h2 : fs.lookup ("_rules" : Str) = some (.ref t)) (k : Q (.ref t) H) : propR CS (getSp CS "_rules") [] E x H Q := by
  subst hx
  exact ⟨a, dx, fs, rfl, h1, a, dx, fs, .ref t, rfl, h1, h2, k⟩
theorem st_mode {CS CR : Addr} {s : SD} {E : XK} (h : StA K CS CR H x s) (k : Q (.str s.mode) H) : propR CS (getSp CS "_mode") [] E x H Q := by
  obtain ⟨a, dx, fs, t, xs, rfl, h1, h2, h3, h4, h5⟩ := h
  exact ⟨a, dx, fs, rfl, h1, a, dx, fs, .str s.mode, rfl, h1, h3, k⟩
end
section
variable {K : PySem.W.Frag} {H : Hp} {C CS CR : Addr} {x y : V} {r r' : RD} {s s' : SD}
theorem first_tup (K : PySem.W.Frag) (C : Addr) : PySem.W.notFirst K C (.type "tuple") = true := by
  have e : PySem.W.subIn K (.type "tuple") (.ref C) = some false := by
    show (fastBuiltinMro "tuple").map (·.contains (.ref C)) = some false
    rw [show fastBuiltinMro "tuple" = some ([.type "tuple", .type "object"] : List Value) from by decide +kernel]
    simp [List.contains_eq_any_beq]
  unfold PySem.W.notFirst
  rw [e]
  simp
theorem own_rule (c : C8.InsC K C) (h1 : RuA K C H x r) (h2 : RuA K C H y r') (w1 : wfR r) (w2 : wfR r') : DOwn K C (reqR K C) x y H (reqv r r') := by
  obtain ⟨a, dx, fs, e1, ha⟩ := h1.ins
  obtain ⟨a', dx', fs', e2, ha'⟩ := h2.ins
  subst e1 e2
  refine ⟨⟨a, dx, fs, rfl, ha⟩, ⟨.ref C, ins_ty c ha', ?_⟩, r, h1, w1, .inl ⟨r', h2, w2, ob_ins c ha', rfl⟩⟩
  unfold PySem.W.notFirst
  simp
theorem own_rule_tup {d : List PyData} (i : PySem.W.isClsIn K C = true) (t : PySem.W.typeIn K (.ref C) = some (.type "type")) (h1 : RuA K C H x r) (h2 : Dp K H y (.tuple d)) (w1 : wfR r) : DOwn K C (reqR K C) x y H false := by
  obtain ⟨a, dx, fs, e1, ha⟩ := h1.ins
  subst e1
  exact ⟨⟨a, dx, fs, rfl, ha⟩, ⟨.type "tuple", (show Th K H y (.tuple d) from .inl h2).ty, first_tup K C⟩, r, h1, w1, .inr ⟨ob_th i t (.inl h2), rfl⟩⟩
theorem StA.ins (h : StA K CS CR H x s) : ∃ a dx fs, x = .ref a ∧ H a = some (.ins CS dx fs) := by
  obtain ⟨a, dx, fs, t, xs, rfl, h1, _⟩ := h
  exact ⟨a, dx, fs, rfl, h1⟩
theorem StX.up {xs : List V} {H' : Hp} (h : StX K CS CR H x s xs) (e : Same H H') : StX K CS CR H' x s xs := by
  obtain ⟨a, dx, fs, t, rfl, h1, h2, h3, h4, h5⟩ := h
  exact ⟨a, dx, fs, t, rfl, e _ _ h1, h2, h3, Evl.ex_t e h4, h5.up e⟩
theorem StX.d1 {xs : List V} {D : Addr} {ys : List V} (h : StX K CS CR H x s xs) (hD : H D = some (.lst ys)) : StX K CS CR (Hd [D] H) x s xs := by
  have h := h.up hd_nil
  obtain ⟨a, dx, fs, t, rfl, h1, h2, h3, h4, h5⟩ := h
  exact ⟨a, dx, fs, t, rfl, hd_cons hD h1 (fun _ z => nomatch z), h2, h3, SqT.avoid hD h4, h5.avoid hD⟩
theorem Dp.past {D : Addr} {H' : Hp} {ys : List V} {v : V} {d : PyData} (h : Dp K H v d) (hD : H D = some (.lst ys)) (n : noLst d = true) (g : Gr [D] H H') : Dp K H' v d :=
  Dp.up (hd_same _ _) (Dp.up g.hd (Dq.avoid (S := []) (Dp.up hd_nil h) hD n))
theorem DpAll.rev {vs : List V} {ds : List PyData} (h : DpAll K H vs ds) : DpAll K H vs.reverse ds.reverse := by
  induction vs generalizing ds with
  | nil =>
    cases h
    exact .nil
  | cons v vs ih =>
    cases h with
    | cons a t =>
      rw [List.reverse_cons, List.reverse_cons]
      exact DpAll.append (ih t) (.cons a .nil)
theorem nodup_rev {l : List Str} (h : l.Nodup) : l.reverse.Nodup := List.pairwise_reverse.mpr (h.imp fun {a b} (e : a ≠ b) => e.symm)
theorem seqv_refl {s : SD} (w : ∀ r ∈ s.rs, reqv r r = true) : seqv s s = true := by
  have : ∀ rs : List RD, (∀ r ∈ rs, reqv r r = true) → reqvAll rs rs = true := by
    intro rs
    induction rs with
    | nil => intro _; rfl
    | cons r rs ih =>
      intro h
      show (reqv r r && reqvAll rs rs) = true
      rw [h r (by simp), ih fun x hx => h x (by simp [hx])]
      rfl
  unfold seqv
  rw [this _ w, decide_eq_true rfl]
  rfl
theorem own_step (c : C8.InsC K CS) (h1 : StA K CS CR H x s) (h2 : StA K CS CR H y s') (w1 : wfS s) (w2 : wfS s') : DOwn K CS (stR K CS CR) x y H (seqv s s') := by
  obtain ⟨a, dx, fs, e1, ha⟩ := StA.ins h1
  obtain ⟨a', dx', fs', e2, ha'⟩ := StA.ins h2
  subst e1 e2
  refine ⟨⟨a, dx, fs, rfl, ha⟩, ⟨.ref CS, ins_ty c ha', ?_⟩, s, h1, w1, .inl ⟨s', h2, w2, ob_ins c ha', rfl⟩⟩
  unfold PySem.W.notFirst
  simp
theorem own_step_tup {d : List PyData} (i : PySem.W.isClsIn K CS = true) (t : PySem.W.typeIn K (.ref CS) = some (.type "type")) (h1 : StA K CS CR H x s) (h2 : Dp K H y (.tuple d)) (w1 : wfS s) : DOwn K CS (stR K CS CR) x y H false := by
  obtain ⟨a, dx, fs, e1, ha⟩ := StA.ins h1
  subst e1
  exact ⟨⟨a, dx, fs, rfl, ha⟩, ⟨.type "tuple", (show Th K H y (.tuple d) from .inl h2).ty, first_tup K CS⟩, s, h1, w1, .inr ⟨ob_th i t (.inl h2), rfl⟩⟩
variable {Q : VK}
theorem k_ownNe {R : Eqb} {b : Bool} (d : DOwn K C R x y H b) (k : ∀ H', Same H H' → Q (.bl (!b)) H') : rOwnNe K C R x y H Q := ⟨!b, (by show DOwn K C R x y H (!!b); rw [Bool.not_not]; exact d), fun H' e => k H' e⟩
theorem k_ownEq {R : Eqb} {b : Bool} (d : DOwn K C R x y H b) (k : ∀ H', Same H H' → Q (.bl b) H') : rOwnEq K C R x y H Q := ⟨b, d, fun H' e => k H' e⟩
theorem RuAll.refs {vs : List V} {rs : List RD} (h : RuAll K C H vs rs) : Refs vs := by
  induction h with
  | nil => exact fun v hv => by cases hv
  | cons a _ ih =>
    intro v hv
    rcases List.mem_cons.mp hv with rfl | hv
    · obtain ⟨a, dx, fs, e, _⟩ := a.ins
      exact ⟨a, e⟩
    · exact ih v hv
theorem lst3_shaped {z : Str} {r : RD} (h : Let r) (he : okS r.e) (hp : okS r.p) : SeqAt.shaped (.list [.str r.e, .str r.p, encs r.cs]) = true := by
  have L := lay_encR he hp h.ft
  have d : (encR r).depth ≤ 64 := by omega
  unfold SeqAt.shaped
  show ((encR r).canLay0 && decide ((encR r).depth ≤ 64)) = true
  rw [L.1, decide_eq_true d]
  rfl
end
end K02
set_option Elab.async false
set_option linter.all false
set_option maxRecDepth 100000
set_option maxHeartbeats 4000000
namespace K02
open PySem PySem.Spec PyProof.Rows L2 TL Mi
/-! ### short words -/
local macro_rules | `(tactic| walk_at "idx") => `(tactic| first | assumption | exact Evl.sq_of (by assumption) | exact Evl.st_of (by assumption) | exact Evl.sq_of upd_same | exact Evl.st_of upd_same)
local macro_rules | `(tactic| walk_at "side") => `(tactic| first | omega | exact Or.inl ⟨by omega, by omega⟩ | exact Or.inr ⟨by omega, by omega⟩ | exact ⟨by omega, by omega⟩ | decide +kernel)
local macro_rules | `(tactic| walk_at "div") => `(tactic| exact wide_div (b := 30) (by omega) (by omega) (by decide) (by decide))
local macro_rules | `(tactic| walk_at "pow") => `(tactic| exact ⟨by decide +kernel, by decide +kernel, by decide +kernel⟩)
local macro_rules | `(tactic| walk_at "rv") => `(tactic| first
  | with_reducible exact rv_addI | with_reducible exact rv_sub | with_reducible exact rv_lt | with_reducible exact rv_le | with_reducible exact rv_gt | with_reducible exact rv_ge
  | with_reducible exact rv_inC | with_reducible exact rv_notInC | with_reducible exact rv_isB
  | (with_reducible apply rv_mul
     walk_at "side")
  | (with_reducible apply rv_mod
     walk_at "side")
  | (with_reducible apply rv_div
     walk_at "div")
  | (with_reducible apply rv_pow
     walk_at "pow")
  | (with_reducible apply rv_eq
     exact rfl)
  | (with_reducible apply rv_ne
     exact rfl)
  | (with_reducible apply rv_ixL
     · walk_at "idx"
     · exact rfl)
  | (with_reducible apply rv_ixT
     · walk_at "idx"
     · exact rfl)
  | (with_reducible apply rv_ixS
     · walk_at "side"
     · exact rfl)
  | (with_reducible apply rv_addS
     walk_at "side"))
local macro_rules | `(tactic| walk_at "val") => `(tactic| first
  | with_reducible exact val_c | exact val_c
  | (with_reducible apply val_var
     exact rfl)
  | (with_reducible apply val_bin
     · walk_at "val"
     · walk_at "val"
     · walk_at "rv")
  | (with_reducible apply val_int1
     walk_at "val")
  | (with_reducible apply val_max2
     · walk_at "val"
     · walk_at "val")
  | (with_reducible apply val_min2
     · walk_at "val"
     · walk_at "val")
  | (with_reducible apply val_endsw
     · walk_at "val"
     · walk_at "val")
  | (with_reducible apply val_lenS
     · walk_at "val"
     · walk_at "side")
  | (with_reducible apply val_lenL
     · walk_at "val"
     · walk_at "idx")
  | (with_reducible apply val_lenT
     · walk_at "val"
     · walk_at "idx")
  | (with_reducible apply val_notV
     walk_at "val"))
local macro_rules | `(tactic| walk_at "ans") => `(tactic| first
  | (with_reducible apply ans_T
     walk_at "val")
  | (with_reducible apply ans_B
     walk_at "val")
  | (with_reducible apply ans_not
     walk_at "ans"))
local macro_rules | `(tactic| walk_at "ifp") => `(tactic| first
  | (with_reducible refine Eq.mpr (if_pos ?_) ?_
     · decide +kernel)
  | (with_reducible refine Eq.mpr (if_neg ?_) ?_
     · decide +kernel))
local macro_rules | `(tactic| walk_at "k") => `(tactic| first
  | with_reducible apply k_seq | with_reducible apply k_asg | with_reducible apply k_ret | with_reducible apply k_ifS | with_reducible apply k_drop | with_reducible apply k_name
  | (with_reducible apply k_var
     · exact rfl)
  | with_reducible apply k_c
  | with_reducible apply k_op | with_reducible apply k_cb | with_reducible apply k_call | with_reducible apply k_cons | with_reducible apply k_nil | with_reducible apply k_tup | with_reducible apply k_lst
  | with_reducible apply k_ifE | with_reducible apply k_test | with_reducible apply k_tb | with_reducible apply k_not | with_reducible apply k_and | with_reducible apply k_or | with_reducible apply k_bl
  | with_reducible apply k_sl | with_reducible apply k_part | with_reducible apply k_isI | with_reducible apply k_nopart
  | with_reducible apply k_lcZS | with_reducible apply k_onZS | with_reducible apply k_un | with_reducible apply k_neg
  | with_reducible apply k_forEB | with_reducible apply k_forSB | with_reducible apply k_lcSB | with_reducible apply k_fld | with_reducible apply k_prop | with_reducible apply k_sfld | with_reducible apply k_make | with_reducible apply k_makeK | with_reducible apply k_mkO | with_reducible apply k_par | with_reducible apply k_parR
  | with_reducible apply k_lcS | with_reducible apply k_lcR | with_reducible apply k_lcL | with_reducible apply k_lcT | with_reducible apply k_forS | with_reducible apply k_forR | with_reducible apply k_forL | with_reducible apply k_forT | with_reducible apply k_onS | with_reducible apply k_yes
  | (with_reducible apply k_augC
     · exact rfl)
  | with_reducible apply k_next | with_reducible apply k_eqInt | with_reducible apply k_neInt | with_reducible apply k_eqStr | with_reducible apply k_neStr
  | with_reducible apply k_andV | with_reducible apply k_orV | with_reducible apply k_notV
  | with_reducible apply k_m1 | with_reducible apply k_onStr | with_reducible apply k_endsw
  | (with_reducible apply k_slS
     · walk_at "side")
  | (with_reducible apply k_newTG
     · walk_at "len")
  | (with_reducible apply k_newLG
     · walk_at "len")
  | with_reducible apply k_int1 | with_reducible apply k_max2 | with_reducible apply k_min2
  | (with_reducible apply k_lenS
     · walk_at "side")
  | (with_reducible apply k_lenL
     · walk_at "idx")
  | (with_reducible apply k_lenT
     · walk_at "idx")
  | (with_reducible apply k_rv
     · walk_at "rv")
  | walk_at "ifp")
local macro_rules | `(tactic| walk_at "kk") => `(tactic| (repeat (walk_at "k")))
local macro_rules | `(tactic| walk_at "len") => `(tactic| first | exact (by decide : (1:Nat) ≤ 100000) | exact (by decide : (2:Nat) ≤ 100000) | exact (by decide : (3:Nat) ≤ 100000) | exact (by decide : (4:Nat) ≤ 100000) | exact (by decide : (7:Nat) ≤ 100000) | (simp only [List.length_cons, List.length_nil]; omega) | omega)
local macro_rules | `(tactic| walk_at "up") => `(tactic| first
  | assumption
  | (refine Dq.up ?_ (Gr.new (by assumption))
     walk_at "up")
  | (refine Dq.up ?_ (by assumption)
     walk_at "up"))
local macro_rules | `(tactic| walk_at "lit") => `(tactic| first
  | with_reducible exact lit_str | with_reducible exact lit_int | with_reducible exact lit_bl | with_reducible exact lit_non | with_reducible exact lit_neg | with_reducible exact lit_nil | with_reducible exact lit_dic
  | (with_reducible apply lit_cons
     · walk_at "lit"
     · walk_at "lit")
  | (with_reducible apply lit_tup
     · walk_at "lit"
     · decide)
  | (with_reducible apply lit_lst
     · walk_at "lit"
     · decide))

section
variable {P : Program} {w : World} {K : PySem.W.Frag} {mg : Str → Option Value} {base : Heap}
def spRight : Sp := fun vs H Q _ => ∃ (p : Addr) (n : Nat), vs = [.ref p] ∧ Pu H p n ∧ n < 2 ^ 35 ∧ ∀ H', Gr [p] H H' → Pu H' p (n + 500000) → Q (.bl true) H'
theorem ok_law_right (T : Txt K mg) : FnG P w K mg base 13 T.a_law_right T.fd_law_right ["purse"] spRight := by
  refine T.F_law_right.okG sc_law_right (fun vs H Q E h => ?_) (fun cdv A outer s H vs Q E gd hr h => ?_)
  · obtain ⟨p, n, rfl, _⟩ := h
    rfl
  · obtain ⟨p, n, rfl, hp, hn, q⟩ := h
    refine ⟨_, (pss_cons (ps_asg (pe_call (ok_law_letters T) (hr.mono (by decide)) (by rfl) T.m_law_letters T.F_law_letters.kp T.b_law_letters .nil pass0 (pa_cons (pv 0) pa_nil)) (tupleK K (n := 2) rfl (pgs_cons (pg_name (i := 1) sc_law_right.nd rfl (Or.inl rfl)) (pgs_cons (pg_name (i := 2) sc_law_right.nd rfl (Or.inl rfl)) pgs_nil))))
      (pss_cons (ps_par (i := 3) (j := 4) (by rfl) sc_law_right.nd rfl rfl (by decide) rfl rfl (pa_cons (pe_call (ok_law_step T) (hr.mono (by decide)) (by rfl) T.m_law_step T.F_law_step.kp T.b_law_step .nil pass0 (pa_cons (pv 0) (pa_cons (pv 1) (pa_cons pe_int pa_nil)))) (pa_cons (pe_call (ok_law_rule T) (hr.mono (by decide)) (by rfl) T.m_law_rule T.F_law_rule.kp T.b_law_rule .nil pass0 (pa_cons (pv 0) (pa_cons (pv 1) pa_nil))) pa_nil)) (by rfl))
      (pss_cons (ps_set (i := 5) sc_law_right.nd rfl (Or.inl rfl) (pe_callTy (lstK K) (by rfl) T.z_list B_list (pa_cons (pe_ix (ixK K) (pv 4) pe_int (fun _ _ => rfl)) pa_nil)))
      (pss_cons (ps_set (i := 6) sc_law_right.nd rfl (Or.inl rfl) (pe_makeK T.mk_Rule (ok_Rule_init T) (hr.mono (by decide)) (by rfl) T.mc_Rule T.kb_Rule_init_2_conditions passL (pa_cons (pe_ix (ixK K) (pv 4) pe_int (fun _ _ => rfl)) (pa_cons (pe_ix (ixK K) (pv 4) pe_int (fun _ _ => rfl)) pa_nil)) (pk_cons (pv 5) pk_nil)))
      (pss_cons (ps_expr (appK K (pv 5) pe_non))
      (pss_cons (ps_if (pt_cmpR (neK K hr) (pe_lst (pa_cons (pe_prop (pv 6) T.cl_Rule T.pp_Rule_ending (ok_Rule_ending T) (hr.mono (by decide)) T.bM_Rule_ending .nil pass0 (by rfl)) (pa_cons (pe_prop (pv 6) T.cl_Rule T.pp_Rule_put (ok_Rule_put T) (hr.mono (by decide)) T.bM_Rule_put .nil pass0 (by rfl)) (pa_cons (pe_prop (pv 6) T.cl_Rule T.pp_Rule_conditions (ok_Rule_conditions T) (hr.mono (by decide)) T.bM_Rule_conditions .nil pass0 (by rfl)) pa_nil)))) (pe_callTy (lstK K) (by rfl) T.z_list B_list (pa_cons (pv 4) pa_nil)) (nomark _)) (pss_one (ps_ret pe_bl)) pss_nil)
      (pss_cons (ps_if (pt_cmpR (ruleNeK K T (hr.mono (by decide))) (pv 6) (pe_makeK0 T.mk_Rule (ok_Rule_init T) (hr.mono (by decide)) (by rfl) T.mc_Rule T.kb_Rule_init_0_ending_put_conditions passL (pk_cons (pe_ix (ixK K) (pv 4) pe_int (fun _ _ => rfl)) (pk_cons (pe_ix (ixK K) (pv 4) pe_int (fun _ _ => rfl)) (pk_cons (pe_ix (ixK K) (pv 4) pe_int (fun _ _ => rfl)) pk_nil)))) (nomark _)) (pss_one (ps_ret pe_bl)) pss_nil)
      (pss_cons (ps_set (i := 7) sc_law_right.nd rfl (Or.inl rfl) (pe_lst (pa_cons (pe_tup (pa_cons (pe_op (addK K) (pe_ix (ixK K) (pv 4) pe_int (fun _ _ => rfl)) (pe_ix (ixK K) (pv 1) pe_int (fun _ _ => rfl))) (pa_cons (pe_ix (ixK K) (pv 4) pe_int (fun _ _ => rfl)) (pa_cons (pe_ix (ixK K) (pv 4) pe_int (fun _ _ => rfl)) pa_nil)))) (pa_cons (pe_tup (pa_cons (pe_ix (ixK K) (pv 4) pe_int (fun _ _ => rfl)) (pa_cons (pe_op (addK K) (pe_ix (ixK K) (pv 4) pe_int (fun _ _ => rfl)) (pe_ix (ixK K) (pv 1) pe_int (fun _ _ => rfl))) (pa_cons (pe_ix (ixK K) (pv 4) pe_int (fun _ _ => rfl)) pa_nil)))) pa_nil))))
      (pss_cons (ps_expr (appK K (pv 7) (pe_tup (pa_cons (pe_ix (ixK K) (pv 4) pe_int (fun _ _ => rfl)) (pa_cons (pe_ix (ixK K) (pv 4) pe_int (fun _ _ => rfl)) (pa_cons (pe_op (addK K) (pe_ix (ixK K) (pv 4) pe_int (fun _ _ => rfl)) (pe_tup (pa_cons (pe_tup (pa_cons pe_str (pa_cons pe_int pa_nil))) pa_nil))) pa_nil))))))
      (pss_cons (ps_setLc (i := 8) (own := [("each", 13)]) (by rfl) sc_law_right.nd rfl rfl (sw_true rfl rfl rfl (by decide +kernel)) (listK K (pv 7)) (blkOk_by (N := ["purse", "signs", "soft", "raw", "one", "handed", "made", "others", "unlike", "step", "lots", "kept", "turned", "each"]) (sc := defScope s_law_right) (by decide +kernel)) (fun _ _ _ _ _ => (pg_name (i := 13) sc_law_right.nd rfl (Or.inl rfl))) (fun _ _ _ _ _ => pts_nil) (fun _ _ _ _ _ => (pe_makeK T.mk_Rule (ok_Rule_init T) (hr.mono (by decide)) (by rfl) T.mc_Rule T.kb_Rule_init_2_conditions passL (pa_cons (pe_ix (ixK K) (pv 13) pe_int (fun _ _ => rfl)) (pa_cons (pe_ix (ixK K) (pv 13) pe_int (fun _ _ => rfl)) pa_nil)) (pk_cons (pe_ix (ixK K) (pv 13) pe_int (fun _ _ => rfl)) pk_nil))))
      (pss_cons (ps_if (PW.pt (pw_or (pt_cmpR (ruleInK K T (hr.mono (by decide))) (pv 6) (pv 8) (by rfl)) (pw_or1 (pt_cmpR (ruleEqK K T (hr.mono (by decide))) (pv 6) (pv 4) (nomark _))))) (pss_one (ps_ret pe_bl)) pss_nil)
      (pss_cons (ps_par (i := 9) (j := 10) (by rfl) sc_law_right.nd rfl rfl (by decide) rfl rfl (pa_cons (pe_call (ok_law_made_step T) (hr.mono (by decide)) (by rfl) T.m_law_made_step T.F_law_made_step.kp T.b_law_made_step .nil pass0 (pa_cons (pv 3) pa_nil)) (pa_cons (pe_lc (own := [("each", 13)]) (by rfl) sc_law_right.nd (listK K (pe_ix (ixK K) (pv 3) pe_int (fun _ _ => rfl))) (blkOk_by (N := ["purse", "signs", "soft", "raw", "one", "handed", "made", "others", "unlike", "step", "lots", "kept", "turned", "each"]) (sc := defScope s_law_right) (by decide +kernel)) (fun _ _ _ _ _ => (pg_name (i := 13) sc_law_right.nd rfl (Or.inl rfl))) (fun _ _ _ _ _ => pts_nil) (fun _ _ _ _ _ => (pe_makeK T.mk_Rule (ok_Rule_init T) (hr.mono (by decide)) (by rfl) T.mc_Rule T.kb_Rule_init_2_conditions passL (pa_cons (pe_ix (ixK K) (pv 13) pe_int (fun _ _ => rfl)) (pa_cons (pe_ix (ixK K) (pv 13) pe_int (fun _ _ => rfl)) pa_nil)) (pk_cons (pe_ix (ixK K) (pv 13) pe_int (fun _ _ => rfl)) pk_nil)))) pa_nil)) (by rfl))
      (pss_cons (ps_set (i := 11) sc_law_right.nd rfl (Or.inl rfl) (pe_makeK0 T.mk_Step (ok_Step_init T) (hr.mono (by decide)) (by rfl) T.mc_Step T.kb_Step_init_0_rules_mode passL (pk_cons (pv 10) (pk_cons (pe_ix (ixK K) (pv 3) pe_int (fun _ _ => rfl)) pk_nil))))
      (pss_cons (ps_expr (appK K (pv 10) pe_non))
      (pss_cons (ps_if (PW.pt (pw_or (pt_cmpR (stepNeK K T (hr.mono (by decide))) (pv 11) (pv 9) (nomark _)) (pw_or (pt_cmpR (sameLK K hr) (pe_callTy (lstK K) (by rfl) T.z_list B_list (pa_cons (pe_prop (pv 11) T.cl_Step T.pp_Step_rules (ok_Step_rules T) (hr.mono (by decide)) T.bM_Step_rules .nil pass0 (by rfl)) pa_nil)) (pe_slice (slK K) (pv 10) po_none (po_some (pe_un un_negA pe_int))) (nomark _)) (pw_or (pt_cmpR (sameTK K hr) (pe_prop (pv 11) T.cl_Step T.pp_Step_rules (ok_Step_rules T) (hr.mono (by decide)) T.bM_Step_rules .nil pass0 (by rfl)) (pe_callTy (tupK K) (by rfl) T.z_tuple B_tuple (pa_cons (pe_slice (slK K) (pv 10) po_none (po_some (pe_un un_negA pe_int))) pa_nil)) (nomark _)) (pw_or1 (pt_cmpR (neK K hr) (pe_prop (pv 11) T.cl_Step T.pp_Step_mode (ok_Step_mode T) (hr.mono (by decide)) T.bM_Step_mode .nil pass0 (by rfl)) (pe_ix (ixK K) (pv 3) pe_int (fun _ _ => rfl)) (nomark _))))))) (pss_one (ps_ret pe_bl)) pss_nil)
      (pss_cons (ps_set (i := 12) sc_law_right.nd rfl (Or.inl rfl) (pe_makeK T.mk_Step (ok_Step_init T) (hr.mono (by decide)) (by rfl) T.mc_Step T.kb_Step_init_1_mode passL (pa_cons (revTK K (pe_prop (pv 11) T.cl_Step T.pp_Step_rules (ok_Step_rules T) (hr.mono (by decide)) T.bM_Step_rules .nil pass0 (by rfl))) pa_nil) (pk_cons (pe_ix (ixK K) (pv 3) pe_int (fun _ _ => rfl)) pk_nil)))
      (pss_cons (ps_if (PW.pt (pw_or (pt_cmpR (neK K hr) (pe_callTy strBK (by rfl) T.z_str B_str (pa_cons (pe_cmpR (stepEqK K T (hr.mono (by decide))) (pv 12) (pv 11) (nomark _)) pa_nil)) (pe_callTy strBK (by rfl) T.z_str B_str (pa_cons (pe_cmpR (eqK K hr) (pe_callTy (lstK K) (by rfl) T.z_list B_list (pa_cons (pe_ix (ixK K) (pv 3) pe_int (fun _ _ => rfl)) pa_nil)) (revLK K (pe_callTy (lstK K) (by rfl) T.z_list B_list (pa_cons (pe_ix (ixK K) (pv 3) pe_int (fun _ _ => rfl)) pa_nil))) (nomark _)) pa_nil)) (nomark _)) (pw_or1 (pt_cmpR (stepEqK K T (hr.mono (by decide))) (pv 11) (pv 3) (nomark _))))) (pss_one (ps_ret pe_bl)) pss_nil)
      (pss_cons (ps_if (PW.pt (pw_and (pt_cmpR (eqK K hr) (pe_ix (ixK K) (pv 3) pe_int (fun _ _ => rfl)) pe_str (nomark _)) (pw_and1 (PW.pt (pw_or (pt_cmpR (stepNeK K T (hr.mono (by decide))) (pe_make T.mk_Step (ok_Step_init T) (hr.mono (by decide)) (by rfl) T.mc_Step T.bD_Step T.vD_Step passL (pa_cons (pe_prop (pv 11) T.cl_Step T.pp_Step_rules (ok_Step_rules T) (hr.mono (by decide)) T.bM_Step_rules .nil pass0 (by rfl)) pa_nil)) (pv 11) (nomark _)) (pw_or1 (pt_cmpR (stepEqK K T (hr.mono (by decide))) (pe_makeK T.mk_Step (ok_Step_init T) (hr.mono (by decide)) (by rfl) T.mc_Step T.kb_Step_init_1_mode passL (pa_cons (pe_prop (pv 11) T.cl_Step T.pp_Step_rules (ok_Step_rules T) (hr.mono (by decide)) T.bM_Step_rules .nil pass0 (by rfl)) pa_nil) (pk_cons pe_str pk_nil)) (pv 11) (nomark _)))))))) (pss_one (ps_ret pe_bl)) pss_nil)
      (pss_one (ps_ret (pe_callG (ok_law_doors_right T) (hr.mono (by decide)) gd (by rfl) T.m_law_doors_right T.F_law_doors_right.kp T.b_law_doors_right (pa_cons (pv 0) pa_nil)))))))))))))))))))))), ?_⟩
    walk_at "kk"
    refine ⟨p, n, rfl, hp, by omega, fun H1 t z y g1 p1 ht1 e1 mz sub => ?_⟩
    walk_at "kk"
    refine k_unp2 (Evl.st_of e1) ?_
    have hzl := menu_len z mz
    have hz := menu_okS z mz
    walk_at "kk"
    refine ⟨p, z, 4, n + 10, rfl, by omega, hzl.1, by omega, p1, by omega, fun H2 raw sd g2 p2 dr sr => ?_⟩
    walk_at "kk"
    refine ⟨p, z, n + 10 + 400000, rfl, hzl.1, by omega, p2, by omega, fun H3 one r g3 p3 do_ so => ?_⟩
    walk_at "k"
    walk_at "k"
    obtain ⟨ao, c, rfl, hao, hc⟩ := encR_at (S := []) (Dp.up (hd_same _ _) do_)
    have lr := (wd_of hz so).lt (by omega) mz
    obtain ⟨ca, cx, rfl, hcx, dcx⟩ := conds_tup hc
    refine k_st [some (.ref p), some (.str z), some (.str y), some (raw), some (.ref ao), none, none, none, none, none, none, none, none, none] rfl ?_
    walk_at "kk"
    refine k_lstG (t := true) hcx (fun hd_ H4 s4 h4 e4 => ?_)
    have hao4 := Evl.ex_t s4 hao
    walk_at "kk"
    refine rule_madeK T (r := r) ⟨hd_, false, _, rfl, Evl.sq_of e4, DpAll.up s4 dcx⟩ lr (fun made H5 s5 ru5 => ?_)
    walk_at "kk"
    refine ⟨.ref hd_, rfl, .inl ⟨rfl, _, Evl.sq_of (s5 _ _ e4)⟩, ?_⟩
    walk_at "kk"
    refine rAppG (s5 _ _ e4) (by have := dcx.len; rw [List.length_map] at this; have := lr.lc; omega) (fun H6 g6 e6 => ?_)
    have s36 : Same H3 H6 := (((Gr.of (s4.trans s5)).trans g6).less h4).same
    have ru6 : RuA K T.C_Rule H6 made r := ((ru5.d1 (s5 _ _ e4)).up g6.hd).up (hd_same _ _)
    have hao6 := Evl.ex_t s36 hao
    walk_at "kk"
    refine ru_ending ru6 ?_
    walk_at "kk"
    refine ru_put ru6 ?_
    walk_at "kk"
    refine ru_conds ru6 (fun tc1 xc1 hc1 dc1 => ?_)
    walk_at "kk"
    intro l1 H7 s7 f7 e7
    walk_at "kk"
    refine k_lstG (t := true) (Evl.ex_t s7 hao6) (fun l2 H8 s8 f8 e8 => ?_)
    have s38 := s36.trans (s7.trans s8)
    have s68 := s7.trans s8
    have oe : okS r.e := fun c hc => hz c (so.1.2.2 c hc)
    have op_ : okS r.p := fun c hc => hz c (so.2.1.2 c hc)
    have sx := lst3_shaped (z := z) lr oe op_
    have dd1 : Dp K H8 (.ref l1) (.list [.str r.e, .str r.p, encs r.cs]) := .lst (Evl.sq_of (s8 _ _ e7)) (.cons (.str _) (.cons (.str _) (.cons (.tup (Evl.ex_t s68 hc1) (DpAll.up s68 dc1)) .nil)))
    have dd2 : Dp K H8 (.ref l2) (.list [.str r.e, .str r.p, encs r.cs]) := .lst (Evl.sq_of e8) (.cons (.str _) (.cons (.str _) (.cons (Dp.up s38 hc) .nil)))
    apply k_rv
    · exact rv_neD dd1 dd2 sx sx
    rw [show PyData.eqv (.list [.str r.e, .str r.p, encs r.cs]) (.list [.str r.e, .str r.p, encs r.cs]) = true from SeqAt.eqv_refl _ (SeqAt.canLay_of_shaped sx)]
    have hao8 := Evl.ex_t s38 hao
    have hc8 := Dp.up s38 hc
    walk_at "kk"
    refine rule_madeK0 T (r := r) (conds_dp hc8) lr (fun m2 H9 s9 ru9 => ?_)
    have ru69 := ru6.up (s68.trans s9)
    refine k_ownNe (own_rule T.in_Rule ru69 ru9 lr.wf lr.wf) (fun H10 s10 => ?_)
    rw [reqv_refl (lay_encR oe op_ lr.ft).1]
    obtain ⟨c0, hat, hc0⟩ := first_of hzl.1
    have l1c : (⟨#[c0]⟩ : Str).length = 1 := rfl
    have re2 := so.1.2.1
    have rp2 := so.2.1.1
    have s3_10 := s38.trans (s9.trans s10)
    have hao10 := Evl.ex_t s3_10 hao
    walk_at "kk"
    apply k_rv
    · exact rv_ixS (by omega) hat
    walk_at "kk"
    intro o1 H11 s11 f11 e11
    have hao11 := Evl.ex_t s11 hao10
    walk_at "kk"
    apply k_rv
    · exact rv_ixS (by omega) hat
    walk_at "kk"
    intro o2 H12 s12 f12 e12
    walk_at "kk"
    intro ol H13 s13 f13 e13
    walk_at "k"
    refine k_st [some (.ref p), some (.str z), some (.str y), some (raw), some (.ref ao), some (.ref hd_), some (made), some (.ref ol), none, none, none, none, none, none] rfl ?_
    walk_at "kk"
    refine ⟨.ref ol, rfl, .inl ⟨rfl, _, Evl.sq_of e13⟩, ?_⟩
    have hao13 := Evl.ex_t (s12.trans s13) hao11
    walk_at "kk"
    intro i1 H14 s14 f14 e14
    walk_at "kk"
    intro i2 H15 s15 f15 e15
    have s3_13 := s3_10.trans (s11.trans (s12.trans s13))
    have s3_15 := s3_13.trans (s14.trans s15)
    refine k_catT (Evl.ex_t s3_15 hcx) (Evl.st_of e15) (by have := dcx.len; rw [List.length_map] at this; have := so.2.2.1; show cx.length + 1 ≤ 100000; omega) (fun c2 H16 s16 hc2 => ?_)
    walk_at "kk"
    intro o3 H17 s17 f17 e17
    walk_at "kk"
    have s13_17 := s14.trans (s15.trans (s16.trans s17))
    refine rAppG (s13_17 _ _ e13) (by show 2 ≤ 100000; decide) (fun H18 g18 e18 => ?_)
    walk_at "kk"
    have s12_18 := ((Gr.of (S := [ol]) (s13.trans s13_17)).trans g18).less f13 |>.same
    have w2 := wd_of hz so
    have he0 := w2.e0
    have hp2 := w2.p1
    have hcl := w2.cl
    have ex1 : encR ⟨r.e ++ ⟨#[c0]⟩, r.p, r.cs⟩ = .tuple [.str (r.e ++ ⟨#[c0]⟩), .str r.p, encs r.cs] := rfl
    have d1 : Dp K H18 (.ref o1) (encR ⟨r.e ++ ⟨#[c0]⟩, r.p, r.cs⟩) := .tup (Evl.st_of (s12_18 _ _ (s12 _ _ e11))) (.cons (.str _) (.cons (.str _) (.cons (Dp.up (s3_10.trans (s11.trans (s12.trans s12_18))) hc) .nil)))
    have d2 : Dp K H18 (.ref o2) (encR ⟨r.e, r.p ++ ⟨#[c0]⟩, r.cs⟩) := .tup (Evl.st_of (s12_18 _ _ e12)) (.cons (.str _) (.cons (.str _) (.cons (Dp.up (s3_10.trans (s11.trans (s12.trans s12_18))) hc) .nil)))
    have dc3 : DpAll K H16 (cx ++ [.ref i1]) ((r.cs ++ [Cond.pos (.least 5)]).map enc) := by
      rw [List.map_append]
      exact DpAll.append (DpAll.up (s3_15.trans s16) dcx) (.cons (.tup (Evl.st_of ((s15.trans s16) _ _ e14)) (.cons (.str _) (.cons (.int _) .nil))) .nil)
    have d3 : Dp K H18 (.ref o3) (encR ⟨r.e, r.p, r.cs ++ [Cond.pos (.least 5)]⟩) :=
      Dp.past (.tup (Evl.st_of e17) (.cons (.str _) (.cons (.str _) (.cons (.tup (Evl.ex_t s17 hc2) (DpAll.up s17 dc3)) .nil)))) (s13_17 _ _ e13) (noLst_encR _) g18
    have wd1 : Wd z ⟨r.e ++ ⟨#[c0]⟩, r.p, r.cs⟩ 3 := ⟨by show 1 ≤ (r.e ++ ⟨#[c0]⟩ : Str).length; rw [len_add]; omega, by show (r.e ++ ⟨#[c0]⟩ : Str).length ≤ 3; rw [len_add]; omega, fun c hc => by
      rw [tl_add] at hc
      exact (List.mem_append.mp hc).elim (w2.ec c) (hc0 c), by show r.p.length ≤ 3; omega, w2.pc, by show r.cs.length ≤ 3; omega, w2.cf⟩
    have wd2 : Wd z ⟨r.e, r.p ++ ⟨#[c0]⟩, r.cs⟩ 3 := ⟨w2.e0, by show r.e.length ≤ 3; omega, w2.ec, by show (r.p ++ ⟨#[c0]⟩ : Str).length ≤ 3; rw [len_add]; omega, fun c hc => by
      rw [tl_add] at hc
      exact (List.mem_append.mp hc).elim (w2.pc c) (hc0 c), by show r.cs.length ≤ 3; omega, w2.cf⟩
    have wd3 : Wd z ⟨r.e, r.p, r.cs ++ [Cond.pos (.least 5)]⟩ 3 := ⟨w2.e0, by show r.e.length ≤ 3; omega, w2.ec, by show r.p.length ≤ 3; omega, w2.pc, by show (r.cs ++ [Cond.pos (.least 5)]).length ≤ 3; rw [List.length_append]; show r.cs.length + 1 ≤ 3; omega, fun c hc => by
      rcases List.mem_append.mp hc with h | h
      · exact w2.cf c h
      · rw [List.mem_singleton.mp h]
        exact fit_pos (show (0 : Int) ≤ 5 by decide) trivial trivial fun _ e => nomatch e⟩
    have l123 : ∀ q ∈ [(⟨r.e ++ ⟨#[c0]⟩, r.p, r.cs⟩ : RD), ⟨r.e, r.p ++ ⟨#[c0]⟩, r.cs⟩, ⟨r.e, r.p, r.cs ++ [Cond.pos (.least 5)]⟩], Let q ∧ reqv q r = false := by
      intro q hq
      simp only [List.mem_cons, List.not_mem_nil, or_false] at hq
      rcases hq with rfl | rfl | rfl
      · exact ⟨wd1.lt (by omega) mz, reqv_e (by show (r.e ++ ⟨#[c0]⟩ : Str).length ≠ r.e.length; rw [len_add]; omega)⟩
      · exact ⟨wd2.lt (by omega) mz, reqv_p (by show (r.p ++ ⟨#[c0]⟩ : Str).length ≠ r.p.length; rw [len_add]; omega)⟩
      · exact ⟨wd3.lt (by omega) mz, reqv_c (by show (r.cs ++ [Cond.pos (.least 5)]).length ≠ r.cs.length; rw [List.length_append]; show r.cs.length + 1 ≠ r.cs.length; omega)⟩
    have e18' : H18 ol = some (.lst [.ref o1, .ref o2, .ref o3]) := e18
    have dAll : DpAll K H18 [.ref o1, .ref o2, .ref o3] ([(⟨r.e ++ ⟨#[c0]⟩, r.p, r.cs⟩ : RD), ⟨r.e, r.p ++ ⟨#[c0]⟩, r.cs⟩, ⟨r.e, r.p, r.cs ++ [Cond.pos (.least 5)]⟩].map encR) := .cons d1 (.cons d2 (.cons d3 .nil))
    refine k_onL (Evl.sq_of e18') (rules_lc T _ (Evl.sq_of e18') dAll (fun q hq => (l123 q hq).1) (by show 3 ≤ 1000; decide) (by intro _; rfl) (by exact (by decide : 13 < 14)) (fun ul H19 us n19 s19 e19 ru19 => ?_))
    walk_at "k"
    refine k_st [some (.ref p), some (.str z), some (.str y), some (raw), some (.ref ao), some (.ref hd_), some (made), some (.ref ol), some (.ref ul), none, none, none, none, none] rfl ?_
    have s3_12 := s3_10.trans (s11.trans s12)
    have s10_19 := s11.trans (s12.trans (s12_18.trans s19))
    have s3_19 := s3_12.trans (s12_18.trans s19)
    have ru6_19 := ru6.up (s68.trans (s9.trans (s10.trans s10_19)))
    clear e11 e12 e13 e14 e15 e17 e18 e18' d1 d2 d3 dc3 dAll wd1 wd2 wd3 hao4 hao6 hao8 hao10 hao11 hao13 ex1
    walk_at "kk"
    refine ⟨ul, us, fun _ => false, rfl, e19, fun i v ei => ?_, fun H20 s20 => ?_⟩
    · obtain ⟨r', er, hr'⟩ := ru19.get ei
      have lr' := l123 r' (List.mem_of_getElem? er)
      exact ⟨r', r, hr', ru6_19, lr'.1.wf, lr.wf, lr'.2.symm⟩
    rw [show (List.range us.length).any (fun _ => false) = false from by simp]
    have s20 : Same H19 H20 := s20
    walk_at "kk"
    have do20 : Dp K H20 (.ref ao) (encR r) := Dp.up (s3_19.trans s20) (Dp.up (hd_same _ _) do_)
    refine k_ownEq (own_rule_tup T.ki_Rule T.kt_Rule (ru6_19.up s20) do20 lr.wf) (fun H21 s21 => ?_)
    walk_at "kk"
    have s3_21 := s3_19.trans (s20.trans s21)
    have dr21 : Dp K H21 raw (encS sd) := Dp.up s3_21 (Dp.up (hd_same _ _) (Dp.up g3.hd dr))
    have om : okS sd.mode := by rcases sr.2.2.1 with e | e <;> (rw [e]; exact okB_ok (by decide +kernel))
    have im : isMode (.str sd.mode) = true := by rcases sr.2.2.1 with e | e <;> (rw [e]; decide +kernel)
    have lts : LetS sd := ⟨by have := sr.1; omega, fun q hq => (wd_of hz (sr.2.1 q hq)).lt (by omega) mz, om, im, sr.2.2.2⟩
    obtain ⟨ra, rl, rx, rfl, hra, hrl, hrd⟩ := encS_at dr21
    refine ⟨.ref ra, sd, rfl, dr21, lts, fun step H22 s22 st22 => ?_⟩
    have hra22 := Evl.ex_t s22 hra
    walk_at "kk"
    refine k_onL (s22.seq hrl) (rules_lc T sd.rs (s22.seq hrl) (DpAll.up s22 hrd) lts.lt lts.len (by intro _; rfl) (by exact (by decide : 13 < 14)) (fun lo H23 ls n23 s23 e23 ru23 => ?_))
    walk_at "k"
    walk_at "k"
    refine k_st [some (.ref p), some (.str z), some (.str y), some (.ref ra), some (.ref ao), some (.ref hd_), some (made), some (.ref ol), some (.ref ul), some (step), some (.ref lo), none, none, none] rfl ?_
    have hra23 := Evl.ex_t s23 hra22
    walk_at "kk"
    refine step_madeK0 T (s := sd) ⟨lo, false, rfl, Evl.sq_of e23, ru23, lts.len⟩ lts.om lts.im lts.nd (fun kept H24 s24 st24 => ?_)
    walk_at "k"
    refine k_st [some (.ref p), some (.str z), some (.str y), some (.ref ra), some (.ref ao), some (.ref hd_), some (made), some (.ref ol), some (.ref ul), some (step), some (.ref lo), some (kept), none, none] rfl ?_
    walk_at "kk"
    refine ⟨.ref lo, rfl, .inl ⟨rfl, _, Evl.sq_of (s24 _ _ e23)⟩, ?_⟩
    walk_at "kk"
    refine rAppG (s24 _ _ e23) (by have := ru23.len; have := lts.len; omega) (fun H25 g25 e25 => ?_)
    have st25 : StX K T.C_Step T.C_Rule H25 kept sd ls := ((st24.d1 (s24 _ _ e23)).up g25.hd).up (hd_same _ _)
    have s22_25 : Same H22 H25 := (((Gr.of (s23.trans s24)).trans g25).less n23).same
    have ws : wfS sd := fun q hq => (lts.lt q hq).wf
    walk_at "kk"
    refine k_ownNe (own_step T.in_Step st25.st (st22.up s22_25) ws ws) (fun H26 s26 => ?_)
    have rr : ∀ q ∈ sd.rs, reqv q q = true := fun q hq => reqv_refl (lay_encR (fun c hc => hz c ((sr.2.1 q hq).1.2.2 c hc)) (fun c hc => hz c ((sr.2.1 q hq).2.1.2 c hc)) (lts.lt q hq).ft).1
    rw [seqv_refl rr]
    have st26 := st25.up s26
    have st26' := st26.st
    obtain ⟨ka, kdx, kfs, kt, rfl, hk1, hk2, hk3, hk4, hk5⟩ := st26
    walk_at "kk"
    refine st_rules (CR := T.C_Rule) (s := sd) rfl hk1 hk2 ?_
    walk_at "kk"
    refine k_lstG (t := true) hk4 (fun l27 H27 s27 h27 e27 => ?_)
    walk_at "kk"
    refine k_slInitG (Evl.sq_of ((s26.trans s27) _ _ e25)) (fun l28 H28 s28 h28 e28 => ?_)
    have dl : (ls ++ [V.non]).dropLast = ls := by simp
    rw [dl] at e28
    refine ⟨l27, l28, ls, rfl, rfl, Evl.sq_of (s28 _ _ e27), Evl.sq_of e28, RuAll.refs hk5, ?_⟩
    have s26_28 := s27.trans s28
    walk_at "kk"
    refine st_rules (CR := T.C_Rule) (s := sd) rfl (s26_28 _ _ hk1) hk2 ?_
    walk_at "kk"
    refine k_slInitG (Evl.sq_of ((s26.trans s26_28) _ _ e25)) (fun l29 H29 s29 h29 e29 => ?_)
    rw [dl] at e29
    walk_at "kk"
    refine k_tupLG (Evl.sq_of e29) (fun l30 H30 s30 h30 e30 => ?_)
    have s26_30 := s26_28.trans (s29.trans s30)
    refine ⟨kt, l30, ls, rfl, rfl, Evl.ex_t s26_30 hk4, Evl.st_of e30, RuAll.refs hk5, ?_⟩
    have hra30 := Evl.ex_t (s22_25.trans (s26.trans s26_30)) hra22
    walk_at "kk"
    refine st_mode (st26'.up s26_30) ?_
    iterate 4 (walk_at "k")
    refine k_neSame rfl ?_
    walk_at "kk"
    apply k_revT
    walk_at "kk"
    refine st_rules (CR := T.C_Rule) (s := sd) rfl (s26_30 _ _ hk1) hk2 ?_
    refine ⟨kt, ls, rfl, Evl.ex_t s26_30 hk4, fun tr H31 s31 h31 e31 => ?_⟩
    have s26_31 := s26_30.trans s31
    have hra31 := Evl.ex_t s31 hra30
    walk_at "kk"
    refine step_madeK T (s := ⟨sd.rs.reverse, sd.mode⟩) ⟨tr, true, ls.reverse, rfl, Evl.st_of e31, (hk5.up s26_31).reverse, (by rw [List.length_reverse]; exact lts.len)⟩ lts.om lts.im (fun e => by
      rw [List.map_reverse]
      exact nodup_rev (lts.nd e)) (fun turned H32 s32 st32 => ?_)
    walk_at "k"
    refine k_st [some (.ref p), some (.str z), some (.str y), some (.ref ra), some (.ref ao), some (.ref hd_), some (made), some (.ref ol), some (.ref ul), some (step), some (.ref lo), some (.ref ka), some (turned), none] rfl ?_
    have s26_32 := s26_31.trans s32
    have hra32 := Evl.ex_t s32 hra31
    have wsr : wfS ⟨sd.rs.reverse, sd.mode⟩ := fun q hq => ws q (List.mem_reverse.mp hq)
    walk_at "kk"
    refine k_ownEq (own_step T.in_Step st32 (st26'.up s26_32) wsr ws) (fun H33 s33 => ?_)
    have hra33 := Evl.ex_t s33 hra32
    have s26_33 := s26_32.trans s33
    have s21_33 : Same H21 H33 := s22.trans (s22_25.trans (s26.trans s26_33))
    walk_at "kk"
    refine k_strB ?_
    walk_at "kk"
    refine k_lstG (t := false) (s21_33.seq hrl) (fun l34 H34 s34 h34 e34 => ?_)
    have hra34 := Evl.ex_t s34 hra33
    walk_at "kk"
    apply k_revL
    walk_at "kk"
    refine k_lstG (t := false) ((s21_33.trans s34).seq hrl) (fun l35 H35 s35 h35 e35 => ?_)
    refine ⟨l35, rx, rfl, Evl.sq_of e35, fun l36 H36 s36_ h36 e36 => ?_⟩
    have s21_36 := s21_33.trans (s34.trans (s35.trans s36_))
    have hrd36 := DpAll.up s21_36 hrd
    have okR : ∀ q ∈ sd.rs, okS q.e ∧ okS q.p ∧ ∀ c ∈ q.cs, Fit c := fun q hq => ⟨fun c hc => hz c ((sr.2.1 q hq).1.2.2 c hc), fun c hc => hz c ((sr.2.1 q hq).2.1.2 c hc), (lts.lt q hq).ft⟩
    have sh1 := shaped_rulesL okR
    have sh2 : SeqAt.shaped (.list (sd.rs.map encR).reverse) = true := by
      rw [← List.map_reverse]
      exact shaped_rulesL fun q hq => okR q (List.mem_reverse.mp hq)
    refine k_eqD (Dp.lst (Evl.sq_of ((s35.trans s36_) _ _ e34)) hrd36) (Dp.lst (Evl.sq_of e36) (DpAll.rev hrd36)) sh1 sh2 ?_
    walk_at "kk"
    refine k_strB ?_
    refine k_neSame (by rw [turned_eq]) ?_
    walk_at "kk"
    have s26_36 := s26_33.trans (s34.trans (s35.trans s36_))
    have draw : Dp K H36 (.ref ra) (encS sd) := Dp.up s21_36 dr21
    refine k_ownEq (own_step_tup T.ki_Step T.kt_Step (st26'.up s26_36) draw ws) (fun H37 s37 => ?_)
    have hra37 := Evl.ex_t (s35.trans (s36_.trans s37)) hra34
    have s26_37 := s26_36.trans s37
    have s3_37 : Same H3 H37 := s3_21.trans (s21_36.trans s37)
    walk_at "kk"
    refine k_ite (fun hb => ?_) (fun hb => ?_)
    · have lg : sd.mode = "longest" := of_decide_eq_true hb
      walk_at "kk"
      refine st_rules (CR := T.C_Rule) (s := sd) rfl (s26_37 _ _ hk1) hk2 ?_
      walk_at "kk"
      refine step_madeR T (rs := sd.rs) ⟨kt, true, ls, rfl, Evl.ex_t s26_37 hk4, hk5.up s26_37, lts.len⟩ (lts.nd lg) (fun sa H38 s38_ st38 => ?_)
      walk_at "kk"
      refine k_ownNe (own_step T.in_Step st38 (st26'.up (s26_37.trans s38_)) ws ws) (fun H39 s39 => ?_)
      have e1_ : seqv ⟨sd.rs, "longest"⟩ sd = true := by
        have := seqv_refl rr
        rw [← lg]
        exact this
      rw [e1_]
      walk_at "kk"
      have s26_39 := s26_37.trans (s38_.trans s39)
      refine st_rules (CR := T.C_Rule) (s := sd) rfl (s26_39 _ _ hk1) hk2 ?_
      walk_at "kk"
      refine step_madeK T (s := ⟨sd.rs, "first"⟩) ⟨kt, true, ls, rfl, Evl.ex_t s26_39 hk4, hk5.up s26_39, lts.len⟩ (okB_ok (show okB "first" = true by decide +kernel)) (show isMode (.str "first") = true by decide +kernel) (fun e => absurd e (show ¬ (("first" : Str) = "longest") by decide +kernel)) (fun sb H40 s40 st40 => ?_)
      walk_at "kk"
      refine k_ownEq (own_step T.in_Step st40 (st26'.up (s26_39.trans s40)) ws ws) (fun H41 s41 => ?_)
      have e2_ : seqv ⟨sd.rs, "first"⟩ sd = false := by
        unfold seqv
        rw [lg, decide_eq_false (show ¬ (("first" : Str) = "longest") by decide +kernel), Bool.and_false]
      rw [e2_]
      have sEnd := s3_37.trans (s38_.trans (s39.trans (s40.trans s41)))
      have pE := p3.same sEnd
      walk_at "kk"
      refine ⟨p, n + 10 + 400000 + 30000, rfl, pE, by omega, fun Hx gx px => ?_⟩
      walk_at "kk"
      exact q _ (((g1.trans g2).trans g3).trans ((Gr.of sEnd).trans gx)) (px.up rfl (by omega))
    · walk_at "kk"
      have sEnd := s3_37
      have pE := p3.same sEnd
      walk_at "kk"
      refine ⟨p, n + 10 + 400000 + 30000, rfl, pE, by omega, fun Hx gx px => ?_⟩
      walk_at "kk"
      exact q _ (((g1.trans g2).trans g3).trans ((Gr.of sEnd).trans gx)) (px.up rfl (by omega))
end
end K02
set_option Elab.async false
set_option linter.all false
set_option maxRecDepth 100000
set_option maxHeartbeats 4000000
namespace K02
open PySem PySem.Spec PyProof.Rows L2 TL Mi
/-! ### short words -/
local macro_rules | `(tactic| walk_at "idx") => `(tactic| first | assumption | exact Evl.sq_of (by assumption) | exact Evl.st_of (by assumption) | exact Evl.sq_of upd_same | exact Evl.st_of upd_same)
local macro_rules | `(tactic| walk_at "side") => `(tactic| first | omega | exact Or.inl ⟨by omega, by omega⟩ | exact Or.inr ⟨by omega, by omega⟩ | exact ⟨by omega, by omega⟩ | decide +kernel)
local macro_rules | `(tactic| walk_at "div") => `(tactic| exact wide_div (b := 30) (by omega) (by omega) (by decide) (by decide))
local macro_rules | `(tactic| walk_at "pow") => `(tactic| exact ⟨by decide +kernel, by decide +kernel, by decide +kernel⟩)
local macro_rules | `(tactic| walk_at "rv") => `(tactic| first
  | with_reducible exact rv_addI | with_reducible exact rv_sub | with_reducible exact rv_lt | with_reducible exact rv_le | with_reducible exact rv_gt | with_reducible exact rv_ge
  | with_reducible exact rv_inC | with_reducible exact rv_notInC | with_reducible exact rv_isB
  | (with_reducible apply rv_mul
     walk_at "side")
  | (with_reducible apply rv_mod
     walk_at "side")
  | (with_reducible apply rv_div
     walk_at "div")
  | (with_reducible apply rv_pow
     walk_at "pow")
  | (with_reducible apply rv_eq
     exact rfl)
  | (with_reducible apply rv_ne
     exact rfl)
  | (with_reducible apply rv_ixL
     · walk_at "idx"
     · exact rfl)
  | (with_reducible apply rv_ixT
     · walk_at "idx"
     · exact rfl)
  | (with_reducible apply rv_ixS
     · walk_at "side"
     · exact rfl)
  | (with_reducible apply rv_addS
     walk_at "side"))
local macro_rules | `(tactic| walk_at "val") => `(tactic| first
  | with_reducible exact val_c | exact val_c
  | (with_reducible apply val_var
     exact rfl)
  | (with_reducible apply val_bin
     · walk_at "val"
     · walk_at "val"
     · walk_at "rv")
  | (with_reducible apply val_int1
     walk_at "val")
  | (with_reducible apply val_max2
     · walk_at "val"
     · walk_at "val")
  | (with_reducible apply val_min2
     · walk_at "val"
     · walk_at "val")
  | (with_reducible apply val_endsw
     · walk_at "val"
     · walk_at "val")
  | (with_reducible apply val_lenS
     · walk_at "val"
     · walk_at "side")
  | (with_reducible apply val_lenL
     · walk_at "val"
     · walk_at "idx")
  | (with_reducible apply val_lenT
     · walk_at "val"
     · walk_at "idx")
  | (with_reducible apply val_notV
     walk_at "val"))
local macro_rules | `(tactic| walk_at "ans") => `(tactic| first
  | (with_reducible apply ans_T
     walk_at "val")
  | (with_reducible apply ans_B
     walk_at "val")
  | (with_reducible apply ans_not
     walk_at "ans"))
local macro_rules | `(tactic| walk_at "ifp") => `(tactic| first
  | (with_reducible refine Eq.mpr (if_pos ?_) ?_
     · decide +kernel)
  | (with_reducible refine Eq.mpr (if_neg ?_) ?_
     · decide +kernel))
local macro_rules | `(tactic| walk_at "k") => `(tactic| first
  | with_reducible apply k_seq | with_reducible apply k_asg | with_reducible apply k_ret | with_reducible apply k_ifS | with_reducible apply k_drop | with_reducible apply k_name
  | (with_reducible apply k_var
     · exact rfl)
  | with_reducible apply k_c
  | with_reducible apply k_op | with_reducible apply k_cb | with_reducible apply k_call | with_reducible apply k_cons | with_reducible apply k_nil | with_reducible apply k_tup | with_reducible apply k_lst
  | with_reducible apply k_ifE | with_reducible apply k_test | with_reducible apply k_tb | with_reducible apply k_not | with_reducible apply k_and | with_reducible apply k_or | with_reducible apply k_bl
  | with_reducible apply k_sl | with_reducible apply k_part | with_reducible apply k_isI | with_reducible apply k_nopart
  | with_reducible apply k_lcZS | with_reducible apply k_onZS | with_reducible apply k_un | with_reducible apply k_neg
  | with_reducible apply k_forEB | with_reducible apply k_forSB | with_reducible apply k_lcSB | with_reducible apply k_fld | with_reducible apply k_prop | with_reducible apply k_sfld | with_reducible apply k_make | with_reducible apply k_makeK | with_reducible apply k_mkO | with_reducible apply k_par | with_reducible apply k_parR
  | with_reducible apply k_lcS | with_reducible apply k_lcR | with_reducible apply k_lcL | with_reducible apply k_lcT | with_reducible apply k_forS | with_reducible apply k_forR | with_reducible apply k_forL | with_reducible apply k_forT | with_reducible apply k_onS | with_reducible apply k_yes
  | (with_reducible apply k_augC
     · exact rfl)
  | with_reducible apply k_next | with_reducible apply k_eqInt | with_reducible apply k_neInt | with_reducible apply k_eqStr | with_reducible apply k_neStr
  | with_reducible apply k_andV | with_reducible apply k_orV | with_reducible apply k_notV
  | with_reducible apply k_m1 | with_reducible apply k_onStr | with_reducible apply k_endsw
  | (with_reducible apply k_slS
     · walk_at "side")
  | (with_reducible apply k_newTG
     · walk_at "len")
  | (with_reducible apply k_newLG
     · walk_at "len")
  | with_reducible apply k_int1 | with_reducible apply k_max2 | with_reducible apply k_min2
  | (with_reducible apply k_lenS
     · walk_at "side")
  | (with_reducible apply k_lenL
     · walk_at "idx")
  | (with_reducible apply k_lenT
     · walk_at "idx")
  | (with_reducible apply k_rv
     · walk_at "rv")
  | walk_at "ifp")
local macro_rules | `(tactic| walk_at "kk") => `(tactic| (repeat (walk_at "k")))
local macro_rules | `(tactic| walk_at "len") => `(tactic| first | exact (by decide : (1:Nat) ≤ 100000) | exact (by decide : (2:Nat) ≤ 100000) | exact (by decide : (3:Nat) ≤ 100000) | exact (by decide : (4:Nat) ≤ 100000) | exact (by decide : (7:Nat) ≤ 100000) | (simp only [List.length_cons, List.length_nil]; omega) | omega)
local macro_rules | `(tactic| walk_at "up") => `(tactic| first
  | assumption
  | (refine Dq.up ?_ (Gr.new (by assumption))
     walk_at "up")
  | (refine Dq.up ?_ (by assumption)
     walk_at "up"))
local macro_rules | `(tactic| walk_at "lit") => `(tactic| first
  | with_reducible exact lit_str | with_reducible exact lit_int | with_reducible exact lit_bl | with_reducible exact lit_non | with_reducible exact lit_neg | with_reducible exact lit_nil | with_reducible exact lit_dic
  | (with_reducible apply lit_cons
     · walk_at "lit"
     · walk_at "lit")
  | (with_reducible apply lit_tup
     · walk_at "lit"
     · decide)
  | (with_reducible apply lit_lst
     · walk_at "lit"
     · decide))

section
variable {P : Program} {w : World} {K : PySem.W.Frag} {mg : Str → Option Value} {base : Heap}
def c0B : C0 → Bool
  | .runs m => decide (0 ≤ m)
  | .least m => decide (0 ≤ m)
  | .ends ts => decide (ts.length ≤ 50000) && ts.all fun t => decide (t.length ≤ 50000) && (tl t).all fun c => decide (c < 1114112)
  | .shape s => decide (s.length ≤ 50000) && (tl s).all fun c => decide (c = 118) || decide (c = 111)
  | _ => true
theorem c0B_ok {c : C0} (h : c0B c = true) : ok0 c ∧ sz0 c ∧ ow0 c ∧ ∀ s, c = .shape s → okS s := by
  cases c with
  | vowel | double => exact ⟨trivial, trivial, trivial, fun _ e => nomatch e⟩
  | runs m | least m => exact ⟨(of_decide_eq_true (show decide (0 ≤ m) = true from h) : (0 : Int) ≤ m), trivial, trivial, fun _ e => nomatch e⟩
  | ends ts =>
    have h1 := Bool.and_eq_true_iff.mp h
    have h2 := List.all_eq_true.mp h1.2
    refine ⟨trivial, ⟨of_decide_eq_true h1.1, fun t ht => ?_⟩, fun t ht c hc => ?_, fun _ e => nomatch e⟩
    · exact of_decide_eq_true (Bool.and_eq_true_iff.mp (h2 t ht)).1
    · exact of_decide_eq_true (List.all_eq_true.mp (Bool.and_eq_true_iff.mp (h2 t ht)).2 c hc)
  | shape s =>
    have h1 := Bool.and_eq_true_iff.mp h
    have h2 : ∀ c ∈ tl s, c = 118 ∨ c = 111 := fun c hc => (Bool.or_eq_true_iff.mp (List.all_eq_true.mp h1.2 c hc)).imp of_decide_eq_true of_decide_eq_true
    refine ⟨h2, (of_decide_eq_true h1.1 : s.length ≤ 50000), trivial, fun s' e c hc => ?_⟩
    cases e
    rcases h2 c hc with rfl | rfl <;> decide
def fitB : Cond → Bool
  | .pos c => c0B c
  | .neg c => c0B c
theorem cfit {c : Cond} (h : fitB c = true) : Fit c := by
  cases c with
  | pos c =>
    obtain ⟨o, s, ow, sh⟩ := c0B_ok h
    exact fit_pos o s ow sh
  | neg c =>
    obtain ⟨o, s, ow, sh⟩ := c0B_ok h
    exact fit_neg o s ow sh

def spLaw (K : PySem.W.Frag) : Sp := fun vs H Q _ => ∃ (a : Addr) (ns : List Int), vs = [.ref a] ∧ SqL K H a (ns.map V.int) ∧ ns.length ≤ 63 ∧ ∀ H', Q (.bl true) H'
theorem ok_law (T : Txt K mg) : FnG P w K mg base 14 T.a_law T.fd_law ["script"] (spLaw K) := by
  refine T.F_law.okG sc_law (fun vs H Q E h => ?_) (fun cdv A outer s H vs Q E gd hr h => ?_)
  · obtain ⟨p, n, rfl, _⟩ := h
    rfl
  · obtain ⟨a, ns, rfl, ha, hl, q⟩ := h
    refine ⟨_, (pss_cons (ps_for PassesOwn.never rfl (pi_range1 (by rfl) T.z_range (pa_cons (pe_op (addK K) pe_int (pe_callB (call_minA rfl) (by rfl) T.z_min B_min (pa_cons pe_int (pa_cons (pe_callB (lenK K) (by rfl) T.z_len B_len (pa_cons (pv 0) pa_nil)) pa_nil)))) pa_nil)) (pg_name (i := 1) sc_law.nd rfl (Or.inl rfl)) (pss_cons (ps_set (i := 2) sc_law.nd rfl (Or.inl rfl) (pe_call (ok_law_purse T) (hr.mono (by decide)) (by rfl) T.m_law_purse T.F_law_purse.kp T.b_law_purse .nil pass0 (pa_cons (pv 0) (pa_cons (pv 1) pa_nil))))
      (pss_one (ps_for PassesOwn.never rfl (pi_range1 (by rfl) T.z_range (pa_cons pe_int pa_nil)) (pg_name (i := 3) sc_law.nd rfl (Or.inl rfl)) (pss_one (ps_if (pt_not (pt_val (pe_callG (ok_law_right T) (hr.mono (by decide)) gd (by rfl) T.m_law_right T.F_law_right.kp T.b_law_right (pa_cons (pv 2) pa_nil)))) (pss_one (ps_ret pe_bl)) pss_nil))))))
      (pss_cons (ps_set (i := 4) sc_law.nd rfl (Or.inl rfl) (pe_makeK T.mk_Rule (ok_Rule_init T) (hr.mono (by decide)) (by rfl) T.mc_Rule T.kb_Rule_init_2_conditions passL (pa_cons pe_str (pa_cons pe_str pa_nil)) (pk_cons (pe_lst (pa_cons (pe_tup (pa_cons pe_str (pa_cons (pe_tup (pa_cons pe_str (pa_cons pe_str (pa_cons pe_str pa_nil)))) pa_nil))) (pa_cons (pe_tup (pa_cons pe_str (pa_cons (pe_tup (pa_cons pe_str (pa_cons (pe_tup (pa_cons pe_str pa_nil)) pa_nil))) pa_nil))) pa_nil))) pk_nil)))
      (pss_cons (ps_if (pt_cmpR (neK K hr) (pe_callB (lenK K) (by rfl) T.z_len B_len (pa_cons (pe_prop (pv 4) T.cl_Rule T.pp_Rule_conditions (ok_Rule_conditions T) (hr.mono (by decide)) T.bM_Rule_conditions .nil pass0 (by rfl)) pa_nil)) pe_int (nomark _)) (pss_one (ps_ret pe_bl)) pss_nil)
      (pss_one (ps_ret (pe_and (pe_cmpR (eqK K hr) (pe_prop (pe_make T.mk_Rule (ok_Rule_init T) (hr.mono (by decide)) (by rfl) T.mc_Rule T.bD_Rule T.vD_Rule passL (pa_cons pe_str (pa_cons pe_str pa_nil))) T.cl_Rule T.pp_Rule_conditions (ok_Rule_conditions T) (hr.mono (by decide)) T.bM_Rule_conditions .nil pass0 (by rfl)) (pe_tup pa_nil) (nomark _)) (pe_and (pe_cmpR (eqK K hr) (pe_prop (pe_make T.mk_Step (ok_Step_init T) (hr.mono (by decide)) (by rfl) T.mc_Step T.bD_Step T.vD_Step passL (pa_cons (pe_lst pa_nil) pa_nil)) T.cl_Step T.pp_Step_mode (ok_Step_mode T) (hr.mono (by decide)) T.bM_Step_mode .nil pass0 (by rfl)) pe_str (nomark _)) (pe_one (pe_cmpR (eqK K hr) (pe_prop (pe_make T.mk_Step (ok_Step_init T) (hr.mono (by decide)) (by rfl) T.mc_Step T.bD_Step T.vD_Step passL (pa_cons (pe_lst pa_nil) pa_nil)) T.cl_Step T.pp_Step_rules (ok_Step_rules T) (hr.mono (by decide)) T.bM_Step_rules .nil pass0 (by rfl)) (pe_tup pa_nil) (nomark _)))))))))), ?_⟩
    walk_at "kk"
    have hml : ((ns.map V.int).length : Int) = ns.length := by rw [List.length_map]
    rw [hml]
    obtain ⟨m, em, lm⟩ : ∃ m : Nat, (1 + if (ns.length : Int) < 8 then (ns.length : Int) else 8) = (m : Nat) ∧ m ≤ 9 := ⟨1 + (if ns.length < 8 then ns.length else 8), by split <;> split <;> omega, by split <;> omega⟩
    rw [em]
    refine k_onR1 (by omega) ?_
    rw [Int.toNat_natCast]
    refine for_go (walk_rng (n := m)) (fun i σ H' => Same H H' ∧ ∃ t1 t2 t3, σ = [some (.ref a), t1, t2, t3, none]) ⟨Same.refl H, none, none, none, rfl⟩ (fun _ _ _ _ _ => trivial) (fun i x σ Ha Hb hi iv hx => ?_) (fun σ H1 iv => ?_)
    · obtain ⟨s1, t1, t2, t3, rfl⟩ := iv
      obtain ⟨rfl, rfl⟩ := hx
      walk_at "kk"
      refine ⟨a, ns, i, rfl, s1.seq ha, hl, by omega, fun H2 u s2 nu pu => ?_⟩
      walk_at "kk"
      refine k_onR1 (by omega) (for_go (walk_rng (n := 3)) (fun k σ H' => Gr [u] H2 H' ∧ Pu H' u (1000 * i + k * 500000) ∧ ∃ t3, σ = [some (.ref a), some (.int (i : Nat)), some (.ref u), t3, none]) ⟨Gr.refl, pu, t3, rfl⟩ (fun _ _ _ _ _ => trivial) (fun k x σ Hc Hd hk iv hx => ?_) (fun σ H3 iv => ?_))
      · obtain ⟨g3, p3, t3, rfl⟩ := iv
        obtain ⟨rfl, rfl⟩ := hx
        walk_at "kk"
        refine ⟨u, _, rfl, p3, by omega, fun H4 g4 p4 => ?_⟩
        walk_at "kk"
        exact ⟨g3.trans g4, p4.up rfl (by omega), _, rfl⟩
      · obtain ⟨g3, p3, t3, rfl⟩ := iv
        exact ⟨s1.trans (Gr.same (((Gr.of (S := [u]) s2).trans g3).less nu)), _, _, _, rfl⟩
    · obtain ⟨s1, t1, t2, t3, rfl⟩ := iv
      walk_at "kk"
      intro u1 H2 s2 f2 x2
      walk_at "kk"
      intro u2 H3 s3 f3 x3
      walk_at "kk"
      intro u3 H4 s4 f4 x4
      walk_at "kk"
      intro u4 H5 s5 f5 x5
      walk_at "kk"
      intro u5 H6 s6 f6 x6
      walk_at "kk"
      intro u6 H7 s7 f7 x7
      walk_at "kk"
      have v57 := s6.trans s7
      have v47 := s5.trans v57
      have v37 := s4.trans v47
      have v27 := s3.trans v37
      have dA : Dp K H7 (.ref u2) (enc (.pos (.ends ["A", "1 ", ""]))) := .tup (Evl.st_of (v37 _ _ x3)) (.cons (.str _) (.cons (.tup (Evl.st_of (v27 _ _ x2)) (.cons (.str _) (.cons (.str _) (.cons (.str _) .nil)))) .nil))
      have dB : Dp K H7 (.ref u5) (enc (.neg (.ends ["B-"]))) := .tup (Evl.st_of (s7 _ _ x6)) (.cons (.str _) (.cons (.tup (Evl.st_of (v57 _ _ x5)) (.cons (.str _) (.cons (.tup (Evl.st_of (v47 _ _ x4)) (.cons (.str _) .nil)) .nil))) .nil))
      refine rule_madeK T (r := ⟨"a", "", [.pos (.ends ["A", "1 ", ""]), .neg (.ends ["B-"])]⟩) ⟨u6, false, [.ref u2, .ref u5], rfl, Evl.sq_of x7, .cons dA (.cons dB .nil)⟩ (letB_ok (by decide +kernel) fun c hc => cfit (List.all_eq_true.mp (by decide +kernel : ([.pos (.ends ["A", "1 ", ""]), .neg (.ends ["B-"])] : List Cond).all fitB = true) c hc)) (fun far H8 s8 ru8 => ?_)
      walk_at "kk"
      refine ru_conds ru8 (fun t xs ht hd => ?_)
      have xl : ((xs.length : Nat) : Int) = 2 := by rw [hd.len]; rfl
      walk_at "kk"
      rw [xl]
      walk_at "kk"
      refine rule_madeR T (by decide +kernel) (fun e1 H9 s9 ru9 => ?_)
      refine ru_conds ru9 (fun t9 xs9 ht9 hd9 => ?_)
      cases hd9
      walk_at "kk"
      intro t10 H10 s10 f10 x10
      refine k_eqD (.tup (Evl.ex_t s10 ht9) .nil) (.tup (Evl.st_of x10) .nil) (by decide +kernel) (by decide +kernel) ?_
      rw [show PyData.eqv (.tuple []) (.tuple []) = true from by decide +kernel]
      walk_at "kk"
      intro l11 H11 s11 f11 x11
      walk_at "kk"
      refine step_madeR T (rs := []) ⟨l11, false, [], rfl, Evl.sq_of x11, .nil, by decide⟩ List.nodup_nil (fun e2 H12 s12 st12 => ?_)
      refine st_mode st12 ?_
      walk_at "kk"
      intro l13 H13 s13 f13 x13
      walk_at "kk"
      refine step_madeR T (rs := []) ⟨l13, false, [], rfl, Evl.sq_of x13, .nil, by decide⟩ List.nodup_nil (fun e3 H14 s14 st14 => ?_)
      obtain ⟨b, dx, fs, tt, xs14, rfl, h1, h2, h3, h4, h5⟩ := st14
      cases h5
      refine st_rules (CR := T.C_Rule) (s := ⟨[], "longest"⟩) rfl h1 h2 ?_
      walk_at "kk"
      intro t15 H15 s15 f15 x15
      refine k_eqD (.tup (Evl.ex_t s15 h4) .nil) (.tup (Evl.st_of x15) .nil) (by decide +kernel) (by decide +kernel) ?_
      rw [show PyData.eqv (.tuple []) (.tuple []) = true from by decide +kernel]
      walk_at "kk"
      exact q _
end
end K02
set_option Elab.async false
set_option linter.all false
set_option maxRecDepth 100000
set_option maxHeartbeats 4000000
namespace K02
open PySem PySem.Spec PyProof.Rows L2 TL Mi
theorem all_mk {l : PySem.W.OpenLaw} {w : World} {K : PySem.W.Frag} {h : Heap} {mg : Str → Option Value} {fa : Addr} (X : K.In h) (G : h.Ns mainGlobals mg) (hfa : mg "law" = some (.ref fa))
    {f_is_list f_is_number f_is_text_of f_is_word_of f_is_condition f_is_plain f_check_mode f_check_conditions f_check_rules f_check_endings f_law_mixed f_law_purse f_law_draw f_law_letters f_law_text f_law_condition f_law_rule f_law_step f_law_made_step f_law_asked f_law_caught f_law_doors_right f_law_right f_law C_StemError C_InvalidText g_InvalidText N_InvalidText C_InvalidConditions g_InvalidConditions N_InvalidConditions C_InvalidRules g_InvalidRules N_InvalidRules C_InvalidMode g_InvalidMode N_InvalidMode C_SameEnding g_SameEnding N_SameEnding C_Rule C_Step g_Rule_init D_Rule_init g_Rule_ending p_Rule_ending g_Rule_put p_Rule_put g_Rule_conditions p_Rule_conditions g_Rule_eq e_Rule_conditions g_Step_init D_Step_init g_Step_rules p_Step_rules g_Step_mode p_Step_mode g_Step_eq : Addr}
    {od_is_list an_is_list od_is_number an_is_number od_is_text_of an_is_text_of od_is_word_of an_is_word_of od_is_condition an_is_condition od_is_plain an_is_plain od_check_mode an_check_mode od_check_conditions an_check_conditions od_check_rules an_check_rules od_check_endings an_check_endings od_law_mixed an_law_mixed od_law_purse an_law_purse od_law_draw an_law_draw od_law_letters an_law_letters od_law_text an_law_text od_law_condition an_law_condition od_law_rule an_law_rule od_law_step an_law_step od_law_made_step an_law_made_step od_law_asked an_law_asked od_law_caught an_law_caught od_law_doors_right an_law_doors_right od_law_right an_law_right od_law an_law iod_InvalidText ian_InvalidText dd_InvalidText iod_InvalidConditions ian_InvalidConditions dd_InvalidConditions iod_InvalidRules ian_InvalidRules dd_InvalidRules iod_InvalidMode ian_InvalidMode dd_InvalidMode iod_SameEnding ian_SameEnding dd_SameEnding mod_Rule_init man_Rule_init mod_Rule_ending man_Rule_ending mod_Rule_put man_Rule_put mod_Rule_conditions man_Rule_conditions mod_Rule_eq man_Rule_eq ed_Rule_conditions mod_Step_init man_Step_init mod_Step_rules man_Step_rules mod_Step_mode man_Step_mode mod_Step_eq man_Step_eq : Option Addr}
    {sl_is_list sl_is_number sl_is_text_of sl_is_word_of sl_is_condition sl_is_plain sl_check_mode sl_check_conditions sl_check_rules sl_check_endings sl_law_mixed sl_law_purse sl_law_draw sl_law_letters sl_law_text sl_law_condition sl_law_rule sl_law_step sl_law_made_step sl_law_asked sl_law_caught sl_law_doors_right sl_law_right sl_law isl_InvalidText isl_InvalidConditions isl_InvalidRules isl_InvalidMode isl_SameEnding msl_Rule_init msl_Rule_ending msl_Rule_put msl_Rule_conditions msl_Rule_eq es_Rule_conditions msl_Step_init msl_Step_rules msl_Step_mode msl_Step_eq : Array (Option Value)}
    {oc_is_list kV_is_list dc_is_list pm_is_list cd_is_list ct_is_list oc_is_number kV_is_number dc_is_number pm_is_number cd_is_number ct_is_number oc_is_text_of kV_is_text_of dc_is_text_of pm_is_text_of cd_is_text_of ct_is_text_of oc_is_word_of kV_is_word_of dc_is_word_of pm_is_word_of cd_is_word_of ct_is_word_of oc_is_condition kV_is_condition dc_is_condition pm_is_condition cd_is_condition ct_is_condition oc_is_plain kV_is_plain dc_is_plain pm_is_plain cd_is_plain ct_is_plain oc_check_mode kV_check_mode dc_check_mode pm_check_mode cd_check_mode ct_check_mode oc_check_conditions kV_check_conditions dc_check_conditions pm_check_conditions cd_check_conditions ct_check_conditions oc_check_rules kV_check_rules dc_check_rules pm_check_rules cd_check_rules ct_check_rules oc_check_endings kV_check_endings dc_check_endings pm_check_endings cd_check_endings ct_check_endings oc_law_mixed kV_law_mixed dc_law_mixed pm_law_mixed cd_law_mixed ct_law_mixed oc_law_purse kV_law_purse dc_law_purse pm_law_purse cd_law_purse ct_law_purse oc_law_draw kV_law_draw dc_law_draw pm_law_draw cd_law_draw ct_law_draw oc_law_letters kV_law_letters dc_law_letters pm_law_letters cd_law_letters ct_law_letters oc_law_text kV_law_text dc_law_text pm_law_text cd_law_text ct_law_text oc_law_condition kV_law_condition dc_law_condition pm_law_condition cd_law_condition ct_law_condition oc_law_rule kV_law_rule dc_law_rule pm_law_rule cd_law_rule ct_law_rule oc_law_step kV_law_step dc_law_step pm_law_step cd_law_step ct_law_step oc_law_made_step kV_law_made_step dc_law_made_step pm_law_made_step cd_law_made_step ct_law_made_step oc_law_asked kV_law_asked dc_law_asked pm_law_asked cd_law_asked ct_law_asked oc_law_caught kV_law_caught dc_law_caught pm_law_caught cd_law_caught ct_law_caught oc_law_doors_right kV_law_doors_right dc_law_doors_right pm_law_doors_right cd_law_doors_right ct_law_doors_right oc_law_right kV_law_right dc_law_right pm_law_right cd_law_right ct_law_right oc_law kV_law dc_law pm_law cd_law ct_law ioc_InvalidText ikV_InvalidText idc_InvalidText ipm_InvalidText icd_InvalidText ict_InvalidText ioc_InvalidConditions ikV_InvalidConditions idc_InvalidConditions ipm_InvalidConditions icd_InvalidConditions ict_InvalidConditions ioc_InvalidRules ikV_InvalidRules idc_InvalidRules ipm_InvalidRules icd_InvalidRules ict_InvalidRules ioc_InvalidMode ikV_InvalidMode idc_InvalidMode ipm_InvalidMode icd_InvalidMode ict_InvalidMode ioc_SameEnding ikV_SameEnding idc_SameEnding ipm_SameEnding icd_SameEnding ict_SameEnding moc_Rule_init mdc_Rule_init mpm_Rule_init mcd_Rule_init mct_Rule_init moc_Rule_ending mdc_Rule_ending mpm_Rule_ending mcd_Rule_ending mct_Rule_ending mkV_Rule_ending moc_Rule_put mdc_Rule_put mpm_Rule_put mcd_Rule_put mct_Rule_put mkV_Rule_put moc_Rule_conditions mdc_Rule_conditions mpm_Rule_conditions mcd_Rule_conditions mct_Rule_conditions mkV_Rule_conditions moc_Rule_eq mdc_Rule_eq mpm_Rule_eq mcd_Rule_eq mct_Rule_eq mkV_Rule_eq moc_Step_init mdc_Step_init mpm_Step_init mcd_Step_init mct_Step_init moc_Step_rules mdc_Step_rules mpm_Step_rules mcd_Step_rules mct_Step_rules mkV_Step_rules moc_Step_mode mdc_Step_mode mpm_Step_mode mcd_Step_mode mct_Step_mode mkV_Step_mode moc_Step_eq mdc_Step_eq mpm_Step_eq mcd_Step_eq mct_Step_eq mkV_Step_eq : Value}
    {tk_ALPHABET : Tok}
    {nm_InvalidText q_InvalidText : Str} {bs_InvalidText sub_InvalidText : List Value} {sn_InvalidText : List Str} {ab_InvalidText : Bool} {col_InvalidText : Option Bool} {m0_InvalidText m1_InvalidText m2_InvalidText m3_InvalidText m5_InvalidText : Option Value}
    {nm_InvalidConditions q_InvalidConditions : Str} {bs_InvalidConditions sub_InvalidConditions : List Value} {sn_InvalidConditions : List Str} {ab_InvalidConditions : Bool} {col_InvalidConditions : Option Bool} {m0_InvalidConditions m1_InvalidConditions m2_InvalidConditions m3_InvalidConditions m5_InvalidConditions : Option Value}
    {nm_InvalidRules q_InvalidRules : Str} {bs_InvalidRules sub_InvalidRules : List Value} {sn_InvalidRules : List Str} {ab_InvalidRules : Bool} {col_InvalidRules : Option Bool} {m0_InvalidRules m1_InvalidRules m2_InvalidRules m3_InvalidRules m5_InvalidRules : Option Value}
    {nm_InvalidMode q_InvalidMode : Str} {bs_InvalidMode sub_InvalidMode : List Value} {sn_InvalidMode : List Str} {ab_InvalidMode : Bool} {col_InvalidMode : Option Bool} {m0_InvalidMode m1_InvalidMode m2_InvalidMode m3_InvalidMode m5_InvalidMode : Option Value}
    {nm_SameEnding q_SameEnding : Str} {bs_SameEnding sub_SameEnding : List Value} {sn_SameEnding : List Str} {ab_SameEnding : Bool} {col_SameEnding : Option Bool} {m0_SameEnding m1_SameEnding m2_SameEnding m3_SameEnding m5_SameEnding : Option Value}
    {rest_Rule_ending : List Value}
    {rest_Rule_put : List Value}
    {rest_Rule_conditions : List Value}
    {en_Rule_conditions : Nat}
    {rest_Step_rules : List Value}
    {rest_Step_mode : List Value}
    {kt_Step_mode : Tok}
    (a_is_list : PySem.W.nsIn K mainGlobals "is_list" = some (some (.ref f_is_list)))
    (l_is_list : K.lookup f_is_list = some ⟨oc_is_list, od_is_list, .func (PySem.W.fnOf "is_list" "is_list" (defArgs s_is_list) (defBody s_is_list) (defScope s_is_list) .none kV_is_list dc_is_list pm_is_list an_is_list cd_is_list ct_is_list), sl_is_list⟩)
    (c_is_list : PySem.W.codeIn K cd_is_list "is_list" = true) (k_is_list : PySem.W.keepIn K (.ref f_is_list) = true)
    (a_is_number : PySem.W.nsIn K mainGlobals "is_number" = some (some (.ref f_is_number)))
    (l_is_number : K.lookup f_is_number = some ⟨oc_is_number, od_is_number, .func (PySem.W.fnOf "is_number" "is_number" (defArgs s_is_number) (defBody s_is_number) (defScope s_is_number) .none kV_is_number dc_is_number pm_is_number an_is_number cd_is_number ct_is_number), sl_is_number⟩)
    (c_is_number : PySem.W.codeIn K cd_is_number "is_number" = true) (k_is_number : PySem.W.keepIn K (.ref f_is_number) = true)
    (a_is_text_of : PySem.W.nsIn K mainGlobals "is_text_of" = some (some (.ref f_is_text_of)))
    (l_is_text_of : K.lookup f_is_text_of = some ⟨oc_is_text_of, od_is_text_of, .func (PySem.W.fnOf "is_text_of" "is_text_of" (defArgs s_is_text_of) (defBody s_is_text_of) (defScope s_is_text_of) .none kV_is_text_of dc_is_text_of pm_is_text_of an_is_text_of cd_is_text_of ct_is_text_of), sl_is_text_of⟩)
    (c_is_text_of : PySem.W.codeIn K cd_is_text_of "is_text_of" = true) (k_is_text_of : PySem.W.keepIn K (.ref f_is_text_of) = true)
    (a_is_word_of : PySem.W.nsIn K mainGlobals "is_word_of" = some (some (.ref f_is_word_of)))
    (l_is_word_of : K.lookup f_is_word_of = some ⟨oc_is_word_of, od_is_word_of, .func (PySem.W.fnOf "is_word_of" "is_word_of" (defArgs s_is_word_of) (defBody s_is_word_of) (defScope s_is_word_of) .none kV_is_word_of dc_is_word_of pm_is_word_of an_is_word_of cd_is_word_of ct_is_word_of), sl_is_word_of⟩)
    (c_is_word_of : PySem.W.codeIn K cd_is_word_of "is_word_of" = true) (k_is_word_of : PySem.W.keepIn K (.ref f_is_word_of) = true)
    (a_is_condition : PySem.W.nsIn K mainGlobals "is_condition" = some (some (.ref f_is_condition)))
    (l_is_condition : K.lookup f_is_condition = some ⟨oc_is_condition, od_is_condition, .func (PySem.W.fnOf "is_condition" "is_condition" (defArgs s_is_condition) (defBody s_is_condition) (defScope s_is_condition) .none kV_is_condition dc_is_condition pm_is_condition an_is_condition cd_is_condition ct_is_condition), sl_is_condition⟩)
    (c_is_condition : PySem.W.codeIn K cd_is_condition "is_condition" = true) (k_is_condition : PySem.W.keepIn K (.ref f_is_condition) = true)
    (a_is_plain : PySem.W.nsIn K mainGlobals "_is_plain" = some (some (.ref f_is_plain)))
    (l_is_plain : K.lookup f_is_plain = some ⟨oc_is_plain, od_is_plain, .func (PySem.W.fnOf "_is_plain" "_is_plain" (defArgs s_is_plain) (defBody s_is_plain) (defScope s_is_plain) .none kV_is_plain dc_is_plain pm_is_plain an_is_plain cd_is_plain ct_is_plain), sl_is_plain⟩)
    (c_is_plain : PySem.W.codeIn K cd_is_plain "_is_plain" = true) (k_is_plain : PySem.W.keepIn K (.ref f_is_plain) = true)
    (a_check_mode : PySem.W.nsIn K mainGlobals "check_mode" = some (some (.ref f_check_mode)))
    (l_check_mode : K.lookup f_check_mode = some ⟨oc_check_mode, od_check_mode, .func (PySem.W.fnOf "check_mode" "check_mode" (defArgs s_check_mode) (defBody s_check_mode) (defScope s_check_mode) .none kV_check_mode dc_check_mode pm_check_mode an_check_mode cd_check_mode ct_check_mode), sl_check_mode⟩)
    (c_check_mode : PySem.W.codeIn K cd_check_mode "check_mode" = true) (k_check_mode : PySem.W.keepIn K (.ref f_check_mode) = true)
    (a_check_conditions : PySem.W.nsIn K mainGlobals "_check_conditions" = some (some (.ref f_check_conditions)))
    (l_check_conditions : K.lookup f_check_conditions = some ⟨oc_check_conditions, od_check_conditions, .func (PySem.W.fnOf "_check_conditions" "_check_conditions" (defArgs s_check_conditions) (defBody s_check_conditions) (defScope s_check_conditions) .none kV_check_conditions dc_check_conditions pm_check_conditions an_check_conditions cd_check_conditions ct_check_conditions), sl_check_conditions⟩)
    (c_check_conditions : PySem.W.codeIn K cd_check_conditions "_check_conditions" = true) (k_check_conditions : PySem.W.keepIn K (.ref f_check_conditions) = true)
    (a_check_rules : PySem.W.nsIn K mainGlobals "_check_rules" = some (some (.ref f_check_rules)))
    (l_check_rules : K.lookup f_check_rules = some ⟨oc_check_rules, od_check_rules, .func (PySem.W.fnOf "_check_rules" "_check_rules" (defArgs s_check_rules) (defBody s_check_rules) (defScope s_check_rules) .none kV_check_rules dc_check_rules pm_check_rules an_check_rules cd_check_rules ct_check_rules), sl_check_rules⟩)
    (c_check_rules : PySem.W.codeIn K cd_check_rules "_check_rules" = true) (k_check_rules : PySem.W.keepIn K (.ref f_check_rules) = true)
    (a_check_endings : PySem.W.nsIn K mainGlobals "_check_endings" = some (some (.ref f_check_endings)))
    (l_check_endings : K.lookup f_check_endings = some ⟨oc_check_endings, od_check_endings, .func (PySem.W.fnOf "_check_endings" "_check_endings" (defArgs s_check_endings) (defBody s_check_endings) (defScope s_check_endings) .none kV_check_endings dc_check_endings pm_check_endings an_check_endings cd_check_endings ct_check_endings), sl_check_endings⟩)
    (c_check_endings : PySem.W.codeIn K cd_check_endings "_check_endings" = true) (k_check_endings : PySem.W.keepIn K (.ref f_check_endings) = true)
    (a_law_mixed : PySem.W.nsIn K mainGlobals "_law_mixed" = some (some (.ref f_law_mixed)))
    (l_law_mixed : K.lookup f_law_mixed = some ⟨oc_law_mixed, od_law_mixed, .func (PySem.W.fnOf "_law_mixed" "_law_mixed" (defArgs s_law_mixed) (defBody s_law_mixed) (defScope s_law_mixed) .none kV_law_mixed dc_law_mixed pm_law_mixed an_law_mixed cd_law_mixed ct_law_mixed), sl_law_mixed⟩)
    (c_law_mixed : PySem.W.codeIn K cd_law_mixed "_law_mixed" = true) (k_law_mixed : PySem.W.keepIn K (.ref f_law_mixed) = true)
    (a_law_purse : PySem.W.nsIn K mainGlobals "_law_purse" = some (some (.ref f_law_purse)))
    (l_law_purse : K.lookup f_law_purse = some ⟨oc_law_purse, od_law_purse, .func (PySem.W.fnOf "_law_purse" "_law_purse" (defArgs s_law_purse) (defBody s_law_purse) (defScope s_law_purse) .none kV_law_purse dc_law_purse pm_law_purse an_law_purse cd_law_purse ct_law_purse), sl_law_purse⟩)
    (c_law_purse : PySem.W.codeIn K cd_law_purse "_law_purse" = true) (k_law_purse : PySem.W.keepIn K (.ref f_law_purse) = true)
    (a_law_draw : PySem.W.nsIn K mainGlobals "_law_draw" = some (some (.ref f_law_draw)))
    (l_law_draw : K.lookup f_law_draw = some ⟨oc_law_draw, od_law_draw, .func (PySem.W.fnOf "_law_draw" "_law_draw" (defArgs s_law_draw) (defBody s_law_draw) (defScope s_law_draw) .none kV_law_draw dc_law_draw pm_law_draw an_law_draw cd_law_draw ct_law_draw), sl_law_draw⟩)
    (c_law_draw : PySem.W.codeIn K cd_law_draw "_law_draw" = true) (k_law_draw : PySem.W.keepIn K (.ref f_law_draw) = true)
    (a_law_letters : PySem.W.nsIn K mainGlobals "_law_letters" = some (some (.ref f_law_letters)))
    (l_law_letters : K.lookup f_law_letters = some ⟨oc_law_letters, od_law_letters, .func (PySem.W.fnOf "_law_letters" "_law_letters" (defArgs s_law_letters) (defBody s_law_letters) (defScope s_law_letters) .none kV_law_letters dc_law_letters pm_law_letters an_law_letters cd_law_letters ct_law_letters), sl_law_letters⟩)
    (c_law_letters : PySem.W.codeIn K cd_law_letters "_law_letters" = true) (k_law_letters : PySem.W.keepIn K (.ref f_law_letters) = true)
    (a_law_text : PySem.W.nsIn K mainGlobals "_law_text" = some (some (.ref f_law_text)))
    (l_law_text : K.lookup f_law_text = some ⟨oc_law_text, od_law_text, .func (PySem.W.fnOf "_law_text" "_law_text" (defArgs s_law_text) (defBody s_law_text) (defScope s_law_text) .none kV_law_text dc_law_text pm_law_text an_law_text cd_law_text ct_law_text), sl_law_text⟩)
    (c_law_text : PySem.W.codeIn K cd_law_text "_law_text" = true) (k_law_text : PySem.W.keepIn K (.ref f_law_text) = true)
    (a_law_condition : PySem.W.nsIn K mainGlobals "_law_condition" = some (some (.ref f_law_condition)))
    (l_law_condition : K.lookup f_law_condition = some ⟨oc_law_condition, od_law_condition, .func (PySem.W.fnOf "_law_condition" "_law_condition" (defArgs s_law_condition) (defBody s_law_condition) (defScope s_law_condition) .none kV_law_condition dc_law_condition pm_law_condition an_law_condition cd_law_condition ct_law_condition), sl_law_condition⟩)
    (c_law_condition : PySem.W.codeIn K cd_law_condition "_law_condition" = true) (k_law_condition : PySem.W.keepIn K (.ref f_law_condition) = true)
    (a_law_rule : PySem.W.nsIn K mainGlobals "_law_rule" = some (some (.ref f_law_rule)))
    (l_law_rule : K.lookup f_law_rule = some ⟨oc_law_rule, od_law_rule, .func (PySem.W.fnOf "_law_rule" "_law_rule" (defArgs s_law_rule) (defBody s_law_rule) (defScope s_law_rule) .none kV_law_rule dc_law_rule pm_law_rule an_law_rule cd_law_rule ct_law_rule), sl_law_rule⟩)
    (c_law_rule : PySem.W.codeIn K cd_law_rule "_law_rule" = true) (k_law_rule : PySem.W.keepIn K (.ref f_law_rule) = true)
    (a_law_step : PySem.W.nsIn K mainGlobals "_law_step" = some (some (.ref f_law_step)))
    (l_law_step : K.lookup f_law_step = some ⟨oc_law_step, od_law_step, .func (PySem.W.fnOf "_law_step" "_law_step" (defArgs s_law_step) (defBody s_law_step) (defScope s_law_step) .none kV_law_step dc_law_step pm_law_step an_law_step cd_law_step ct_law_step), sl_law_step⟩)
    (c_law_step : PySem.W.codeIn K cd_law_step "_law_step" = true) (k_law_step : PySem.W.keepIn K (.ref f_law_step) = true)
    (a_law_made_step : PySem.W.nsIn K mainGlobals "_law_made_step" = some (some (.ref f_law_made_step)))
    (l_law_made_step : K.lookup f_law_made_step = some ⟨oc_law_made_step, od_law_made_step, .func (PySem.W.fnOf "_law_made_step" "_law_made_step" (defArgs s_law_made_step) (defBody s_law_made_step) (defScope s_law_made_step) .none kV_law_made_step dc_law_made_step pm_law_made_step an_law_made_step cd_law_made_step ct_law_made_step), sl_law_made_step⟩)
    (c_law_made_step : PySem.W.codeIn K cd_law_made_step "_law_made_step" = true) (k_law_made_step : PySem.W.keepIn K (.ref f_law_made_step) = true)
    (a_law_asked : PySem.W.nsIn K mainGlobals "_law_asked" = some (some (.ref f_law_asked)))
    (l_law_asked : K.lookup f_law_asked = some ⟨oc_law_asked, od_law_asked, .func (PySem.W.fnOf "_law_asked" "_law_asked" (defArgs s_law_asked) (defBody s_law_asked) (defScope s_law_asked) .none kV_law_asked dc_law_asked pm_law_asked an_law_asked cd_law_asked ct_law_asked), sl_law_asked⟩)
    (c_law_asked : PySem.W.codeIn K cd_law_asked "_law_asked" = true) (k_law_asked : PySem.W.keepIn K (.ref f_law_asked) = true)
    (a_law_caught : PySem.W.nsIn K mainGlobals "_law_caught" = some (some (.ref f_law_caught)))
    (l_law_caught : K.lookup f_law_caught = some ⟨oc_law_caught, od_law_caught, .func (PySem.W.fnOf "_law_caught" "_law_caught" (defArgs s_law_caught) (defBody s_law_caught) (defScope s_law_caught) .none kV_law_caught dc_law_caught pm_law_caught an_law_caught cd_law_caught ct_law_caught), sl_law_caught⟩)
    (c_law_caught : PySem.W.codeIn K cd_law_caught "_law_caught" = true) (k_law_caught : PySem.W.keepIn K (.ref f_law_caught) = true)
    (a_law_doors_right : PySem.W.nsIn K mainGlobals "_law_doors_right" = some (some (.ref f_law_doors_right)))
    (l_law_doors_right : K.lookup f_law_doors_right = some ⟨oc_law_doors_right, od_law_doors_right, .func (PySem.W.fnOf "_law_doors_right" "_law_doors_right" (defArgs s_law_doors_right) (defBody s_law_doors_right) (defScope s_law_doors_right) .none kV_law_doors_right dc_law_doors_right pm_law_doors_right an_law_doors_right cd_law_doors_right ct_law_doors_right), sl_law_doors_right⟩)
    (c_law_doors_right : PySem.W.codeIn K cd_law_doors_right "_law_doors_right" = true) (k_law_doors_right : PySem.W.keepIn K (.ref f_law_doors_right) = true)
    (a_law_right : PySem.W.nsIn K mainGlobals "_law_right" = some (some (.ref f_law_right)))
    (l_law_right : K.lookup f_law_right = some ⟨oc_law_right, od_law_right, .func (PySem.W.fnOf "_law_right" "_law_right" (defArgs s_law_right) (defBody s_law_right) (defScope s_law_right) .none kV_law_right dc_law_right pm_law_right an_law_right cd_law_right ct_law_right), sl_law_right⟩)
    (c_law_right : PySem.W.codeIn K cd_law_right "_law_right" = true) (k_law_right : PySem.W.keepIn K (.ref f_law_right) = true)
    (a_law : PySem.W.nsIn K mainGlobals "law" = some (some (.ref f_law)))
    (l_law : K.lookup f_law = some ⟨oc_law, od_law, .func (PySem.W.fnOf "law" "law" (defArgs s_law) (defBody s_law) (defScope s_law) .none kV_law dc_law pm_law an_law cd_law ct_law), sl_law⟩)
    (c_law : PySem.W.codeIn K cd_law "law" = true) (k_law : PySem.W.keepIn K (.ref f_law) = true)
    (z_AttributeError : PySem.W.nsIn K mainGlobals "AttributeError" = some none)
    (z_all : PySem.W.nsIn K mainGlobals "all" = some none)
    (z_bool : PySem.W.nsIn K mainGlobals "bool" = some none)
    (z_enumerate : PySem.W.nsIn K mainGlobals "enumerate" = some none)
    (z_int : PySem.W.nsIn K mainGlobals "int" = some none)
    (z_isinstance : PySem.W.nsIn K mainGlobals "isinstance" = some none)
    (z_len : PySem.W.nsIn K mainGlobals "len" = some none)
    (z_list : PySem.W.nsIn K mainGlobals "list" = some none)
    (z_max : PySem.W.nsIn K mainGlobals "max" = some none)
    (z_min : PySem.W.nsIn K mainGlobals "min" = some none)
    (z_property : PySem.W.nsIn K mainGlobals "property" = some none)
    (z_range : PySem.W.nsIn K mainGlobals "range" = some none)
    (z_set : PySem.W.nsIn K mainGlobals "set" = some none)
    (z_str : PySem.W.nsIn K mainGlobals "str" = some none)
    (z_tuple : PySem.W.nsIn K mainGlobals "tuple" = some none)
    (tc_ALPHABET : PySem.W.nsIn K mainGlobals "ALPHABET" = some (some (.str "abcdefghijklmnopqrstuvwxyz" tk_ALPHABET)))
    (aC_StemError : PySem.W.nsIn K mainGlobals "StemError" = some (some (.ref C_StemError)))
    (eC_StemError : PySem.W.subIn K (.ref C_StemError) (.type "BaseException") = some true) (tC_StemError : PySem.W.typeIn K (.ref C_StemError) = some (.type "type")) (iC_StemError : PySem.W.isClsIn K C_StemError = true)
    (aC_InvalidText : PySem.W.nsIn K mainGlobals "InvalidText" = some (some (.ref C_InvalidText)))
    (eC_InvalidText : PySem.W.subIn K (.ref C_InvalidText) (.type "BaseException") = some true) (tC_InvalidText : PySem.W.typeIn K (.ref C_InvalidText) = some (.type "type")) (iC_InvalidText : PySem.W.isClsIn K C_InvalidText = true)
    (x_InvalidText : K.lookup C_InvalidText = some (excClassObj nm_InvalidText q_InvalidText C_InvalidText N_InvalidText bs_InvalidText [.ref C_StemError, .type "ValueError", .type "Exception", .type "BaseException", .type "object"] true sn_InvalidText sub_InvalidText ab_InvalidText col_InvalidText dd_InvalidText m0_InvalidText m1_InvalidText m2_InvalidText m3_InvalidText m5_InvalidText "ValueError.__new__"))
    (sa_InvalidText : PySem.W.findIn K (.ref C_InvalidText) "__setattr__" = some (some (.builtin "object.__setattr__"))) (ga_InvalidText : PySem.W.findIn K (.ref C_InvalidText) "__getattribute__" = some (some (.builtin "BaseException.__getattribute__"))) (gg_InvalidText : PySem.W.findIn K (.ref C_InvalidText) "__getattr__" = some none)
    (i_InvalidText : PySem.W.findIn K (.ref C_InvalidText) "__init__" = some (some (.ref g_InvalidText))) (t_InvalidText : PySem.W.typeIn K (.ref g_InvalidText) = some (.type "function"))
    (il_InvalidText : K.lookup g_InvalidText = some ⟨ioc_InvalidText, iod_InvalidText, .func (PySem.W.fnOf "__init__" "InvalidText.__init__" (defArgs s_InvalidText_init) (defBody s_InvalidText_init) (defScope s_InvalidText_init) .none ikV_InvalidText idc_InvalidText ipm_InvalidText ian_InvalidText icd_InvalidText ict_InvalidText), isl_InvalidText⟩)
    (ic_InvalidText : PySem.W.codeIn K icd_InvalidText "InvalidText.__init__" = true) (ik_InvalidText : PySem.W.keepIn K (.ref g_InvalidText) = true) (kC_InvalidText : PySem.W.keepIn K (.ref C_InvalidText) = true) (hC_InvalidText : PySem.W.hasDictIn K C_InvalidText = true)
    (n_InvalidText_thing : PySem.W.findIn K (.ref C_InvalidText) "thing" = some none)
    (aC_InvalidConditions : PySem.W.nsIn K mainGlobals "InvalidConditions" = some (some (.ref C_InvalidConditions)))
    (eC_InvalidConditions : PySem.W.subIn K (.ref C_InvalidConditions) (.type "BaseException") = some true) (tC_InvalidConditions : PySem.W.typeIn K (.ref C_InvalidConditions) = some (.type "type")) (iC_InvalidConditions : PySem.W.isClsIn K C_InvalidConditions = true)
    (x_InvalidConditions : K.lookup C_InvalidConditions = some (excClassObj nm_InvalidConditions q_InvalidConditions C_InvalidConditions N_InvalidConditions bs_InvalidConditions [.ref C_StemError, .type "ValueError", .type "Exception", .type "BaseException", .type "object"] true sn_InvalidConditions sub_InvalidConditions ab_InvalidConditions col_InvalidConditions dd_InvalidConditions m0_InvalidConditions m1_InvalidConditions m2_InvalidConditions m3_InvalidConditions m5_InvalidConditions "ValueError.__new__"))
    (sa_InvalidConditions : PySem.W.findIn K (.ref C_InvalidConditions) "__setattr__" = some (some (.builtin "object.__setattr__"))) (ga_InvalidConditions : PySem.W.findIn K (.ref C_InvalidConditions) "__getattribute__" = some (some (.builtin "BaseException.__getattribute__"))) (gg_InvalidConditions : PySem.W.findIn K (.ref C_InvalidConditions) "__getattr__" = some none)
    (i_InvalidConditions : PySem.W.findIn K (.ref C_InvalidConditions) "__init__" = some (some (.ref g_InvalidConditions))) (t_InvalidConditions : PySem.W.typeIn K (.ref g_InvalidConditions) = some (.type "function"))
    (il_InvalidConditions : K.lookup g_InvalidConditions = some ⟨ioc_InvalidConditions, iod_InvalidConditions, .func (PySem.W.fnOf "__init__" "InvalidConditions.__init__" (defArgs s_InvalidConditions_init) (defBody s_InvalidConditions_init) (defScope s_InvalidConditions_init) .none ikV_InvalidConditions idc_InvalidConditions ipm_InvalidConditions ian_InvalidConditions icd_InvalidConditions ict_InvalidConditions), isl_InvalidConditions⟩)
    (ic_InvalidConditions : PySem.W.codeIn K icd_InvalidConditions "InvalidConditions.__init__" = true) (ik_InvalidConditions : PySem.W.keepIn K (.ref g_InvalidConditions) = true) (kC_InvalidConditions : PySem.W.keepIn K (.ref C_InvalidConditions) = true) (hC_InvalidConditions : PySem.W.hasDictIn K C_InvalidConditions = true)
    (n_InvalidConditions_place : PySem.W.findIn K (.ref C_InvalidConditions) "place" = some none)
    (aC_InvalidRules : PySem.W.nsIn K mainGlobals "InvalidRules" = some (some (.ref C_InvalidRules)))
    (eC_InvalidRules : PySem.W.subIn K (.ref C_InvalidRules) (.type "BaseException") = some true) (tC_InvalidRules : PySem.W.typeIn K (.ref C_InvalidRules) = some (.type "type")) (iC_InvalidRules : PySem.W.isClsIn K C_InvalidRules = true)
    (x_InvalidRules : K.lookup C_InvalidRules = some (excClassObj nm_InvalidRules q_InvalidRules C_InvalidRules N_InvalidRules bs_InvalidRules [.ref C_StemError, .type "ValueError", .type "Exception", .type "BaseException", .type "object"] true sn_InvalidRules sub_InvalidRules ab_InvalidRules col_InvalidRules dd_InvalidRules m0_InvalidRules m1_InvalidRules m2_InvalidRules m3_InvalidRules m5_InvalidRules "ValueError.__new__"))
    (sa_InvalidRules : PySem.W.findIn K (.ref C_InvalidRules) "__setattr__" = some (some (.builtin "object.__setattr__"))) (ga_InvalidRules : PySem.W.findIn K (.ref C_InvalidRules) "__getattribute__" = some (some (.builtin "BaseException.__getattribute__"))) (gg_InvalidRules : PySem.W.findIn K (.ref C_InvalidRules) "__getattr__" = some none)
    (i_InvalidRules : PySem.W.findIn K (.ref C_InvalidRules) "__init__" = some (some (.ref g_InvalidRules))) (t_InvalidRules : PySem.W.typeIn K (.ref g_InvalidRules) = some (.type "function"))
    (il_InvalidRules : K.lookup g_InvalidRules = some ⟨ioc_InvalidRules, iod_InvalidRules, .func (PySem.W.fnOf "__init__" "InvalidRules.__init__" (defArgs s_InvalidRules_init) (defBody s_InvalidRules_init) (defScope s_InvalidRules_init) .none ikV_InvalidRules idc_InvalidRules ipm_InvalidRules ian_InvalidRules icd_InvalidRules ict_InvalidRules), isl_InvalidRules⟩)
    (ic_InvalidRules : PySem.W.codeIn K icd_InvalidRules "InvalidRules.__init__" = true) (ik_InvalidRules : PySem.W.keepIn K (.ref g_InvalidRules) = true) (kC_InvalidRules : PySem.W.keepIn K (.ref C_InvalidRules) = true) (hC_InvalidRules : PySem.W.hasDictIn K C_InvalidRules = true)
    (n_InvalidRules_place : PySem.W.findIn K (.ref C_InvalidRules) "place" = some none)
    (aC_InvalidMode : PySem.W.nsIn K mainGlobals "InvalidMode" = some (some (.ref C_InvalidMode)))
    (eC_InvalidMode : PySem.W.subIn K (.ref C_InvalidMode) (.type "BaseException") = some true) (tC_InvalidMode : PySem.W.typeIn K (.ref C_InvalidMode) = some (.type "type")) (iC_InvalidMode : PySem.W.isClsIn K C_InvalidMode = true)
    (x_InvalidMode : K.lookup C_InvalidMode = some (excClassObj nm_InvalidMode q_InvalidMode C_InvalidMode N_InvalidMode bs_InvalidMode [.ref C_StemError, .type "ValueError", .type "Exception", .type "BaseException", .type "object"] true sn_InvalidMode sub_InvalidMode ab_InvalidMode col_InvalidMode dd_InvalidMode m0_InvalidMode m1_InvalidMode m2_InvalidMode m3_InvalidMode m5_InvalidMode "ValueError.__new__"))
    (sa_InvalidMode : PySem.W.findIn K (.ref C_InvalidMode) "__setattr__" = some (some (.builtin "object.__setattr__"))) (ga_InvalidMode : PySem.W.findIn K (.ref C_InvalidMode) "__getattribute__" = some (some (.builtin "BaseException.__getattribute__"))) (gg_InvalidMode : PySem.W.findIn K (.ref C_InvalidMode) "__getattr__" = some none)
    (i_InvalidMode : PySem.W.findIn K (.ref C_InvalidMode) "__init__" = some (some (.ref g_InvalidMode))) (t_InvalidMode : PySem.W.typeIn K (.ref g_InvalidMode) = some (.type "function"))
    (il_InvalidMode : K.lookup g_InvalidMode = some ⟨ioc_InvalidMode, iod_InvalidMode, .func (PySem.W.fnOf "__init__" "InvalidMode.__init__" (defArgs s_InvalidMode_init) (defBody s_InvalidMode_init) (defScope s_InvalidMode_init) .none ikV_InvalidMode idc_InvalidMode ipm_InvalidMode ian_InvalidMode icd_InvalidMode ict_InvalidMode), isl_InvalidMode⟩)
    (ic_InvalidMode : PySem.W.codeIn K icd_InvalidMode "InvalidMode.__init__" = true) (ik_InvalidMode : PySem.W.keepIn K (.ref g_InvalidMode) = true) (kC_InvalidMode : PySem.W.keepIn K (.ref C_InvalidMode) = true) (hC_InvalidMode : PySem.W.hasDictIn K C_InvalidMode = true)
    (n_InvalidMode_thing : PySem.W.findIn K (.ref C_InvalidMode) "thing" = some none)
    (aC_SameEnding : PySem.W.nsIn K mainGlobals "SameEnding" = some (some (.ref C_SameEnding)))
    (eC_SameEnding : PySem.W.subIn K (.ref C_SameEnding) (.type "BaseException") = some true) (tC_SameEnding : PySem.W.typeIn K (.ref C_SameEnding) = some (.type "type")) (iC_SameEnding : PySem.W.isClsIn K C_SameEnding = true)
    (x_SameEnding : K.lookup C_SameEnding = some (excClassObj nm_SameEnding q_SameEnding C_SameEnding N_SameEnding bs_SameEnding [.ref C_StemError, .type "ValueError", .type "Exception", .type "BaseException", .type "object"] true sn_SameEnding sub_SameEnding ab_SameEnding col_SameEnding dd_SameEnding m0_SameEnding m1_SameEnding m2_SameEnding m3_SameEnding m5_SameEnding "ValueError.__new__"))
    (sa_SameEnding : PySem.W.findIn K (.ref C_SameEnding) "__setattr__" = some (some (.builtin "object.__setattr__"))) (ga_SameEnding : PySem.W.findIn K (.ref C_SameEnding) "__getattribute__" = some (some (.builtin "BaseException.__getattribute__"))) (gg_SameEnding : PySem.W.findIn K (.ref C_SameEnding) "__getattr__" = some none)
    (i_SameEnding : PySem.W.findIn K (.ref C_SameEnding) "__init__" = some (some (.ref g_SameEnding))) (t_SameEnding : PySem.W.typeIn K (.ref g_SameEnding) = some (.type "function"))
    (il_SameEnding : K.lookup g_SameEnding = some ⟨ioc_SameEnding, iod_SameEnding, .func (PySem.W.fnOf "__init__" "SameEnding.__init__" (defArgs s_SameEnding_init) (defBody s_SameEnding_init) (defScope s_SameEnding_init) .none ikV_SameEnding idc_SameEnding ipm_SameEnding ian_SameEnding icd_SameEnding ict_SameEnding), isl_SameEnding⟩)
    (ic_SameEnding : PySem.W.codeIn K icd_SameEnding "SameEnding.__init__" = true) (ik_SameEnding : PySem.W.keepIn K (.ref g_SameEnding) = true) (kC_SameEnding : PySem.W.keepIn K (.ref C_SameEnding) = true) (hC_SameEnding : PySem.W.hasDictIn K C_SameEnding = true)
    (n_SameEnding_ending : PySem.W.findIn K (.ref C_SameEnding) "ending" = some none)
    (s_InvalidText_StemError : PySem.W.subIn K (.ref C_InvalidText) (.ref C_StemError) = some true)
    (s_InvalidText_InvalidText : PySem.W.subIn K (.ref C_InvalidText) (.ref C_InvalidText) = some true)
    (s_InvalidText_InvalidConditions : PySem.W.subIn K (.ref C_InvalidText) (.ref C_InvalidConditions) = some false)
    (s_InvalidText_InvalidRules : PySem.W.subIn K (.ref C_InvalidText) (.ref C_InvalidRules) = some false)
    (s_InvalidText_InvalidMode : PySem.W.subIn K (.ref C_InvalidText) (.ref C_InvalidMode) = some false)
    (s_InvalidText_SameEnding : PySem.W.subIn K (.ref C_InvalidText) (.ref C_SameEnding) = some false)
    (s_InvalidConditions_StemError : PySem.W.subIn K (.ref C_InvalidConditions) (.ref C_StemError) = some true)
    (s_InvalidConditions_InvalidText : PySem.W.subIn K (.ref C_InvalidConditions) (.ref C_InvalidText) = some false)
    (s_InvalidConditions_InvalidConditions : PySem.W.subIn K (.ref C_InvalidConditions) (.ref C_InvalidConditions) = some true)
    (s_InvalidConditions_InvalidRules : PySem.W.subIn K (.ref C_InvalidConditions) (.ref C_InvalidRules) = some false)
    (s_InvalidConditions_InvalidMode : PySem.W.subIn K (.ref C_InvalidConditions) (.ref C_InvalidMode) = some false)
    (s_InvalidConditions_SameEnding : PySem.W.subIn K (.ref C_InvalidConditions) (.ref C_SameEnding) = some false)
    (s_InvalidRules_StemError : PySem.W.subIn K (.ref C_InvalidRules) (.ref C_StemError) = some true)
    (s_InvalidRules_InvalidText : PySem.W.subIn K (.ref C_InvalidRules) (.ref C_InvalidText) = some false)
    (s_InvalidRules_InvalidConditions : PySem.W.subIn K (.ref C_InvalidRules) (.ref C_InvalidConditions) = some false)
    (s_InvalidRules_InvalidRules : PySem.W.subIn K (.ref C_InvalidRules) (.ref C_InvalidRules) = some true)
    (s_InvalidRules_InvalidMode : PySem.W.subIn K (.ref C_InvalidRules) (.ref C_InvalidMode) = some false)
    (s_InvalidRules_SameEnding : PySem.W.subIn K (.ref C_InvalidRules) (.ref C_SameEnding) = some false)
    (s_InvalidMode_StemError : PySem.W.subIn K (.ref C_InvalidMode) (.ref C_StemError) = some true)
    (s_InvalidMode_InvalidText : PySem.W.subIn K (.ref C_InvalidMode) (.ref C_InvalidText) = some false)
    (s_InvalidMode_InvalidConditions : PySem.W.subIn K (.ref C_InvalidMode) (.ref C_InvalidConditions) = some false)
    (s_InvalidMode_InvalidRules : PySem.W.subIn K (.ref C_InvalidMode) (.ref C_InvalidRules) = some false)
    (s_InvalidMode_InvalidMode : PySem.W.subIn K (.ref C_InvalidMode) (.ref C_InvalidMode) = some true)
    (s_InvalidMode_SameEnding : PySem.W.subIn K (.ref C_InvalidMode) (.ref C_SameEnding) = some false)
    (s_SameEnding_StemError : PySem.W.subIn K (.ref C_SameEnding) (.ref C_StemError) = some true)
    (s_SameEnding_InvalidText : PySem.W.subIn K (.ref C_SameEnding) (.ref C_InvalidText) = some false)
    (s_SameEnding_InvalidConditions : PySem.W.subIn K (.ref C_SameEnding) (.ref C_InvalidConditions) = some false)
    (s_SameEnding_InvalidRules : PySem.W.subIn K (.ref C_SameEnding) (.ref C_InvalidRules) = some false)
    (s_SameEnding_InvalidMode : PySem.W.subIn K (.ref C_SameEnding) (.ref C_InvalidMode) = some false)
    (s_SameEnding_SameEnding : PySem.W.subIn K (.ref C_SameEnding) (.ref C_SameEnding) = some true)
    (aC_Rule : PySem.W.nsIn K mainGlobals "Rule" = some (some (.ref C_Rule)))
    (aC_Step : PySem.W.nsIn K mainGlobals "Step" = some (some (.ref C_Step)))
    (pg_Rule : PySem.W.plainGet K C_Rule Str.empty = true) (hd_Rule : PySem.W.hasDictIn K C_Rule = true) (po_Rule : PySem.W.plainOver K C_Rule = true) (sa_Rule : PySem.W.findIn K (.ref C_Rule) "__setattr__" = some (some (.builtin "object.__setattr__"))) (ma_Rule : PySem.W.makesIn K C_Rule = true) (kC_Rule : PySem.W.keepIn K (.ref C_Rule) = true)
    (ha_Rule : PySem.W.findIn K (.ref C_Rule) "__class__" = some (some (.builtin "object.__class__"))) (hm_Rule : PySem.W.mroIn K C_Rule (.type "object") = some true) (iC_Rule : PySem.W.isClsIn K C_Rule = true) (tC_Rule : PySem.W.typeIn K (.ref C_Rule) = some (.type "type"))
    (so_Rule_Rule : PySem.W.subIn K (.ref C_Rule) (.ref C_Rule) = some true)
    (so_Rule_Step : PySem.W.subIn K (.ref C_Rule) (.ref C_Step) = some false)
    (ma_Rule_init : PySem.W.findIn K (.ref C_Rule) "__init__" = some (some (.ref g_Rule_init)))
    (ml_Rule_init : K.lookup g_Rule_init = some ⟨moc_Rule_init, mod_Rule_init, .func (PySem.W.fnOf "__init__" "Rule.__init__" (defArgs s_Rule_init) (defBody s_Rule_init) (defScope s_Rule_init) .none (.ref D_Rule_init) mdc_Rule_init mpm_Rule_init man_Rule_init mcd_Rule_init mct_Rule_init), msl_Rule_init⟩)
    (mc_Rule_init : PySem.W.codeIn K mcd_Rule_init "Rule.__init__" = true) (mk_Rule_init : PySem.W.keepIn K (.ref g_Rule_init) = true) (mf_Rule_init : PySem.W.isFn K (.ref g_Rule_init) = true)
    (mp_Rule_ending : PySem.W.findIn K (.ref C_Rule) "ending" = some (some (.ref p_Rule_ending))) (mg_Rule_ending : PySem.W.specialIn K (.ref p_Rule_ending) "__get__" = some (some (.builtin "property.__get__"))) (mt_Rule_ending : PySem.W.takesIn K (.ref p_Rule_ending) = some true) (mr_Rule_ending : PySem.W.recIn K p_Rule_ending "property" = some (.ref g_Rule_ending :: rest_Rule_ending))
    (ml_Rule_ending : K.lookup g_Rule_ending = some ⟨moc_Rule_ending, mod_Rule_ending, .func (PySem.W.fnOf "ending" "Rule.ending" (defArgs s_Rule_ending) (defBody s_Rule_ending) (defScope s_Rule_ending) .none mkV_Rule_ending mdc_Rule_ending mpm_Rule_ending man_Rule_ending mcd_Rule_ending mct_Rule_ending), msl_Rule_ending⟩)
    (mc_Rule_ending : PySem.W.codeIn K mcd_Rule_ending "Rule.ending" = true) (mk_Rule_ending : PySem.W.keepIn K (.ref g_Rule_ending) = true) (mf_Rule_ending : PySem.W.isFn K (.ref g_Rule_ending) = true)
    (mp_Rule_put : PySem.W.findIn K (.ref C_Rule) "put" = some (some (.ref p_Rule_put))) (mg_Rule_put : PySem.W.specialIn K (.ref p_Rule_put) "__get__" = some (some (.builtin "property.__get__"))) (mt_Rule_put : PySem.W.takesIn K (.ref p_Rule_put) = some true) (mr_Rule_put : PySem.W.recIn K p_Rule_put "property" = some (.ref g_Rule_put :: rest_Rule_put))
    (ml_Rule_put : K.lookup g_Rule_put = some ⟨moc_Rule_put, mod_Rule_put, .func (PySem.W.fnOf "put" "Rule.put" (defArgs s_Rule_put) (defBody s_Rule_put) (defScope s_Rule_put) .none mkV_Rule_put mdc_Rule_put mpm_Rule_put man_Rule_put mcd_Rule_put mct_Rule_put), msl_Rule_put⟩)
    (mc_Rule_put : PySem.W.codeIn K mcd_Rule_put "Rule.put" = true) (mk_Rule_put : PySem.W.keepIn K (.ref g_Rule_put) = true) (mf_Rule_put : PySem.W.isFn K (.ref g_Rule_put) = true)
    (mp_Rule_conditions : PySem.W.findIn K (.ref C_Rule) "conditions" = some (some (.ref p_Rule_conditions))) (mg_Rule_conditions : PySem.W.specialIn K (.ref p_Rule_conditions) "__get__" = some (some (.builtin "property.__get__"))) (mt_Rule_conditions : PySem.W.takesIn K (.ref p_Rule_conditions) = some true) (mr_Rule_conditions : PySem.W.recIn K p_Rule_conditions "property" = some (.ref g_Rule_conditions :: rest_Rule_conditions))
    (ml_Rule_conditions : K.lookup g_Rule_conditions = some ⟨moc_Rule_conditions, mod_Rule_conditions, .func (PySem.W.fnOf "conditions" "Rule.conditions" (defArgs s_Rule_conditions) (defBody s_Rule_conditions) (defScope s_Rule_conditions) .none mkV_Rule_conditions mdc_Rule_conditions mpm_Rule_conditions man_Rule_conditions mcd_Rule_conditions mct_Rule_conditions), msl_Rule_conditions⟩)
    (mc_Rule_conditions : PySem.W.codeIn K mcd_Rule_conditions "Rule.conditions" = true) (mk_Rule_conditions : PySem.W.keepIn K (.ref g_Rule_conditions) = true) (mf_Rule_conditions : PySem.W.isFn K (.ref g_Rule_conditions) = true)
    (ma_Rule_eq : PySem.W.findIn K (.ref C_Rule) "__eq__" = some (some (.ref g_Rule_eq)))
    (ml_Rule_eq : K.lookup g_Rule_eq = some ⟨moc_Rule_eq, mod_Rule_eq, .func (PySem.W.fnOf "__eq__" "Rule.__eq__" (defArgs s_Rule_eq) (defBody s_Rule_eq) (defScope s_Rule_eq) .none mkV_Rule_eq mdc_Rule_eq mpm_Rule_eq man_Rule_eq mcd_Rule_eq mct_Rule_eq), msl_Rule_eq⟩)
    (mc_Rule_eq : PySem.W.codeIn K mcd_Rule_eq "Rule.__eq__" = true) (mk_Rule_eq : PySem.W.keepIn K (.ref g_Rule_eq) = true) (mf_Rule_eq : PySem.W.isFn K (.ref g_Rule_eq) = true)
    (ne_Rule : PySem.W.findIn K (.ref C_Rule) "__ne__" = some (some (.builtin "object.__ne__")))
    (nf_Rule_ending : PySem.W.findIn K (.ref C_Rule) "_ending" = some none)
    (nf_Rule_put : PySem.W.findIn K (.ref C_Rule) "_put" = some none)
    (nf_Rule_conditions : PySem.W.findIn K (.ref C_Rule) "_conditions" = some none)
    (kd_Rule_conditions : PySem.W.nsIn K D_Rule_init "conditions" = some (some (.ref e_Rule_conditions))) (ke_Rule_conditions : K.lookup e_Rule_conditions = some ⟨.type "tuple", ed_Rule_conditions, .seq #[] en_Rule_conditions, es_Rule_conditions⟩)
    (pg_Step : PySem.W.plainGet K C_Step Str.empty = true) (hd_Step : PySem.W.hasDictIn K C_Step = true) (po_Step : PySem.W.plainOver K C_Step = true) (sa_Step : PySem.W.findIn K (.ref C_Step) "__setattr__" = some (some (.builtin "object.__setattr__"))) (ma_Step : PySem.W.makesIn K C_Step = true) (kC_Step : PySem.W.keepIn K (.ref C_Step) = true)
    (ha_Step : PySem.W.findIn K (.ref C_Step) "__class__" = some (some (.builtin "object.__class__"))) (hm_Step : PySem.W.mroIn K C_Step (.type "object") = some true) (iC_Step : PySem.W.isClsIn K C_Step = true) (tC_Step : PySem.W.typeIn K (.ref C_Step) = some (.type "type"))
    (so_Step_Rule : PySem.W.subIn K (.ref C_Step) (.ref C_Rule) = some false)
    (so_Step_Step : PySem.W.subIn K (.ref C_Step) (.ref C_Step) = some true)
    (ma_Step_init : PySem.W.findIn K (.ref C_Step) "__init__" = some (some (.ref g_Step_init)))
    (ml_Step_init : K.lookup g_Step_init = some ⟨moc_Step_init, mod_Step_init, .func (PySem.W.fnOf "__init__" "Step.__init__" (defArgs s_Step_init) (defBody s_Step_init) (defScope s_Step_init) .none (.ref D_Step_init) mdc_Step_init mpm_Step_init man_Step_init mcd_Step_init mct_Step_init), msl_Step_init⟩)
    (mc_Step_init : PySem.W.codeIn K mcd_Step_init "Step.__init__" = true) (mk_Step_init : PySem.W.keepIn K (.ref g_Step_init) = true) (mf_Step_init : PySem.W.isFn K (.ref g_Step_init) = true)
    (mp_Step_rules : PySem.W.findIn K (.ref C_Step) "rules" = some (some (.ref p_Step_rules))) (mg_Step_rules : PySem.W.specialIn K (.ref p_Step_rules) "__get__" = some (some (.builtin "property.__get__"))) (mt_Step_rules : PySem.W.takesIn K (.ref p_Step_rules) = some true) (mr_Step_rules : PySem.W.recIn K p_Step_rules "property" = some (.ref g_Step_rules :: rest_Step_rules))
    (ml_Step_rules : K.lookup g_Step_rules = some ⟨moc_Step_rules, mod_Step_rules, .func (PySem.W.fnOf "rules" "Step.rules" (defArgs s_Step_rules) (defBody s_Step_rules) (defScope s_Step_rules) .none mkV_Step_rules mdc_Step_rules mpm_Step_rules man_Step_rules mcd_Step_rules mct_Step_rules), msl_Step_rules⟩)
    (mc_Step_rules : PySem.W.codeIn K mcd_Step_rules "Step.rules" = true) (mk_Step_rules : PySem.W.keepIn K (.ref g_Step_rules) = true) (mf_Step_rules : PySem.W.isFn K (.ref g_Step_rules) = true)
    (mp_Step_mode : PySem.W.findIn K (.ref C_Step) "mode" = some (some (.ref p_Step_mode))) (mg_Step_mode : PySem.W.specialIn K (.ref p_Step_mode) "__get__" = some (some (.builtin "property.__get__"))) (mt_Step_mode : PySem.W.takesIn K (.ref p_Step_mode) = some true) (mr_Step_mode : PySem.W.recIn K p_Step_mode "property" = some (.ref g_Step_mode :: rest_Step_mode))
    (ml_Step_mode : K.lookup g_Step_mode = some ⟨moc_Step_mode, mod_Step_mode, .func (PySem.W.fnOf "mode" "Step.mode" (defArgs s_Step_mode) (defBody s_Step_mode) (defScope s_Step_mode) .none mkV_Step_mode mdc_Step_mode mpm_Step_mode man_Step_mode mcd_Step_mode mct_Step_mode), msl_Step_mode⟩)
    (mc_Step_mode : PySem.W.codeIn K mcd_Step_mode "Step.mode" = true) (mk_Step_mode : PySem.W.keepIn K (.ref g_Step_mode) = true) (mf_Step_mode : PySem.W.isFn K (.ref g_Step_mode) = true)
    (ma_Step_eq : PySem.W.findIn K (.ref C_Step) "__eq__" = some (some (.ref g_Step_eq)))
    (ml_Step_eq : K.lookup g_Step_eq = some ⟨moc_Step_eq, mod_Step_eq, .func (PySem.W.fnOf "__eq__" "Step.__eq__" (defArgs s_Step_eq) (defBody s_Step_eq) (defScope s_Step_eq) .none mkV_Step_eq mdc_Step_eq mpm_Step_eq man_Step_eq mcd_Step_eq mct_Step_eq), msl_Step_eq⟩)
    (mc_Step_eq : PySem.W.codeIn K mcd_Step_eq "Step.__eq__" = true) (mk_Step_eq : PySem.W.keepIn K (.ref g_Step_eq) = true) (mf_Step_eq : PySem.W.isFn K (.ref g_Step_eq) = true)
    (ne_Step : PySem.W.findIn K (.ref C_Step) "__ne__" = some (some (.builtin "object.__ne__")))
    (nf_Step_rules : PySem.W.findIn K (.ref C_Step) "_rules" = some none)
    (nf_Step_mode : PySem.W.findIn K (.ref C_Step) "_mode" = some none)
    (kd_Step_mode : PySem.W.nsIn K D_Step_init "mode" = some (some (.str "longest" kt_Step_mode)))
    (hnG : PySem.W.specialIn K (.builtin "object.__class__") "__get__" = some (some (.builtin "getset_descriptor.__get__"))) (htG : PySem.W.takesIn K (.builtin "object.__class__") = some true) :
    ∃ fd : FuncData, (∀ (s : Shared) (v : Value), BindsTo s fd ⟨[v], []⟩ [("script", v)]) ∧ ∀ base : Heap, K.In base → base.Ns mainGlobals mg → FnG l.prog w K mg base 14 fa fd ["script"] (spLaw K) := by
  have FD_Rule : FunD K "__init__" "Rule.__init__" (defArgs s_Rule_init) (defBody s_Rule_init) (defScope s_Rule_init) [] [("conditions", .ref e_Rule_conditions)] g_Rule_init _ := ⟨⟨_, _, _, _, _, _, _, _, _, _, rfl, ml_Rule_init, mc_Rule_init, .inl ⟨rfl, rfl⟩, .inr ⟨_, rfl, fun q hq => by
      rw [List.mem_singleton.mp hq]
      exact ⟨_, kd_Rule_conditions, rfl⟩⟩⟩, mk_Rule_init⟩
  obtain ⟨ds_Rule, vd_Rule, bd_Rule⟩ := FD_Rule.binds0 (ps := ["self", "ending", "put", "conditions"]) 3 (by intro z; cases z) rfl fun D doc pm an cdv ct us ks h1 h2 => match us, h1, ks, h2 with | [_, _, _], _, [_], _ => ⟨_, _, _, _, _, _, rfl, rfl, rfl⟩
  have FD_Step : FunD K "__init__" "Step.__init__" (defArgs s_Step_init) (defBody s_Step_init) (defScope s_Step_init) [] [("mode", .str "longest")] g_Step_init _ := ⟨⟨_, _, _, _, _, _, _, _, _, _, rfl, ml_Step_init, mc_Step_init, .inl ⟨rfl, rfl⟩, .inr ⟨_, rfl, fun q hq => by
      rw [List.mem_singleton.mp hq]
      exact ⟨_, kd_Step_mode, ⟨_, rfl⟩⟩⟩⟩, mk_Step_init⟩
  obtain ⟨ds_Step, vd_Step, bd_Step⟩ := FD_Step.binds0 (ps := ["self", "rules", "mode"]) 2 (by intro z; cases z) rfl fun D doc pm an cdv ct us ks h1 h2 => match us, h1, ks, h2 with | [_, _], _, [_], _ => ⟨_, _, _, _, _, _, rfl, rfl, rfl⟩
  cases hfa.symm.trans (PySem.W.mg_of X G a_law)
  let T : Txt K mg := {
    kb_Step_init_1_mode := (fun_mk (st := s_Step_init) ml_Step_init mc_Step_init mk_Step_init).kbn fun _ _ _ _ _ _ us ws h1 h2 => match us, h1, ws, h2 with | [_, _], _, [_], _ => rfl
    kb_Rule_init_2_conditions := (fun_mk (st := s_Rule_init) ml_Rule_init mc_Rule_init mk_Rule_init).kbn fun _ _ _ _ _ _ us ws h1 h2 => match us, h1, ws, h2 with | [_, _, _], _, [_], _ => rfl
    dD_Rule := ds_Rule
    vD_Rule := vd_Rule
    bD_Rule := bd_Rule
    kb_Rule_init_0_ending_put_conditions := (fun_mk (st := s_Rule_init) ml_Rule_init mc_Rule_init mk_Rule_init).kbn fun _ _ _ _ _ _ us ws h1 h2 => match us, h1, ws, h2 with | [_], _, [_, _, _], _ => rfl
    kb_Step_init_0_rules_mode := (fun_mk (st := s_Step_init) ml_Step_init mc_Step_init mk_Step_init).kbn fun _ _ _ _ _ _ us ws h1 h2 => match us, h1, ws, h2 with | [_], _, [_, _], _ => rfl
    dD_Step := ds_Step
    vD_Step := vd_Step
    bD_Step := bd_Step
    C_Rule := C_Rule
    mc_Rule := PySem.W.mg_of X G aC_Rule
    cl_Rule := ⟨pg_Rule, hd_Rule, po_Rule, sa_Rule⟩
    in_Rule := { cl := ⟨pg_Rule, hd_Rule, po_Rule, sa_Rule⟩, ha := ha_Rule, hn := hnG, htk := htG, hm := hm_Rule, me := kit_self }
    ki_Rule := iC_Rule
    kt_Rule := tC_Rule
    aM_Rule_init := g_Rule_init
    fdM_Rule_init := _
    FM_Rule_init := fun_mk (st := s_Rule_init) ml_Rule_init mc_Rule_init mk_Rule_init
    aM_Rule_ending := g_Rule_ending
    fdM_Rule_ending := _
    FM_Rule_ending := fun_mk (st := s_Rule_ending) ml_Rule_ending mc_Rule_ending mk_Rule_ending
    bM_Rule_ending := (fun_mk (st := s_Rule_ending) ml_Rule_ending mc_Rule_ending mk_Rule_ending).binds (ps := ["self"]) fun _ _ _ _ _ _ us hl => match us, hl with | [_], _ => rfl
    pr_Rule_ending := p_Rule_ending
    pp_Rule_ending := ⟨mp_Rule_ending, mg_Rule_ending, mt_Rule_ending, ⟨_, mr_Rule_ending⟩⟩
    aM_Rule_put := g_Rule_put
    fdM_Rule_put := _
    FM_Rule_put := fun_mk (st := s_Rule_put) ml_Rule_put mc_Rule_put mk_Rule_put
    bM_Rule_put := (fun_mk (st := s_Rule_put) ml_Rule_put mc_Rule_put mk_Rule_put).binds (ps := ["self"]) fun _ _ _ _ _ _ us hl => match us, hl with | [_], _ => rfl
    pr_Rule_put := p_Rule_put
    pp_Rule_put := ⟨mp_Rule_put, mg_Rule_put, mt_Rule_put, ⟨_, mr_Rule_put⟩⟩
    aM_Rule_conditions := g_Rule_conditions
    fdM_Rule_conditions := _
    FM_Rule_conditions := fun_mk (st := s_Rule_conditions) ml_Rule_conditions mc_Rule_conditions mk_Rule_conditions
    bM_Rule_conditions := (fun_mk (st := s_Rule_conditions) ml_Rule_conditions mc_Rule_conditions mk_Rule_conditions).binds (ps := ["self"]) fun _ _ _ _ _ _ us hl => match us, hl with | [_], _ => rfl
    pr_Rule_conditions := p_Rule_conditions
    pp_Rule_conditions := ⟨mp_Rule_conditions, mg_Rule_conditions, mt_Rule_conditions, ⟨_, mr_Rule_conditions⟩⟩
    aM_Rule_eq := g_Rule_eq
    fdM_Rule_eq := _
    FM_Rule_eq := fun_mk (st := s_Rule_eq) ml_Rule_eq mc_Rule_eq mk_Rule_eq
    bM_Rule_eq := (fun_mk (st := s_Rule_eq) ml_Rule_eq mc_Rule_eq mk_Rule_eq).binds (ps := ["self", "other"]) fun _ _ _ _ _ _ us hl => match us, hl with | [_, _], _ => rfl
    ow_Rule := ⟨ma_Rule_eq, ne_Rule, mf_Rule_eq, hm_Rule⟩
    mk_Rule := ⟨ma_Rule, ma_Rule_init, mf_Rule_init, kC_Rule⟩
    n_Rule_ending := nf_Rule_ending
    n_Rule_put := nf_Rule_put
    n_Rule_conditions := nf_Rule_conditions
    e_Rule_conditions := e_Rule_conditions
    te_Rule_conditions := fun H => .inr ⟨_, #[], _, ke_Rule_conditions, rfl, rfl, by decide, .nil⟩
    ko_Rule_Rule := so_Rule_Rule
    ko_Rule_Step := so_Rule_Step
    C_Step := C_Step
    mc_Step := PySem.W.mg_of X G aC_Step
    cl_Step := ⟨pg_Step, hd_Step, po_Step, sa_Step⟩
    in_Step := { cl := ⟨pg_Step, hd_Step, po_Step, sa_Step⟩, ha := ha_Step, hn := hnG, htk := htG, hm := hm_Step, me := kit_self }
    ki_Step := iC_Step
    kt_Step := tC_Step
    aM_Step_init := g_Step_init
    fdM_Step_init := _
    FM_Step_init := fun_mk (st := s_Step_init) ml_Step_init mc_Step_init mk_Step_init
    aM_Step_rules := g_Step_rules
    fdM_Step_rules := _
    FM_Step_rules := fun_mk (st := s_Step_rules) ml_Step_rules mc_Step_rules mk_Step_rules
    bM_Step_rules := (fun_mk (st := s_Step_rules) ml_Step_rules mc_Step_rules mk_Step_rules).binds (ps := ["self"]) fun _ _ _ _ _ _ us hl => match us, hl with | [_], _ => rfl
    pr_Step_rules := p_Step_rules
    pp_Step_rules := ⟨mp_Step_rules, mg_Step_rules, mt_Step_rules, ⟨_, mr_Step_rules⟩⟩
    aM_Step_mode := g_Step_mode
    fdM_Step_mode := _
    FM_Step_mode := fun_mk (st := s_Step_mode) ml_Step_mode mc_Step_mode mk_Step_mode
    bM_Step_mode := (fun_mk (st := s_Step_mode) ml_Step_mode mc_Step_mode mk_Step_mode).binds (ps := ["self"]) fun _ _ _ _ _ _ us hl => match us, hl with | [_], _ => rfl
    pr_Step_mode := p_Step_mode
    pp_Step_mode := ⟨mp_Step_mode, mg_Step_mode, mt_Step_mode, ⟨_, mr_Step_mode⟩⟩
    aM_Step_eq := g_Step_eq
    fdM_Step_eq := _
    FM_Step_eq := fun_mk (st := s_Step_eq) ml_Step_eq mc_Step_eq mk_Step_eq
    bM_Step_eq := (fun_mk (st := s_Step_eq) ml_Step_eq mc_Step_eq mk_Step_eq).binds (ps := ["self", "other"]) fun _ _ _ _ _ _ us hl => match us, hl with | [_, _], _ => rfl
    ow_Step := ⟨ma_Step_eq, ne_Step, mf_Step_eq, hm_Step⟩
    mk_Step := ⟨ma_Step, ma_Step_init, mf_Step_init, kC_Step⟩
    n_Step_rules := nf_Step_rules
    n_Step_mode := nf_Step_mode
    ko_Step_Rule := so_Step_Rule
    ko_Step_Step := so_Step_Step
    a_is_list := f_is_list
    fd_is_list := _
    F_is_list := fun_mk (st := s_is_list) l_is_list c_is_list k_is_list
    m_is_list := PySem.W.mg_of X G a_is_list
    b_is_list := (fun_mk (st := s_is_list) l_is_list c_is_list k_is_list).binds (ps := ["thing"]) fun _ _ _ _ _ _ us hl => match us, hl with | [_], _ => rfl
    a_is_number := f_is_number
    fd_is_number := _
    F_is_number := fun_mk (st := s_is_number) l_is_number c_is_number k_is_number
    m_is_number := PySem.W.mg_of X G a_is_number
    b_is_number := (fun_mk (st := s_is_number) l_is_number c_is_number k_is_number).binds (ps := ["thing"]) fun _ _ _ _ _ _ us hl => match us, hl with | [_], _ => rfl
    a_is_text_of := f_is_text_of
    fd_is_text_of := _
    F_is_text_of := fun_mk (st := s_is_text_of) l_is_text_of c_is_text_of k_is_text_of
    m_is_text_of := PySem.W.mg_of X G a_is_text_of
    b_is_text_of := (fun_mk (st := s_is_text_of) l_is_text_of c_is_text_of k_is_text_of).binds (ps := ["thing", "letters"]) fun _ _ _ _ _ _ us hl => match us, hl with | [_, _], _ => rfl
    a_is_word_of := f_is_word_of
    fd_is_word_of := _
    F_is_word_of := fun_mk (st := s_is_word_of) l_is_word_of c_is_word_of k_is_word_of
    m_is_word_of := PySem.W.mg_of X G a_is_word_of
    b_is_word_of := (fun_mk (st := s_is_word_of) l_is_word_of c_is_word_of k_is_word_of).binds (ps := ["thing", "letters"]) fun _ _ _ _ _ _ us hl => match us, hl with | [_, _], _ => rfl
    a_is_condition := f_is_condition
    fd_is_condition := _
    F_is_condition := fun_mk (st := s_is_condition) l_is_condition c_is_condition k_is_condition
    m_is_condition := PySem.W.mg_of X G a_is_condition
    b_is_condition := (fun_mk (st := s_is_condition) l_is_condition c_is_condition k_is_condition).binds (ps := ["thing"]) fun _ _ _ _ _ _ us hl => match us, hl with | [_], _ => rfl
    a_is_plain := f_is_plain
    fd_is_plain := _
    F_is_plain := fun_mk (st := s_is_plain) l_is_plain c_is_plain k_is_plain
    m_is_plain := PySem.W.mg_of X G a_is_plain
    b_is_plain := (fun_mk (st := s_is_plain) l_is_plain c_is_plain k_is_plain).binds (ps := ["thing"]) fun _ _ _ _ _ _ us hl => match us, hl with | [_], _ => rfl
    a_check_mode := f_check_mode
    fd_check_mode := _
    F_check_mode := fun_mk (st := s_check_mode) l_check_mode c_check_mode k_check_mode
    m_check_mode := PySem.W.mg_of X G a_check_mode
    b_check_mode := (fun_mk (st := s_check_mode) l_check_mode c_check_mode k_check_mode).binds (ps := ["mode"]) fun _ _ _ _ _ _ us hl => match us, hl with | [_], _ => rfl
    a_check_conditions := f_check_conditions
    fd_check_conditions := _
    F_check_conditions := fun_mk (st := s_check_conditions) l_check_conditions c_check_conditions k_check_conditions
    m_check_conditions := PySem.W.mg_of X G a_check_conditions
    b_check_conditions := (fun_mk (st := s_check_conditions) l_check_conditions c_check_conditions k_check_conditions).binds (ps := ["conditions"]) fun _ _ _ _ _ _ us hl => match us, hl with | [_], _ => rfl
    a_check_rules := f_check_rules
    fd_check_rules := _
    F_check_rules := fun_mk (st := s_check_rules) l_check_rules c_check_rules k_check_rules
    m_check_rules := PySem.W.mg_of X G a_check_rules
    b_check_rules := (fun_mk (st := s_check_rules) l_check_rules c_check_rules k_check_rules).binds (ps := ["rules"]) fun _ _ _ _ _ _ us hl => match us, hl with | [_], _ => rfl
    a_check_endings := f_check_endings
    fd_check_endings := _
    F_check_endings := fun_mk (st := s_check_endings) l_check_endings c_check_endings k_check_endings
    m_check_endings := PySem.W.mg_of X G a_check_endings
    b_check_endings := (fun_mk (st := s_check_endings) l_check_endings c_check_endings k_check_endings).binds (ps := ["rules"]) fun _ _ _ _ _ _ us hl => match us, hl with | [_], _ => rfl
    a_law_mixed := f_law_mixed
    fd_law_mixed := _
    F_law_mixed := fun_mk (st := s_law_mixed) l_law_mixed c_law_mixed k_law_mixed
    m_law_mixed := PySem.W.mg_of X G a_law_mixed
    b_law_mixed := (fun_mk (st := s_law_mixed) l_law_mixed c_law_mixed k_law_mixed).binds (ps := ["cell", "k"]) fun _ _ _ _ _ _ us hl => match us, hl with | [_, _], _ => rfl
    a_law_purse := f_law_purse
    fd_law_purse := _
    F_law_purse := fun_mk (st := s_law_purse) l_law_purse c_law_purse k_law_purse
    m_law_purse := PySem.W.mg_of X G a_law_purse
    b_law_purse := (fun_mk (st := s_law_purse) l_law_purse c_law_purse k_law_purse).binds (ps := ["cells", "at"]) fun _ _ _ _ _ _ us hl => match us, hl with | [_, _], _ => rfl
    a_law_draw := f_law_draw
    fd_law_draw := _
    F_law_draw := fun_mk (st := s_law_draw) l_law_draw c_law_draw k_law_draw
    m_law_draw := PySem.W.mg_of X G a_law_draw
    b_law_draw := (fun_mk (st := s_law_draw) l_law_draw c_law_draw k_law_draw).binds (ps := ["purse", "out_of"]) fun _ _ _ _ _ _ us hl => match us, hl with | [_, _], _ => rfl
    a_law_letters := f_law_letters
    fd_law_letters := _
    F_law_letters := fun_mk (st := s_law_letters) l_law_letters c_law_letters k_law_letters
    m_law_letters := PySem.W.mg_of X G a_law_letters
    b_law_letters := (fun_mk (st := s_law_letters) l_law_letters c_law_letters k_law_letters).binds (ps := ["purse"]) fun _ _ _ _ _ _ us hl => match us, hl with | [_], _ => rfl
    a_law_text := f_law_text
    fd_law_text := _
    F_law_text := fun_mk (st := s_law_text) l_law_text c_law_text k_law_text
    m_law_text := PySem.W.mg_of X G a_law_text
    b_law_text := (fun_mk (st := s_law_text) l_law_text c_law_text k_law_text).binds (ps := ["purse", "signs", "least", "top"]) fun _ _ _ _ _ _ us hl => match us, hl with | [_, _, _, _], _ => rfl
    a_law_condition := f_law_condition
    fd_law_condition := _
    F_law_condition := fun_mk (st := s_law_condition) l_law_condition c_law_condition k_law_condition
    m_law_condition := PySem.W.mg_of X G a_law_condition
    b_law_condition := (fun_mk (st := s_law_condition) l_law_condition c_law_condition k_law_condition).binds (ps := ["purse", "signs"]) fun _ _ _ _ _ _ us hl => match us, hl with | [_, _], _ => rfl
    a_law_rule := f_law_rule
    fd_law_rule := _
    F_law_rule := fun_mk (st := s_law_rule) l_law_rule c_law_rule k_law_rule
    m_law_rule := PySem.W.mg_of X G a_law_rule
    b_law_rule := (fun_mk (st := s_law_rule) l_law_rule c_law_rule k_law_rule).binds (ps := ["purse", "signs"]) fun _ _ _ _ _ _ us hl => match us, hl with | [_, _], _ => rfl
    a_law_step := f_law_step
    fd_law_step := _
    F_law_step := fun_mk (st := s_law_step) l_law_step c_law_step k_law_step
    m_law_step := PySem.W.mg_of X G a_law_step
    b_law_step := (fun_mk (st := s_law_step) l_law_step c_law_step k_law_step).binds (ps := ["purse", "signs", "top"]) fun _ _ _ _ _ _ us hl => match us, hl with | [_, _, _], _ => rfl
    a_law_made_step := f_law_made_step
    fd_law_made_step := _
    F_law_made_step := fun_mk (st := s_law_made_step) l_law_made_step c_law_made_step k_law_made_step
    m_law_made_step := PySem.W.mg_of X G a_law_made_step
    b_law_made_step := (fun_mk (st := s_law_made_step) l_law_made_step c_law_made_step k_law_made_step).binds (ps := ["raw"]) fun _ _ _ _ _ _ us hl => match us, hl with | [_], _ => rfl
    a_law_asked := f_law_asked
    fd_law_asked := _
    F_law_asked := fun_mk (st := s_law_asked) l_law_asked c_law_asked k_law_asked
    m_law_asked := PySem.W.mg_of X G a_law_asked
    b_law_asked := (fun_mk (st := s_law_asked) l_law_asked c_law_asked k_law_asked).binds (ps := ["kind", "some"]) fun _ _ _ _ _ _ us hl => match us, hl with | [_, _], _ => rfl
    a_law_caught := f_law_caught
    fd_law_caught := _
    F_law_caught := fun_mk (st := s_law_caught) l_law_caught c_law_caught k_law_caught
    m_law_caught := PySem.W.mg_of X G a_law_caught
    b_law_caught := (fun_mk (st := s_law_caught) l_law_caught c_law_caught k_law_caught).binds (ps := ["kind", "some"]) fun _ _ _ _ _ _ us hl => match us, hl with | [_, _], _ => rfl
    a_law_doors_right := f_law_doors_right
    fd_law_doors_right := _
    F_law_doors_right := fun_mk (st := s_law_doors_right) l_law_doors_right c_law_doors_right k_law_doors_right
    m_law_doors_right := PySem.W.mg_of X G a_law_doors_right
    b_law_doors_right := (fun_mk (st := s_law_doors_right) l_law_doors_right c_law_doors_right k_law_doors_right).binds (ps := ["purse"]) fun _ _ _ _ _ _ us hl => match us, hl with | [_], _ => rfl
    a_law_right := f_law_right
    fd_law_right := _
    F_law_right := fun_mk (st := s_law_right) l_law_right c_law_right k_law_right
    m_law_right := PySem.W.mg_of X G a_law_right
    b_law_right := (fun_mk (st := s_law_right) l_law_right c_law_right k_law_right).binds (ps := ["purse"]) fun _ _ _ _ _ _ us hl => match us, hl with | [_], _ => rfl
    a_law := fa
    fd_law := _
    F_law := fun_mk (st := s_law) l_law c_law k_law
    m_law := PySem.W.mg_of X G a_law
    b_law := (fun_mk (st := s_law) l_law c_law k_law).binds (ps := ["script"]) fun _ _ _ _ _ _ us hl => match us, hl with | [_], _ => rfl
    c_ALPHABET := ⟨_, PySem.W.mg_of X G tc_ALPHABET, ⟨_, rfl⟩⟩
    z_AttributeError := PySem.W.mg_none_of X G z_AttributeError
    z_all := PySem.W.mg_none_of X G z_all
    z_bool := PySem.W.mg_none_of X G z_bool
    z_enumerate := PySem.W.mg_none_of X G z_enumerate
    z_int := PySem.W.mg_none_of X G z_int
    z_isinstance := PySem.W.mg_none_of X G z_isinstance
    z_len := PySem.W.mg_none_of X G z_len
    z_list := PySem.W.mg_none_of X G z_list
    z_max := PySem.W.mg_none_of X G z_max
    z_min := PySem.W.mg_none_of X G z_min
    z_property := PySem.W.mg_none_of X G z_property
    z_range := PySem.W.mg_none_of X G z_range
    z_set := PySem.W.mg_none_of X G z_set
    z_str := PySem.W.mg_none_of X G z_str
    z_tuple := PySem.W.mg_none_of X G z_tuple
    C_StemError := C_StemError
    mc_StemError := PySem.W.mg_of X G aC_StemError
    C_InvalidText := C_InvalidText
    mc_InvalidText := PySem.W.mg_of X G aC_InvalidText
    x_InvalidText := { cls := ⟨_, _, _, _, _, _, _, _, _, _, _, _, _, _, _, x_InvalidText, rfl⟩, sa := sa_InvalidText, exC := eC_InvalidText, tyC := tC_InvalidText, kC := kC_InvalidText }
    xf_InvalidText := { ga := ga_InvalidText, gg := gg_InvalidText, exC := eC_InvalidText, hdC := hC_InvalidText }
    aI_InvalidText := g_InvalidText
    fdI_InvalidText := _
    FI_InvalidText := fun_mk (st := s_InvalidText_init) il_InvalidText ic_InvalidText ik_InvalidText
    bI_InvalidText := (fun_mk (st := s_InvalidText_init) il_InvalidText ic_InvalidText ik_InvalidText).binds (ps := ["self", "thing"]) fun _ _ _ _ _ _ us hl => match us, hl with | [_, _], _ => rfl
    i_InvalidText := i_InvalidText
    t_InvalidText := t_InvalidText
    n_InvalidText_thing := n_InvalidText_thing
    C_InvalidConditions := C_InvalidConditions
    mc_InvalidConditions := PySem.W.mg_of X G aC_InvalidConditions
    x_InvalidConditions := { cls := ⟨_, _, _, _, _, _, _, _, _, _, _, _, _, _, _, x_InvalidConditions, rfl⟩, sa := sa_InvalidConditions, exC := eC_InvalidConditions, tyC := tC_InvalidConditions, kC := kC_InvalidConditions }
    xf_InvalidConditions := { ga := ga_InvalidConditions, gg := gg_InvalidConditions, exC := eC_InvalidConditions, hdC := hC_InvalidConditions }
    aI_InvalidConditions := g_InvalidConditions
    fdI_InvalidConditions := _
    FI_InvalidConditions := fun_mk (st := s_InvalidConditions_init) il_InvalidConditions ic_InvalidConditions ik_InvalidConditions
    bI_InvalidConditions := (fun_mk (st := s_InvalidConditions_init) il_InvalidConditions ic_InvalidConditions ik_InvalidConditions).binds (ps := ["self", "place"]) fun _ _ _ _ _ _ us hl => match us, hl with | [_, _], _ => rfl
    i_InvalidConditions := i_InvalidConditions
    t_InvalidConditions := t_InvalidConditions
    n_InvalidConditions_place := n_InvalidConditions_place
    C_InvalidRules := C_InvalidRules
    mc_InvalidRules := PySem.W.mg_of X G aC_InvalidRules
    x_InvalidRules := { cls := ⟨_, _, _, _, _, _, _, _, _, _, _, _, _, _, _, x_InvalidRules, rfl⟩, sa := sa_InvalidRules, exC := eC_InvalidRules, tyC := tC_InvalidRules, kC := kC_InvalidRules }
    xf_InvalidRules := { ga := ga_InvalidRules, gg := gg_InvalidRules, exC := eC_InvalidRules, hdC := hC_InvalidRules }
    aI_InvalidRules := g_InvalidRules
    fdI_InvalidRules := _
    FI_InvalidRules := fun_mk (st := s_InvalidRules_init) il_InvalidRules ic_InvalidRules ik_InvalidRules
    bI_InvalidRules := (fun_mk (st := s_InvalidRules_init) il_InvalidRules ic_InvalidRules ik_InvalidRules).binds (ps := ["self", "place"]) fun _ _ _ _ _ _ us hl => match us, hl with | [_, _], _ => rfl
    i_InvalidRules := i_InvalidRules
    t_InvalidRules := t_InvalidRules
    n_InvalidRules_place := n_InvalidRules_place
    C_InvalidMode := C_InvalidMode
    mc_InvalidMode := PySem.W.mg_of X G aC_InvalidMode
    x_InvalidMode := { cls := ⟨_, _, _, _, _, _, _, _, _, _, _, _, _, _, _, x_InvalidMode, rfl⟩, sa := sa_InvalidMode, exC := eC_InvalidMode, tyC := tC_InvalidMode, kC := kC_InvalidMode }
    xf_InvalidMode := { ga := ga_InvalidMode, gg := gg_InvalidMode, exC := eC_InvalidMode, hdC := hC_InvalidMode }
    aI_InvalidMode := g_InvalidMode
    fdI_InvalidMode := _
    FI_InvalidMode := fun_mk (st := s_InvalidMode_init) il_InvalidMode ic_InvalidMode ik_InvalidMode
    bI_InvalidMode := (fun_mk (st := s_InvalidMode_init) il_InvalidMode ic_InvalidMode ik_InvalidMode).binds (ps := ["self", "thing"]) fun _ _ _ _ _ _ us hl => match us, hl with | [_, _], _ => rfl
    i_InvalidMode := i_InvalidMode
    t_InvalidMode := t_InvalidMode
    n_InvalidMode_thing := n_InvalidMode_thing
    C_SameEnding := C_SameEnding
    mc_SameEnding := PySem.W.mg_of X G aC_SameEnding
    x_SameEnding := { cls := ⟨_, _, _, _, _, _, _, _, _, _, _, _, _, _, _, x_SameEnding, rfl⟩, sa := sa_SameEnding, exC := eC_SameEnding, tyC := tC_SameEnding, kC := kC_SameEnding }
    xf_SameEnding := { ga := ga_SameEnding, gg := gg_SameEnding, exC := eC_SameEnding, hdC := hC_SameEnding }
    aI_SameEnding := g_SameEnding
    fdI_SameEnding := _
    FI_SameEnding := fun_mk (st := s_SameEnding_init) il_SameEnding ic_SameEnding ik_SameEnding
    bI_SameEnding := (fun_mk (st := s_SameEnding_init) il_SameEnding ic_SameEnding ik_SameEnding).binds (ps := ["self", "ending"]) fun _ _ _ _ _ _ us hl => match us, hl with | [_, _], _ => rfl
    i_SameEnding := i_SameEnding
    t_SameEnding := t_SameEnding
    n_SameEnding_ending := n_SameEnding_ending
    e_InvalidText_StemError := exm_of eC_StemError iC_StemError tC_StemError s_InvalidText_StemError
    e_InvalidText_InvalidText := exm_of eC_InvalidText iC_InvalidText tC_InvalidText s_InvalidText_InvalidText
    e_InvalidText_InvalidConditions := exm_of eC_InvalidConditions iC_InvalidConditions tC_InvalidConditions s_InvalidText_InvalidConditions
    e_InvalidText_InvalidRules := exm_of eC_InvalidRules iC_InvalidRules tC_InvalidRules s_InvalidText_InvalidRules
    e_InvalidText_InvalidMode := exm_of eC_InvalidMode iC_InvalidMode tC_InvalidMode s_InvalidText_InvalidMode
    e_InvalidText_SameEnding := exm_of eC_SameEnding iC_SameEnding tC_SameEnding s_InvalidText_SameEnding
    e_InvalidConditions_StemError := exm_of eC_StemError iC_StemError tC_StemError s_InvalidConditions_StemError
    e_InvalidConditions_InvalidText := exm_of eC_InvalidText iC_InvalidText tC_InvalidText s_InvalidConditions_InvalidText
    e_InvalidConditions_InvalidConditions := exm_of eC_InvalidConditions iC_InvalidConditions tC_InvalidConditions s_InvalidConditions_InvalidConditions
    e_InvalidConditions_InvalidRules := exm_of eC_InvalidRules iC_InvalidRules tC_InvalidRules s_InvalidConditions_InvalidRules
    e_InvalidConditions_InvalidMode := exm_of eC_InvalidMode iC_InvalidMode tC_InvalidMode s_InvalidConditions_InvalidMode
    e_InvalidConditions_SameEnding := exm_of eC_SameEnding iC_SameEnding tC_SameEnding s_InvalidConditions_SameEnding
    e_InvalidRules_StemError := exm_of eC_StemError iC_StemError tC_StemError s_InvalidRules_StemError
    e_InvalidRules_InvalidText := exm_of eC_InvalidText iC_InvalidText tC_InvalidText s_InvalidRules_InvalidText
    e_InvalidRules_InvalidConditions := exm_of eC_InvalidConditions iC_InvalidConditions tC_InvalidConditions s_InvalidRules_InvalidConditions
    e_InvalidRules_InvalidRules := exm_of eC_InvalidRules iC_InvalidRules tC_InvalidRules s_InvalidRules_InvalidRules
    e_InvalidRules_InvalidMode := exm_of eC_InvalidMode iC_InvalidMode tC_InvalidMode s_InvalidRules_InvalidMode
    e_InvalidRules_SameEnding := exm_of eC_SameEnding iC_SameEnding tC_SameEnding s_InvalidRules_SameEnding
    e_InvalidMode_StemError := exm_of eC_StemError iC_StemError tC_StemError s_InvalidMode_StemError
    e_InvalidMode_InvalidText := exm_of eC_InvalidText iC_InvalidText tC_InvalidText s_InvalidMode_InvalidText
    e_InvalidMode_InvalidConditions := exm_of eC_InvalidConditions iC_InvalidConditions tC_InvalidConditions s_InvalidMode_InvalidConditions
    e_InvalidMode_InvalidRules := exm_of eC_InvalidRules iC_InvalidRules tC_InvalidRules s_InvalidMode_InvalidRules
    e_InvalidMode_InvalidMode := exm_of eC_InvalidMode iC_InvalidMode tC_InvalidMode s_InvalidMode_InvalidMode
    e_InvalidMode_SameEnding := exm_of eC_SameEnding iC_SameEnding tC_SameEnding s_InvalidMode_SameEnding
    e_SameEnding_StemError := exm_of eC_StemError iC_StemError tC_StemError s_SameEnding_StemError
    e_SameEnding_InvalidText := exm_of eC_InvalidText iC_InvalidText tC_InvalidText s_SameEnding_InvalidText
    e_SameEnding_InvalidConditions := exm_of eC_InvalidConditions iC_InvalidConditions tC_InvalidConditions s_SameEnding_InvalidConditions
    e_SameEnding_InvalidRules := exm_of eC_InvalidRules iC_InvalidRules tC_InvalidRules s_SameEnding_InvalidRules
    e_SameEnding_InvalidMode := exm_of eC_InvalidMode iC_InvalidMode tC_InvalidMode s_SameEnding_InvalidMode
    e_SameEnding_SameEnding := exm_of eC_SameEnding iC_SameEnding tC_SameEnding s_SameEnding_SameEnding }
  exact ⟨T.fd_law, fun s v => .of_eq rfl, fun base _ _ => ok_law T⟩

end K02
open PySem PySem.W PyProof.Rows
set_option maxHeartbeats 0 in
theorem PySem.Challenge.cw_stemsteps_k02_rules_and_steps_holds : PySem.Challenge.rw_stemsteps_k02_rules_and_steps.Holds := by
  w_on; o_law; k_head; (case hw => w_witness2)
  k_fill
  refine L2.walk_ofG (l := PySem.Challenge.rw_stemsteps_k02_rules_and_steps) (n := 63) (k := 14) (x := "script") (sp := fun w => K02.spLaw _) rfl (by decide) rfl ⟨rfl, by decide, by decide⟩ (fun w h Y => PySem.W.kIn_of Y) ?F (fun _ _ a ns hl _ hS => ⟨a, ns, rfl, hS, hl, fun _ => rfl⟩)
  case F =>
    intro w mg fa h KX G hmg
    refine' K02.all_mk KX G hmg ?a_is_list ?l_is_list ?c_is_list ?k_is_list ?a_is_number ?l_is_number ?c_is_number ?k_is_number ?a_is_text_of ?l_is_text_of ?c_is_text_of ?k_is_text_of ?a_is_word_of ?l_is_word_of ?c_is_word_of ?k_is_word_of ?a_is_condition ?l_is_condition ?c_is_condition ?k_is_condition ?a_is_plain ?l_is_plain ?c_is_plain ?k_is_plain ?a_check_mode ?l_check_mode ?c_check_mode ?k_check_mode ?a_check_conditions ?l_check_conditions ?c_check_conditions ?k_check_conditions ?a_check_rules ?l_check_rules ?c_check_rules ?k_check_rules ?a_check_endings ?l_check_endings ?c_check_endings ?k_check_endings ?a_law_mixed ?l_law_mixed ?c_law_mixed ?k_law_mixed ?a_law_purse ?l_law_purse ?c_law_purse ?k_law_purse ?a_law_draw ?l_law_draw ?c_law_draw ?k_law_draw ?a_law_letters ?l_law_letters ?c_law_letters ?k_law_letters ?a_law_text ?l_law_text ?c_law_text ?k_law_text ?a_law_condition ?l_law_condition ?c_law_condition ?k_law_condition ?a_law_rule ?l_law_rule ?c_law_rule ?k_law_rule ?a_law_step ?l_law_step ?c_law_step ?k_law_step ?a_law_made_step ?l_law_made_step ?c_law_made_step ?k_law_made_step ?a_law_asked ?l_law_asked ?c_law_asked ?k_law_asked ?a_law_caught ?l_law_caught ?c_law_caught ?k_law_caught ?a_law_doors_right ?l_law_doors_right ?c_law_doors_right ?k_law_doors_right ?a_law_right ?l_law_right ?c_law_right ?k_law_right ?a_law ?l_law ?c_law ?k_law ?z_AttributeError ?z_all ?z_bool ?z_enumerate ?z_int ?z_isinstance ?z_len ?z_list ?z_max ?z_min ?z_property ?z_range ?z_set ?z_str ?z_tuple ?tc_ALPHABET ?aC_StemError ?eC_StemError ?tC_StemError ?iC_StemError ?aC_InvalidText ?eC_InvalidText ?tC_InvalidText ?iC_InvalidText ?x_InvalidText ?sa_InvalidText ?ga_InvalidText ?gg_InvalidText ?i_InvalidText ?t_InvalidText ?il_InvalidText ?ic_InvalidText ?ik_InvalidText ?kC_InvalidText ?hC_InvalidText ?n_InvalidText_thing ?aC_InvalidConditions ?eC_InvalidConditions ?tC_InvalidConditions ?iC_InvalidConditions ?x_InvalidConditions ?sa_InvalidConditions ?ga_InvalidConditions ?gg_InvalidConditions ?i_InvalidConditions ?t_InvalidConditions ?il_InvalidConditions ?ic_InvalidConditions ?ik_InvalidConditions ?kC_InvalidConditions ?hC_InvalidConditions ?n_InvalidConditions_place ?aC_InvalidRules ?eC_InvalidRules ?tC_InvalidRules ?iC_InvalidRules ?x_InvalidRules ?sa_InvalidRules ?ga_InvalidRules ?gg_InvalidRules ?i_InvalidRules ?t_InvalidRules ?il_InvalidRules ?ic_InvalidRules ?ik_InvalidRules ?kC_InvalidRules ?hC_InvalidRules ?n_InvalidRules_place ?aC_InvalidMode ?eC_InvalidMode ?tC_InvalidMode ?iC_InvalidMode ?x_InvalidMode ?sa_InvalidMode ?ga_InvalidMode ?gg_InvalidMode ?i_InvalidMode ?t_InvalidMode ?il_InvalidMode ?ic_InvalidMode ?ik_InvalidMode ?kC_InvalidMode ?hC_InvalidMode ?n_InvalidMode_thing ?aC_SameEnding ?eC_SameEnding ?tC_SameEnding ?iC_SameEnding ?x_SameEnding ?sa_SameEnding ?ga_SameEnding ?gg_SameEnding ?i_SameEnding ?t_SameEnding ?il_SameEnding ?ic_SameEnding ?ik_SameEnding ?kC_SameEnding ?hC_SameEnding ?n_SameEnding_ending ?s_InvalidText_StemError ?s_InvalidText_InvalidText ?s_InvalidText_InvalidConditions ?s_InvalidText_InvalidRules ?s_InvalidText_InvalidMode ?s_InvalidText_SameEnding ?s_InvalidConditions_StemError ?s_InvalidConditions_InvalidText ?s_InvalidConditions_InvalidConditions ?s_InvalidConditions_InvalidRules ?s_InvalidConditions_InvalidMode ?s_InvalidConditions_SameEnding ?s_InvalidRules_StemError ?s_InvalidRules_InvalidText ?s_InvalidRules_InvalidConditions ?s_InvalidRules_InvalidRules ?s_InvalidRules_InvalidMode ?s_InvalidRules_SameEnding ?s_InvalidMode_StemError ?s_InvalidMode_InvalidText ?s_InvalidMode_InvalidConditions ?s_InvalidMode_InvalidRules ?s_InvalidMode_InvalidMode ?s_InvalidMode_SameEnding ?s_SameEnding_StemError ?s_SameEnding_InvalidText ?s_SameEnding_InvalidConditions ?s_SameEnding_InvalidRules ?s_SameEnding_InvalidMode ?s_SameEnding_SameEnding ?aC_Rule ?aC_Step ?pg_Rule ?hd_Rule ?po_Rule ?sa_Rule ?ma_Rule ?kC_Rule ?ha_Rule ?hm_Rule ?iC_Rule ?tC_Rule ?so_Rule_Rule ?so_Rule_Step ?ma_Rule_init ?ml_Rule_init ?mc_Rule_init ?mk_Rule_init ?mf_Rule_init ?mp_Rule_ending ?mg_Rule_ending ?mt_Rule_ending ?mr_Rule_ending ?ml_Rule_ending ?mc_Rule_ending ?mk_Rule_ending ?mf_Rule_ending ?mp_Rule_put ?mg_Rule_put ?mt_Rule_put ?mr_Rule_put ?ml_Rule_put ?mc_Rule_put ?mk_Rule_put ?mf_Rule_put ?mp_Rule_conditions ?mg_Rule_conditions ?mt_Rule_conditions ?mr_Rule_conditions ?ml_Rule_conditions ?mc_Rule_conditions ?mk_Rule_conditions ?mf_Rule_conditions ?ma_Rule_eq ?ml_Rule_eq ?mc_Rule_eq ?mk_Rule_eq ?mf_Rule_eq ?ne_Rule ?nf_Rule_ending ?nf_Rule_put ?nf_Rule_conditions ?kd_Rule_conditions ?ke_Rule_conditions ?pg_Step ?hd_Step ?po_Step ?sa_Step ?ma_Step ?kC_Step ?ha_Step ?hm_Step ?iC_Step ?tC_Step ?so_Step_Rule ?so_Step_Step ?ma_Step_init ?ml_Step_init ?mc_Step_init ?mk_Step_init ?mf_Step_init ?mp_Step_rules ?mg_Step_rules ?mt_Step_rules ?mr_Step_rules ?ml_Step_rules ?mc_Step_rules ?mk_Step_rules ?mf_Step_rules ?mp_Step_mode ?mg_Step_mode ?mt_Step_mode ?mr_Step_mode ?ml_Step_mode ?mc_Step_mode ?mk_Step_mode ?mf_Step_mode ?ma_Step_eq ?ml_Step_eq ?mc_Step_eq ?mk_Step_eq ?mf_Step_eq ?ne_Step ?nf_Step_rules ?nf_Step_mode ?kd_Step_mode ?hnG ?htG
    (case a_is_list => k_is)
    (case l_is_list => k_is)
    (case c_is_list => k_is)
    (case k_is_list => k_is)
    (case a_is_number => k_is)
    (case l_is_number => k_is)
    (case c_is_number => k_is)
    (case k_is_number => k_is)
    (case a_is_text_of => k_is)
    (case l_is_text_of => k_is)
    (case c_is_text_of => k_is)
    (case k_is_text_of => k_is)
    (case a_is_word_of => k_is)
    (case l_is_word_of => k_is)
    (case c_is_word_of => k_is)
    (case k_is_word_of => k_is)
    (case a_is_condition => k_is)
    (case l_is_condition => k_is)
    (case c_is_condition => k_is)
    (case k_is_condition => k_is)
    (case a_is_plain => k_is)
    (case l_is_plain => k_is)
    (case c_is_plain => k_is)
    (case k_is_plain => k_is)
    (case a_check_mode => k_is)
    (case l_check_mode => k_is)
    (case c_check_mode => k_is)
    (case k_check_mode => k_is)
    (case a_check_conditions => k_is)
    (case l_check_conditions => k_is)
    (case c_check_conditions => k_is)
    (case k_check_conditions => k_is)
    (case a_check_rules => k_is)
    (case l_check_rules => k_is)
    (case c_check_rules => k_is)
    (case k_check_rules => k_is)
    (case a_check_endings => k_is)
    (case l_check_endings => k_is)
    (case c_check_endings => k_is)
    (case k_check_endings => k_is)
    (case a_law_mixed => k_is)
    (case l_law_mixed => k_is)
    (case c_law_mixed => k_is)
    (case k_law_mixed => k_is)
    (case a_law_purse => k_is)
    (case l_law_purse => k_is)
    (case c_law_purse => k_is)
    (case k_law_purse => k_is)
    (case a_law_draw => k_is)
    (case l_law_draw => k_is)
    (case c_law_draw => k_is)
    (case k_law_draw => k_is)
    (case a_law_letters => k_is)
    (case l_law_letters => k_is)
    (case c_law_letters => k_is)
    (case k_law_letters => k_is)
    (case a_law_text => k_is)
    (case l_law_text => k_is)
    (case c_law_text => k_is)
    (case k_law_text => k_is)
    (case a_law_condition => k_is)
    (case l_law_condition => k_is)
    (case c_law_condition => k_is)
    (case k_law_condition => k_is)
    (case a_law_rule => k_is)
    (case l_law_rule => k_is)
    (case c_law_rule => k_is)
    (case k_law_rule => k_is)
    (case a_law_step => k_is)
    (case l_law_step => k_is)
    (case c_law_step => k_is)
    (case k_law_step => k_is)
    (case a_law_made_step => k_is)
    (case l_law_made_step => k_is)
    (case c_law_made_step => k_is)
    (case k_law_made_step => k_is)
    (case a_law_asked => k_is)
    (case l_law_asked => k_is)
    (case c_law_asked => k_is)
    (case k_law_asked => k_is)
    (case a_law_caught => k_is)
    (case l_law_caught => k_is)
    (case c_law_caught => k_is)
    (case k_law_caught => k_is)
    (case a_law_doors_right => k_is)
    (case l_law_doors_right => k_is)
    (case c_law_doors_right => k_is)
    (case k_law_doors_right => k_is)
    (case a_law_right => k_is)
    (case l_law_right => k_is)
    (case c_law_right => k_is)
    (case k_law_right => k_is)
    (case a_law => k_is)
    (case l_law => k_is)
    (case c_law => k_is)
    (case k_law => k_is)
    (case z_AttributeError => k_is)
    (case z_all => k_is)
    (case z_bool => k_is)
    (case z_enumerate => k_is)
    (case z_int => k_is)
    (case z_isinstance => k_is)
    (case z_len => k_is)
    (case z_list => k_is)
    (case z_max => k_is)
    (case z_min => k_is)
    (case z_property => k_is)
    (case z_range => k_is)
    (case z_set => k_is)
    (case z_str => k_is)
    (case z_tuple => k_is)
    (case tc_ALPHABET => k_is)
    (case aC_StemError => k_is)
    (case eC_StemError => k_is)
    (case tC_StemError => k_is)
    (case iC_StemError => k_is)
    (case aC_InvalidText => k_is)
    (case eC_InvalidText => k_is)
    (case tC_InvalidText => k_is)
    (case iC_InvalidText => k_is)
    (case x_InvalidText => k_is)
    (case sa_InvalidText => k_is)
    (case ga_InvalidText => k_is)
    (case gg_InvalidText => k_is)
    (case i_InvalidText => k_is)
    (case t_InvalidText => k_is)
    (case il_InvalidText => k_is)
    (case ic_InvalidText => k_is)
    (case ik_InvalidText => k_is)
    (case kC_InvalidText => k_is)
    (case hC_InvalidText => k_is)
    (case n_InvalidText_thing => k_is)
    (case aC_InvalidConditions => k_is)
    (case eC_InvalidConditions => k_is)
    (case tC_InvalidConditions => k_is)
    (case iC_InvalidConditions => k_is)
    (case x_InvalidConditions => k_is)
    (case sa_InvalidConditions => k_is)
    (case ga_InvalidConditions => k_is)
    (case gg_InvalidConditions => k_is)
    (case i_InvalidConditions => k_is)
    (case t_InvalidConditions => k_is)
    (case il_InvalidConditions => k_is)
    (case ic_InvalidConditions => k_is)
    (case ik_InvalidConditions => k_is)
    (case kC_InvalidConditions => k_is)
    (case hC_InvalidConditions => k_is)
    (case n_InvalidConditions_place => k_is)
    (case aC_InvalidRules => k_is)
    (case eC_InvalidRules => k_is)
    (case tC_InvalidRules => k_is)
    (case iC_InvalidRules => k_is)
    (case x_InvalidRules => k_is)
    (case sa_InvalidRules => k_is)
    (case ga_InvalidRules => k_is)
    (case gg_InvalidRules => k_is)
    (case i_InvalidRules => k_is)
    (case t_InvalidRules => k_is)
    (case il_InvalidRules => k_is)
    (case ic_InvalidRules => k_is)
    (case ik_InvalidRules => k_is)
    (case kC_InvalidRules => k_is)
    (case hC_InvalidRules => k_is)
    (case n_InvalidRules_place => k_is)
    (case aC_InvalidMode => k_is)
    (case eC_InvalidMode => k_is)
    (case tC_InvalidMode => k_is)
    (case iC_InvalidMode => k_is)
    (case x_InvalidMode => k_is)
    (case sa_InvalidMode => k_is)
    (case ga_InvalidMode => k_is)
    (case gg_InvalidMode => k_is)
    (case i_InvalidMode => k_is)
    (case t_InvalidMode => k_is)
    (case il_InvalidMode => k_is)
    (case ic_InvalidMode => k_is)
    (case ik_InvalidMode => k_is)
    (case kC_InvalidMode => k_is)
    (case hC_InvalidMode => k_is)
    (case n_InvalidMode_thing => k_is)
    (case aC_SameEnding => k_is)
    (case eC_SameEnding => k_is)
    (case tC_SameEnding => k_is)
    (case iC_SameEnding => k_is)
    (case x_SameEnding => k_is)
    (case sa_SameEnding => k_is)
    (case ga_SameEnding => k_is)
    (case gg_SameEnding => k_is)
    (case i_SameEnding => k_is)
    (case t_SameEnding => k_is)
    (case il_SameEnding => k_is)
    (case ic_SameEnding => k_is)
    (case ik_SameEnding => k_is)
    (case kC_SameEnding => k_is)
    (case hC_SameEnding => k_is)
    (case n_SameEnding_ending => k_is)
    (case s_InvalidText_StemError => k_is)
    (case s_InvalidText_InvalidText => k_is)
    (case s_InvalidText_InvalidConditions => k_is)
    (case s_InvalidText_InvalidRules => k_is)
    (case s_InvalidText_InvalidMode => k_is)
    (case s_InvalidText_SameEnding => k_is)
    (case s_InvalidConditions_StemError => k_is)
    (case s_InvalidConditions_InvalidText => k_is)
    (case s_InvalidConditions_InvalidConditions => k_is)
    (case s_InvalidConditions_InvalidRules => k_is)
    (case s_InvalidConditions_InvalidMode => k_is)
    (case s_InvalidConditions_SameEnding => k_is)
    (case s_InvalidRules_StemError => k_is)
    (case s_InvalidRules_InvalidText => k_is)
    (case s_InvalidRules_InvalidConditions => k_is)
    (case s_InvalidRules_InvalidRules => k_is)
    (case s_InvalidRules_InvalidMode => k_is)
    (case s_InvalidRules_SameEnding => k_is)
    (case s_InvalidMode_StemError => k_is)
    (case s_InvalidMode_InvalidText => k_is)
    (case s_InvalidMode_InvalidConditions => k_is)
    (case s_InvalidMode_InvalidRules => k_is)
    (case s_InvalidMode_InvalidMode => k_is)
    (case s_InvalidMode_SameEnding => k_is)
    (case s_SameEnding_StemError => k_is)
    (case s_SameEnding_InvalidText => k_is)
    (case s_SameEnding_InvalidConditions => k_is)
    (case s_SameEnding_InvalidRules => k_is)
    (case s_SameEnding_InvalidMode => k_is)
    (case s_SameEnding_SameEnding => k_is)
    (case aC_Rule => k_is)
    (case aC_Step => k_is)
    (case pg_Rule => k_is)
    (case hd_Rule => k_is)
    (case po_Rule => k_is)
    (case sa_Rule => k_is)
    (case ma_Rule => k_is)
    (case kC_Rule => k_is)
    (case ha_Rule => k_is)
    (case hm_Rule => k_is)
    (case iC_Rule => k_is)
    (case tC_Rule => k_is)
    (case so_Rule_Rule => k_is)
    (case so_Rule_Step => k_is)
    (case ma_Rule_init => k_is)
    (case ml_Rule_init => k_is)
    (case mc_Rule_init => k_is)
    (case mk_Rule_init => k_is)
    (case mf_Rule_init => k_is)
    (case mp_Rule_ending => k_is)
    (case mg_Rule_ending => k_is)
    (case mt_Rule_ending => k_is)
    (case mr_Rule_ending => k_is)
    (case ml_Rule_ending => k_is)
    (case mc_Rule_ending => k_is)
    (case mk_Rule_ending => k_is)
    (case mf_Rule_ending => k_is)
    (case mp_Rule_put => k_is)
    (case mg_Rule_put => k_is)
    (case mt_Rule_put => k_is)
    (case mr_Rule_put => k_is)
    (case ml_Rule_put => k_is)
    (case mc_Rule_put => k_is)
    (case mk_Rule_put => k_is)
    (case mf_Rule_put => k_is)
    (case mp_Rule_conditions => k_is)
    (case mg_Rule_conditions => k_is)
    (case mt_Rule_conditions => k_is)
    (case mr_Rule_conditions => k_is)
    (case ml_Rule_conditions => k_is)
    (case mc_Rule_conditions => k_is)
    (case mk_Rule_conditions => k_is)
    (case mf_Rule_conditions => k_is)
    (case ma_Rule_eq => k_is)
    (case ml_Rule_eq => k_is)
    (case mc_Rule_eq => k_is)
    (case mk_Rule_eq => k_is)
    (case mf_Rule_eq => k_is)
    (case ne_Rule => k_is)
    (case nf_Rule_ending => k_is)
    (case nf_Rule_put => k_is)
    (case nf_Rule_conditions => k_is)
    (case kd_Rule_conditions => k_is)
    (case ke_Rule_conditions => k_is)
    (case pg_Step => k_is)
    (case hd_Step => k_is)
    (case po_Step => k_is)
    (case sa_Step => k_is)
    (case ma_Step => k_is)
    (case kC_Step => k_is)
    (case ha_Step => k_is)
    (case hm_Step => k_is)
    (case iC_Step => k_is)
    (case tC_Step => k_is)
    (case so_Step_Rule => k_is)
    (case so_Step_Step => k_is)
    (case ma_Step_init => k_is)
    (case ml_Step_init => k_is)
    (case mc_Step_init => k_is)
    (case mk_Step_init => k_is)
    (case mf_Step_init => k_is)
    (case mp_Step_rules => k_is)
    (case mg_Step_rules => k_is)
    (case mt_Step_rules => k_is)
    (case mr_Step_rules => k_is)
    (case ml_Step_rules => k_is)
    (case mc_Step_rules => k_is)
    (case mk_Step_rules => k_is)
    (case mf_Step_rules => k_is)
    (case mp_Step_mode => k_is)
    (case mg_Step_mode => k_is)
    (case mt_Step_mode => k_is)
    (case mr_Step_mode => k_is)
    (case ml_Step_mode => k_is)
    (case mc_Step_mode => k_is)
    (case mk_Step_mode => k_is)
    (case mf_Step_mode => k_is)
    (case ma_Step_eq => k_is)
    (case ml_Step_eq => k_is)
    (case mc_Step_eq => k_is)
    (case mk_Step_eq => k_is)
    (case mf_Step_eq => k_is)
    (case ne_Step => k_is)
    (case nf_Step_rules => k_is)
    (case nf_Step_mode => k_is)
    (case kd_Step_mode => k_is)
    (case hnG => k_is)
    (case htG => k_is)

