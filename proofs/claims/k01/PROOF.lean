import PyProof.Rows.All
import Wide.All
import OpenK.AllK
import Wide.FinOn
import HandS.ForMost
import HandS.Wide
import HandS.IsInst
import HandS.TupAny
import HandS.TupLe
import HandS.Deep
import HandS.Evl
import HandS.Steps
import HandS.Walk
import HandS.Text
import KE.GoesMore
import KE.GoesEnum
import HandS.TryMany
import HandS.ExcField
import HandS.ExcInit
import HandS.WordsExc
import PyProof.ReprRoads
import HandS.Ends
import HandS.Dict
import HandS.Defaults
import HandS.TryOnly
import PySem.Challenge.RW_stemsteps_k01_conditions
import HandS.ExcOwn
set_option Elab.async false
set_option linter.all false
set_option maxRecDepth 100000
set_option maxHeartbeats 4000000
/-! my layer: rules by kind, the heap without what changes -/
namespace L2
open PySem PySem.Spec PyProof.Rows
/-! ### rules that join the kinds -/
def rAddT : R2 := fun x y H Q => ∃ i j, x = .str i ∧ y = .str j ∧ i.length + j.length ≤ sizeLine ∧ Q (.str (i ++ j)) H
def rAddI : R2 := rI0 fun i j => .int (i + j)
def rAddA (K : PySem.W.Frag) : R2 := fun x y H Q => rAddI x y H Q ∨ rAddT x y H Q ∨ rCat x y H Q ∨ rCatA K x y H Q
def rEqA (K : PySem.W.Frag) : R2 := fun x y H Q => rEq x y H Q ∨ rEqD K x y H Q
def rNeA (K : PySem.W.Frag) : R2 := fun x y H Q => rNe x y H Q ∨ rNeD K x y H Q
def CPowW (i j : Int) : Prop := 0 ≤ j ∧ j ≤ 1000 ∧ i.natAbs < 2 ^ 4000
def rSlAny (K : PySem.W.Frag) : V → Option Int → Option Int → Hp → VK → Prop := fun x lo hi H Q => rSlS x lo hi H Q ∨ rSlL K x lo hi H Q ∨ rSlA K x lo hi H Q
theorem bits_lt {i : Int} {n : Nat} (h : i.natAbs < 2 ^ n) : Builtin.Int.intBits i ≤ n + 1 := by
  unfold Builtin.Int.intBits
  split
  · omega
  · rename_i h0
    have h1 : i.natAbs ≠ 0 := by simpa using h0
    have := (Nat.log2_lt h1).mpr h
    omega
section
variable {X : Cx}
theorem op_addA : OpR X (binaryOp .Add) (rAddA X.K) := op_add.or (op_add_str.or (op_cat.or op_catA))
theorem op_eqA (hu : X.A.units + 64 < cLine) : OpR X (compareOp .Eq) (rEqA X.K) := op_eq.or (op_eqD hu)
theorem op_neA (hu : X.A.units + 64 < cLine) : OpR X (compareOp .NotEq) (rNeA X.K) := op_ne.or (op_neD hu)
theorem op_powW : OpR X (binaryOp .Pow) (rI CPowW fun i j => .int (i ^ j.toNat)) := opI fun i j _ _ _ _ _ hc q => pow_int hc.1 (by
    have h1 := bits_lt hc.2.2
    have h2 := hc.2.1
    have h3 := hc.1
    have h4 : (Builtin.Int.intBits i : Int) ≤ 4001 := by omega
    have h5 : (Builtin.Int.intBits i : Int) * j ≤ 4001 * 1000 := Int.mul_le_mul h4 h2 h3 (by omega)
    omega) q
theorem sl_any : SlR X (rSlAny X.K) := sl_str.or (sl_list.or sl_tupA)
end
theorem hu64 {A : Around} {k : Nat} (hr : Room k A) : A.units + 64 < cLine := by have := hr.un; omega
theorem hu65 {A : Around} {k : Nat} (hr : Room k A) : A.units + 65 < cLine := by have := hr.un; omega

/-! ### the heap without the addresses S, which may change -/
def Hd (S : List Addr) (H : Hp) : Hp := fun a => if a ∈ S then none else H a
theorem hd_in {S : List Addr} {H : Hp} {a : Addr} (h : a ∈ S) : Hd S H a = none := if_pos h
theorem hd_out {S : List Addr} {H : Hp} {a : Addr} (h : a ∉ S) : Hd S H a = H a := if_neg h
def Gr (S : List Addr) (H H' : Hp) : Prop := ∀ a o, a ∉ S → H a = some o → H' a = some o
theorem Gr.refl {S : List Addr} {H : Hp} : Gr S H H := fun _ _ _ h => h
theorem Gr.trans {S : List Addr} {H H1 H2 : Hp} (a : Gr S H H1) (b : Gr S H1 H2) : Gr S H H2 := fun x o n h => b x o n (a x o n h)
theorem Gr.new {S : List Addr} {H : Hp} {p : Addr} {o : HO} (h : H p = none) : Gr S H (upd H p o) := fun a u _ e => by
  rw [upd_ne (ne_of_none e h)]
  exact e
theorem Gr.mut {S : List Addr} {H : Hp} {p : Addr} {o : HO} (h : p ∈ S) : Gr S H (upd H p o) := fun a u n e => by
  have ne : a ≠ p := fun z => n (by rw [z]; exact h)
  rw [upd_ne ne]
  exact e
theorem Gr.of {S : List Addr} {H H' : Hp} (h : Same H H') : Gr S H H' := fun a o _ e => h a o e
theorem Gr.more {S S' : List Addr} {H H' : Hp} (g : Gr S H H') (h : ∀ a ∈ S, a ∈ S') : Gr S' H H' := fun a o n e => g a o (fun z => n (h a z)) e
theorem Gr.same {H H' : Hp} (h : Gr [] H H') : Same H H' := fun a o e => h a o (by simp) e
theorem Gr.hd {S : List Addr} {H H' : Hp} (g : Gr S H H') : Same (Hd S H) (Hd S H') := fun a o e => by
  by_cases h : a ∈ S
  · rw [hd_in h] at e; cases e
  · rw [hd_out h] at e ⊢
    exact g a o h e
/-- a list that was new and has changed since -/
theorem Gr.less {S : List Addr} {H H' : Hp} {p : Addr} (g : Gr (p :: S) H H') (h : H p = none) : Gr S H H' := fun a o n e => by
  refine g a o (fun z => ?_) e
  rcases List.mem_cons.mp z with z | z
  · rw [z, h] at e; cases e
  · exact n z
theorem Gr.free {S : List Addr} {H H' : Hp} (g : Gr S H H') {p : Addr} (h : H' p = none) (n : p ∉ S) : H p = none := by
  cases q : H p with
  | none => rfl
  | some o =>
    rw [g p o n q] at h
    cases h

/-! ### data in the heap -/
section
variable {K : PySem.W.Frag} {H H' : Hp}
mutual
theorem Dp.up (e : Same H H') : ∀ {v : V} {d : PyData}, Dp K H v d → Dp K H' v d
  | _, _, .non => .non
  | _, _, .bl b => .bl b
  | _, _, .int i => .int i
  | _, _, .str x => .str x
  | _, _, .lst h a => .lst (e.seq h) (DpAll.up e a)
  | _, _, .tup h a => .tup (Evl.ex_t e h) (DpAll.up e a)
theorem DpAll.up (e : Same H H') : ∀ {vs : List V} {ds : List PyData}, DpAll K H vs ds → DpAll K H' vs ds
  | _, _, .nil => .nil
  | _, _, .cons h t => .cons (Dp.up e h) (DpAll.up e t)
end
/-- data that does not lean on S -/
def Dq (K : PySem.W.Frag) (S : List Addr) (H : Hp) (v : V) (d : PyData) : Prop := Dp K (Hd S H) v d
def DqAll (K : PySem.W.Frag) (S : List Addr) (H : Hp) (v : List V) (d : List PyData) : Prop := DpAll K (Hd S H) v d
variable {S : List Addr} {v : V} {d : PyData} {vs : List V} {ds : List PyData}
theorem Dq.up (h : Dq K S H v d) (g : Gr S H H') : Dq K S H' v d := Dp.up g.hd h
theorem DqAll.up (h : DqAll K S H vs ds) (g : Gr S H H') : DqAll K S H' vs ds := DpAll.up g.hd h
theorem hd_same (S : List Addr) (H : Hp) : Same (Hd S H) H := fun a o e => by
  by_cases h : a ∈ S
  · rw [hd_in h] at e; cases e
  · rw [hd_out h] at e; exact e
theorem Dq.dp (h : Dq K S H v d) : Dp K H v d := Dp.up (hd_same S H) h
theorem DqAll.dp (h : DqAll K S H vs ds) : DpAll K H vs ds := DpAll.up (hd_same S H) h
theorem Dq.less {S' : List Addr} (h : Dq K S H v d) (s : ∀ a ∈ S', a ∈ S) : Dq K S' H v d := Dp.up (fun a o e => by
    by_cases q : a ∈ S
    · rw [hd_in q] at e; cases e
    · rw [hd_out q] at e; rw [hd_out (fun z => q (s a z))]; exact e) h
theorem Dq.nil (h : Dp K H v d) : Dq K [] H v d := Dp.up (fun a o e => by rw [hd_out (by simp)]; exact e) h
/-- what is in S stands -/
def Live (S : List Addr) (H : Hp) : Prop := ∀ a ∈ S, H a ≠ none
theorem Live.nin (l : Live S H) {p : Addr} (h : H p = none) : p ∉ S := fun z => l p z h
theorem Dq.tup {p : Addr} (l : p ∉ S) (h : H p = some (.tup vs)) (a : DqAll K S H vs ds) : Dq K S H (.ref p) (.tuple ds) :=
  Dp.tup (.inl (.inl (by rw [hd_out l]; exact h))) a
theorem Dq.lst {p : Addr} (l : p ∉ S) (h : H p = some (.lst vs)) (a : DqAll K S H vs ds) : Dq K S H (.ref p) (.list ds) :=
  Dp.lst (.inl (.inl (by rw [hd_out l]; exact h))) a
theorem Dq.newT {p : Addr} (l : Live S H) (h : H p = none) (a : DqAll K S H vs ds) : Dq K S (upd H p (.tup vs)) (.ref p) (.tuple ds) :=
  Dq.tup (l.nin h) upd_same (a.up (Gr.new h))
theorem Dq.newL {p : Addr} (l : Live S H) (h : H p = none) (a : DqAll K S H vs ds) : Dq K S (upd H p (.lst vs)) (.ref p) (.list ds) :=
  Dq.lst (l.nin h) upd_same (a.up (Gr.new h))
theorem DqAll.nil : DqAll K S H [] [] := DpAll.nil
theorem DqAll.cons (h : Dq K S H v d) (t : DqAll K S H vs ds) : DqAll K S H (v :: vs) (d :: ds) := DpAll.cons h t
theorem Dq.str (x : Str) : Dq K S H (.str x) (.str x) := Dp.str x
theorem Dq.int (x : Int) : Dq K S H (.int x) (.int x) := Dp.int x
theorem Dq.bl (x : Bool) : Dq K S H (.bl x) (.bool x) := Dp.bl x
theorem Dq.non : Dq K S H .non .none := Dp.non
theorem Live.up (l : Live S H) (h : ∀ a o, H a = some o → ∃ o', H' a = some o') : Live S H' := fun a m z => by
  cases q : H a with
  | none => exact l a m q
  | some o => obtain ⟨o', e⟩ := h a o q; rw [e] at z; cases z
theorem DpAll.get : ∀ {vs : List V} {ds : List PyData}, DpAll K H vs ds → ∀ {i : Nat} {d : PyData}, ds[i]? = some d → ∃ v, vs[i]? = some v ∧ Dp K H v d
  | _, _, .nil, i, d, h => by simp at h
  | _, _, .cons a t, 0, d, h => by
    have e : _ = d := Option.some.inj h
    subst e
    exact ⟨_, rfl, a⟩
  | _, _, .cons a t, i + 1, d, h => DpAll.get t (i := i) h
theorem DpAll.len : ∀ {vs : List V} {ds : List PyData}, DpAll K H vs ds → vs.length = ds.length
  | _, _, .nil => rfl
  | _, _, .cons a t => congrArg (· + 1) (DpAll.len t)
theorem DpAll.append : ∀ {vs ws : List V} {ds es : List PyData}, DpAll K H vs ds → DpAll K H ws es → DpAll K H (vs ++ ws) (ds ++ es)
  | _, _, _, _, .nil, h => h
  | _, _, _, _, .cons a t, h => .cons a (DpAll.append t h)
theorem DqAll.append {ws : List V} {es : List PyData} (a : DqAll K S H vs ds) (b : DqAll K S H ws es) : DqAll K S H (vs ++ ws) (ds ++ es) := DpAll.append a b
end

/-! ### values by operators -/
def RV0 (r : R2) (x y : V) (H : Hp) (z : V) : Prop := ∀ Q : VK, Q z H → r x y H Q
section
variable {K : PySem.W.Frag} {σ : St} {H : Hp} {ta tb te : TE} {x y z v : V} {r : R2} {t : TT} {b : Bool}
theorem val_bin (ha : Val ta σ H x) (hb : Val tb σ H y) (hr : RV0 r x y H z) : Val (tOp r ta tb) σ H z := val_op ha hb hr
theorem rv_addI {i j : Int} : RV0 (rAddA K) (.int i) (.int j) H (.int (i + j)) := fun _ q => .inl ⟨i, j, rfl, rfl, q⟩
theorem rv_addS {i j : Str} (h : i.length + j.length ≤ 100000) : RV0 (rAddA K) (.str i) (.str j) H (.str (i ++ j)) := fun _ q => .inr (.inl ⟨i, j, rfl, rfl, Evl.sz_of h, q⟩)
theorem rv_I0 {g : Int → Int → V} {i j : Int} : RV0 (rI0 g) (.int i) (.int j) H (g i j) := fun _ q => ⟨i, j, rfl, rfl, q⟩
theorem rv_I {C : Int → Int → Prop} {g : Int → Int → V} {i j : Int} (hc : C i j) : RV0 (rI C g) (.int i) (.int j) H (g i j) := fun _ q => ⟨i, j, rfl, rfl, hc, q⟩
theorem rv_eq (h : scal x y = true) : RV0 (rEqA K) x y H (.bl (decide (x = y))) := fun _ q => .inl ⟨h, q⟩
theorem rv_eqD {d e : PyData} (hd : Dp K H x d) (he : Dp K H y e) (sd : SeqAt.shaped d = true) (se : SeqAt.shaped e = true) : RV0 (rEqA K) x y H (.bl (PyData.eqv d e)) := fun _ q => .inr ⟨d, e, hd, he, sd, se, q⟩
theorem rv_neD {d e : PyData} (hd : Dp K H x d) (he : Dp K H y e) (sd : SeqAt.shaped d = true) (se : SeqAt.shaped e = true) : RV0 (rNeA K) x y H (.bl (!PyData.eqv d e)) := fun _ q => .inr ⟨d, e, hd, he, sd, se, q⟩
theorem rv_ne (h : scal x y = true) : RV0 (rNeA K) x y H (.bl (!decide (x = y))) := fun _ q => .inl ⟨h, q⟩
theorem rv_ixL {p : Addr} {xs : List V} {i : Int} (h : SqL K H p xs) (ha : atI xs i = some v) : RV0 (rIx K) (.ref p) (.int i) H v := fun _ q => .inl ⟨p, xs, i, v, rfl, rfl, h, ha, q⟩
theorem rv_ixT {p : Addr} {xs : List V} {i : Int} (h : SqT K H p xs) (ha : atI xs i = some v) : RV0 (rIx K) (.ref p) (.int i) H v := fun _ q => .inr (.inl ⟨p, xs, i, v, rfl, rfl, h, ha, q⟩)
theorem rv_ixS {w : Str} {i : Int} {c : Nat} (h : w.length ≤ 100000) (ha : atI w.cps.toList i = some c) : RV0 (rIx K) (.str w) (.int i) H (.str ⟨#[c]⟩) := fun _ q => .inr (.inr ⟨w, i, c, rfl, rfl, Evl.sz_of h, ha, q⟩)
theorem ans_of (h : Val te σ H (.bl b)) : Ans (tTest te) σ H b := fun Q q => h _ ⟨b, rfl, q⟩
end
end L2
set_option Elab.async false
set_option linter.all false
set_option maxRecDepth 100000
set_option maxHeartbeats 4000000
namespace L2
open PySem PySem.Spec PyProof.Rows
/-! ### built-ins by named readings -/
def rInt1 : List V → Hp → VK → Prop := fun xs H Q => (∃ i, xs = [.int i] ∧ Q (.int i) H) ∨ ∃ k, xs = [.bl k] ∧ Q (.int (if k then 1 else 0)) H
def rMax2 : List V → Hp → VK → Prop := fun xs H Q => ∃ i j, xs = [.int i, .int j] ∧ Q (.int (if j > i then j else i)) H
def rMin2 : List V → Hp → VK → Prop := fun xs H Q => ∃ i j, xs = [.int i, .int j] ∧ Q (.int (if j < i then j else i)) H
def rLenA (K : PySem.W.Frag) : List V → Hp → VK → Prop := fun xs H Q => ∃ x n, xs = [x] ∧ LenV K x H n ∧ Q (.int n) H
def rEndsw : V → List V → Hp → VK → Prop := fun x xs H Q => ∃ a b, x = .str a ∧ xs = [.str b] ∧ Q (.bl (Txt.endswith a b)) H
def rInC : R2 := fun x y H Q => ∃ (c : Nat) (z : Str), x = .str ⟨#[c]⟩ ∧ y = .str z ∧ Q (.bl (decide (c ∈ z.cps.toList))) H
def rNotInC : R2 := fun x y H Q => ∃ (c : Nat) (z : Str), x = .str ⟨#[c]⟩ ∧ y = .str z ∧ Q (.bl (!decide (c ∈ z.cps.toList))) H
def rTupOf (K : PySem.W.Frag) : List V → Hp → VK → Prop := fun xs H Q => ∃ p ys, xs = [.ref p] ∧ ((SqL K H p ys ∧ ∀ l, H l = none → Q (.ref l) (upd H l (.tup ys))) ∨ (SqT K H p ys ∧ Q (.ref p) H))
def rLstOf (K : PySem.W.Frag) : List V → Hp → VK → Prop := fun xs H Q => ∃ p ys, xs = [.ref p] ∧ (SqL K H p ys ∨ SqT K H p ys) ∧ ∀ l, H l = none → Q (.ref l) (upd H l (.lst ys))
def rJoin (K : PySem.W.Frag) : V → List V → Hp → VK → Prop := fun x xs H Q => ∃ a p, ∃ ys : List Str, x = .str a ∧ xs = [.ref p] ∧ (SqL K H p (ys.map V.str) ∨ SqT K H p (ys.map V.str)) ∧ (ys.map (·.length)).sum + ys.length * a.length ≤ 16777216 ∧ Q (.str (Txt.join a ys)) H
def rLt : R2 := rI0 fun i j => .bl (decide (i < j))
def rLe : R2 := rI0 fun i j => .bl (decide (i ≤ j))
def rPow : R2 := rI CPowW fun i j => .int (i ^ j.toNat)
def rModP : R2 := rI (fun _ j => 0 < j) fun i j => .int (i % j)
def rDivP : R2 := rI CDivW fun i j => .int (i / j)
def rMulI : R2 := rI CMul fun i j => .int (i * j)
def rSubI : R2 := rI0 fun i j => .int (i - j)
def rIsB (n : Bool) : R2 := fun x y H Q => ∃ a b, x = .bl a ∧ y = .bl b ∧ Q (.bl (if n then !decide (a = b) else decide (a = b))) H
section
variable {X : Cx}
theorem call_intA : CallR X (.type "int") rInt1 := call_int1
theorem call_maxA (hc : X.calm = true) : CallR X (.builtin "max") rMax2 := call_max2 hc
theorem call_minA (hc : X.calm = true) : CallR X (.builtin "min") rMin2 := call_min2 hc
theorem call_lenA : CallR X (.builtin "len") (rLenA X.K) := call_len
theorem mt_endswA : MtR X "str.endswith" rEndsw := mt_endswith
theorem op_inC : OpR X (compareOp .In) rInC := op_in_sign
theorem op_notInC : OpR X (compareOp .NotIn) rNotInC := op_notIn_sign
theorem call_tupA : CallR X (.type "tuple") (rTupOf X.K) := call_tuple_of
theorem call_lstA : CallR X (.type "list") (rLstOf X.K) := call_list_of
theorem mt_joinA : MtR X "str.join" (rJoin X.K) := mt_join
theorem op_ltA : OpR X (compareOp .Lt) rLt := op_lt
theorem op_leA : OpR X (compareOp .LtE) rLe := op_le
theorem op_gtA : OpR X (compareOp .Gt) rGt := op_gt
theorem op_geA : OpR X (compareOp .GtE) rGe := op_ge
theorem op_powA : OpR X (binaryOp .Pow) rPow := op_powW
theorem op_modA : OpR X (binaryOp .Mod) rModP := op_mod
theorem op_divA : OpR X (binaryOp .FloorDiv) rDivP := op_fdivW
theorem op_mulI : OpR X (binaryOp .Mult) rMulI := op_mul
theorem op_subA : OpR X (binaryOp .Sub) rSubI := op_sub
theorem op_is_blA : OpR X (compareOp .Is) (rIsB false) := op_is_bl
theorem op_isnot_blA : OpR X (compareOp .IsNot) (rIsB true) := op_isnot_bl
end
section
variable {K : PySem.W.Frag} {σ : St} {H : Hp} {ta tb te : TE} {x y z v : V} {r : R2} {t u : TT} {b : Bool} {i j : Int} {D : Ends} {tz tu tw ts : TS}
theorem rv_lt : RV0 rLt (.int i) (.int j) H (.bl (decide (i < j))) := fun _ q => ⟨i, j, rfl, rfl, q⟩
theorem rv_le : RV0 rLe (.int i) (.int j) H (.bl (decide (i ≤ j))) := fun _ q => ⟨i, j, rfl, rfl, q⟩
theorem rv_gt : RV0 rGt (.int i) (.int j) H (.bl (decide (j < i))) := fun _ q => ⟨i, j, rfl, rfl, q⟩
theorem rv_ge : RV0 rGe (.int i) (.int j) H (.bl (decide (j ≤ i))) := fun _ q => ⟨i, j, rfl, rfl, q⟩
theorem rv_pow (h : CPowW i j) : RV0 rPow (.int i) (.int j) H (.int (i ^ j.toNat)) := fun _ q => ⟨i, j, rfl, rfl, h, q⟩
theorem rv_mod (h : 0 < j) : RV0 rModP (.int i) (.int j) H (.int (i % j)) := fun _ q => ⟨i, j, rfl, rfl, h, q⟩
theorem rv_div (h : CDivW i j) : RV0 rDivP (.int i) (.int j) H (.int (i / j)) := fun _ q => ⟨i, j, rfl, rfl, h, q⟩
theorem rv_mul (h : CMul i j) : RV0 rMulI (.int i) (.int j) H (.int (i * j)) := fun _ q => ⟨i, j, rfl, rfl, h, q⟩
theorem rv_sub : RV0 rSubI (.int i) (.int j) H (.int (i - j)) := fun _ q => ⟨i, j, rfl, rfl, q⟩
theorem rv_inC {c : Nat} {z : Str} : RV0 rInC (.str ⟨#[c]⟩) (.str z) H (.bl (decide (c ∈ z.cps.toList))) := fun _ q => ⟨c, z, rfl, rfl, q⟩
theorem rv_notInC {c : Nat} {z : Str} : RV0 rNotInC (.str ⟨#[c]⟩) (.str z) H (.bl (!decide (c ∈ z.cps.toList))) := fun _ q => ⟨c, z, rfl, rfl, q⟩
theorem rv_isB {n a b : Bool} : RV0 (rIsB n) (.bl a) (.bl b) H (.bl (if n then !decide (a = b) else decide (a = b))) := fun _ q => ⟨a, b, rfl, rfl, q⟩
theorem val_int1 (h : Val ta σ H (.int i)) : Val (tCB rInt1 (tCons ta tNil)) σ H (.int i) := fun _ q => h _ (.inl ⟨i, rfl, q⟩)
theorem val_max2 (h : Val ta σ H (.int i)) (h2 : Val tb σ H (.int j)) : Val (tCB rMax2 (tCons ta (tCons tb tNil))) σ H (.int (if j > i then j else i)) := fun _ q => h _ (h2 _ ⟨i, j, rfl, q⟩)
theorem val_min2 (h : Val ta σ H (.int i)) (h2 : Val tb σ H (.int j)) : Val (tCB rMin2 (tCons ta (tCons tb tNil))) σ H (.int (if j < i then j else i)) := fun _ q => h _ (h2 _ ⟨i, j, rfl, q⟩)
theorem val_lenS {w : Str} (h : Val ta σ H (.str w)) (l : w.length ≤ 100000) : Val (tCB (rLenA K) (tCons ta tNil)) σ H (.int (w.length : Int)) := fun _ q => h _ ⟨_, _, rfl, ⟨Evl.sz_of l, rfl⟩, q⟩
theorem val_lenL {p : Addr} {xs : List V} (h : Val ta σ H (.ref p)) (l : SqL K H p xs) : Val (tCB (rLenA K) (tCons ta tNil)) σ H (.int (xs.length : Int)) := fun _ q => h _ ⟨_, _, rfl, .inl ⟨xs, l, rfl⟩, q⟩
theorem val_lenT {p : Addr} {xs : List V} (h : Val ta σ H (.ref p)) (l : SqT K H p xs) : Val (tCB (rLenA K) (tCons ta tNil)) σ H (.int (xs.length : Int)) := fun _ q => h _ ⟨_, _, rfl, .inr ⟨xs, l, rfl⟩, q⟩
theorem val_endsw {a b : Str} (h : Val ta σ H (.str a)) (h2 : Val tb σ H (.str b)) : Val (tM1 rEndsw ta tb) σ H (.bl (Txt.endswith a b)) := fun _ q => h _ ⟨⟨_, rfl⟩, h2 _ ⟨a, b, rfl, rfl, q⟩⟩
theorem val_ifE (h : Ans t σ H b) (h1 : b = true → Val ta σ H v) (h2 : b = false → Val tb σ H v) : Val (tIf t ta tb) σ H v := fun Q q => h _ (by
  cases b with
  | true => exact h1 rfl Q q
  | false => exact h2 rfl Q q)
theorem val_andV {a c : Bool} (h : Val ta σ H (.bl a)) (h2 : a = true → Val tb σ H (.bl c)) : Val (tAndV ta tb) σ H (.bl (a && c)) := fun Q q => h _ ⟨a, rfl, by
  cases a with
  | true => exact h2 rfl Q q
  | false => exact q⟩
theorem val_orV {a c : Bool} (h : Val ta σ H (.bl a)) (h2 : a = false → Val tb σ H (.bl c)) : Val (tOrV ta tb) σ H (.bl (a || c)) := fun Q q => h _ ⟨a, rfl, by
  cases a with
  | true => exact q
  | false => exact h2 rfl Q q⟩
theorem val_notV {a : Bool} (h : Val ta σ H (.bl a)) : Val (tNotV ta) σ H (.bl (!a)) := fun _ q => h _ ⟨a, rfl, q⟩
theorem ans_B (h : Val te σ H (.bl b)) : Ans (tB te) σ H b := ans_val h
theorem ans_T (h : Val te σ H (.bl b)) : Ans (tTest te) σ H b := ans_of h
theorem ans_andA {a c : Bool} (h1 : Ans t σ H a) (h2 : a = true → Ans u σ H c) : Ans (tAnd t u) σ H (a && c) := by
  cases a with
  | true => exact ans_and h1 (h2 rfl)
  | false => exact ans_and0 h1
theorem ans_orA {a c : Bool} (h1 : Ans t σ H a) (h2 : a = false → Ans u σ H c) : Ans (tOr t u) σ H (a || c) := by
  cases a with
  | true => exact ans_or1 h1
  | false => exact ans_or h1 (h2 rfl)
/-! ### statements, the heap as it was -/
theorem q_set {i : Nat} (h : Val te σ H v) (k : tz D (σ.set i (some v)) H) : tSeq (tAsg te (gName i)) tz D σ H := h _ k
theorem q_ret (h : Val te σ H v) (k : D.rt v H) : tRet te D σ H := h _ k
theorem q_if (h : Ans t σ H b) (h1 : b = true → tu { D with nx := tz D } σ H) (h2 : b = false → tw { D with nx := tz D } σ H) : tSeq (tIfS t tu tw) tz D σ H := h _ (by
  cases b with
  | true => exact h1 rfl
  | false => exact h2 rfl)
theorem q_if1 (h : Ans t σ H b) (h1 : b = true → tu D σ H) (h2 : b = false → tw D σ H) : tIfS t tu tw D σ H := h _ (by
  cases b with
  | true => exact h1 rfl
  | false => exact h2 rfl)
theorem q_when (h : Ans t σ H b) (h1 : b = true → tu { D with nx := tz D } σ H) (h2 : b = false → tz D σ H) : tSeq (tIfS t tu tNext) tz D σ H := q_if h h1 h2
/-- xs[j] = e -/
theorem q_setL {l : Addr} {xs : List V} {j : Nat} (h : Val te σ H v) (ho : Val ta σ H (.ref l)) (hi : Val tb σ H (.int (j : Int))) (hl : H l = some (.lst xs)) (hj : j < xs.length) (k : tz D σ (upd H l (.lst (xs.set j v)))) : tSeq (tAsg te (gSub ta tb rSetL)) tz D σ H :=
  h _ (ho _ (hi _ ⟨l, xs, (j : Int), j, rfl, rfl, hl, Evl.ixN_nat hj, k⟩))
/-! ### calls -/
theorem val_args0 : ∀ Q : List V → Hp → Prop, Q [] H → tNil σ H Q := fun _ q => q
theorem c_call {sp : Sp} {dvs : List V} {E : XK} {t : TA} {vs : List V} {Q : VK} (h : ∀ R : List V → Hp → Prop, R vs H → t σ H R) (k : sp (vs ++ dvs) H Q E) : tCall sp dvs E t σ H Q := h _ k
theorem arg0 : ∀ R : List V → Hp → Prop, R [] H → tNil σ H R := fun _ q => q
theorem arg1 {tr : TA} {vs : List V} (h : Val ta σ H x) (hr : ∀ R : List V → Hp → Prop, R vs H → tr σ H R) : ∀ R : List V → Hp → Prop, R (x :: vs) H → tCons ta tr σ H R := fun R q => h _ (hr _ q)
end
end L2
set_option Elab.async false
set_option linter.all false
set_option maxRecDepth 100000
set_option maxHeartbeats 4000000
namespace L2
open PySem PySem.Spec PyProof.Rows
def newT (xs : List V) (H : Hp) (Q : VK) : Prop := xs.length ≤ sizeLine ∧ ∀ p, H p = none → Q (.ref p) (upd H p (.tup xs))
def newL (xs : List V) (H : Hp) (Q : VK) : Prop := xs.length ≤ sizeLine ∧ ∀ p, H p = none → Q (.ref p) (upd H p (.lst xs))
def isB (x : V) (H : Hp) (QB : Bool → Hp → Prop) : Prop := ∃ k, x = .bl k ∧ QB k H
section
variable {K : PySem.W.Frag} {σ : St} {H : Hp} {ta tb te : TE} {x y z v : V} {r : R2} {t tr : TA} {c u : TT} {b : Bool} {i j : Int} {D : Ends} {tz tu tw ts : TS} {Q : VK} {QA : List V → Hp → Prop} {sp : Sp} {dvs : List V} {E : XK} {rc : List V → Hp → VK → Prop}
theorem k_val (h : Val te σ H v) (k : Q v H) : te σ H Q := h Q k
theorem k_var {n : Nat} (h : σ[n]? = some (some v)) (k : Q v H) : tVar n σ H Q := ⟨v, h, k⟩
theorem k_c (k : Q v H) : tC v σ H Q := k
theorem k_not {QB : Bool → Hp → Prop} (k : c σ H fun c H1 => QB (!c) H1) : tNot c σ H QB := k
theorem k_and {QB : Bool → Hp → Prop} (k : c σ H fun c H1 => if c = true then u σ H1 QB else QB false H1) : tAnd c u σ H QB := k
theorem k_or {QB : Bool → Hp → Prop} (k : c σ H fun c H1 => if c = true then QB true H1 else u σ H1 QB) : tOr c u σ H QB := k
theorem k_max2 (k : Q (.int (if j > i then j else i)) H) : rMax2 [.int i, .int j] H Q := ⟨i, j, rfl, k⟩
theorem k_min2 (k : Q (.int (if j < i then j else i)) H) : rMin2 [.int i, .int j] H Q := ⟨i, j, rfl, k⟩
theorem k_lenS {w : Str} (l : w.length ≤ 100000) (k : Q (.int (w.length : Int)) H) : rLenA K [.str w] H Q := ⟨_, _, rfl, ⟨Evl.sz_of l, rfl⟩, k⟩
theorem k_lenL {p : Addr} {xs : List V} (l : SqL K H p xs) (k : Q (.int (xs.length : Int)) H) : rLenA K [.ref p] H Q := ⟨_, _, rfl, .inl ⟨xs, l, rfl⟩, k⟩
theorem k_lenT {p : Addr} {xs : List V} (l : SqT K H p xs) (k : Q (.int (xs.length : Int)) H) : rLenA K [.ref p] H Q := ⟨_, _, rfl, .inr ⟨xs, l, rfl⟩, k⟩
theorem k_op (k : ta σ H fun x H1 => tb σ H1 fun y H2 => r x y H2 Q) : tOp r ta tb σ H Q := k
theorem k_cb (k : t σ H fun vs H1 => rc vs H1 Q) : tCB rc t σ H Q := k
theorem k_cons (k : ta σ H fun x H1 => tr σ H1 fun xs H2 => QA (x :: xs) H2) : tCons ta tr σ H QA := k
theorem k_nil (k : QA [] H) : tNil σ H QA := k
theorem k_call (k : t σ H fun vs H1 => sp (vs ++ dvs) H1 Q E) : tCall sp dvs E t σ H Q := k
theorem k_rv (h : RV0 r x y H z) (k : Q z H) : r x y H Q := h Q k
theorem k_int1 (k : Q (.int i) H) : rInt1 [.int i] H Q := .inl ⟨i, rfl, k⟩
theorem k_tup (k : t σ H fun xs H1 => newT xs H1 Q) : tTup t σ H Q := k
theorem k_lst (k : t σ H fun xs H1 => newL xs H1 Q) : tLst t σ H Q := k
theorem k_newT {xs : List V} (hl : xs.length ≤ 100000) (k : ∀ p, H p = none → Q (.ref p) (upd H p (.tup xs))) : newT xs H Q := ⟨Evl.sz_of hl, k⟩
theorem k_newL {xs : List V} (hl : xs.length ≤ 100000) (k : ∀ p, H p = none → Q (.ref p) (upd H p (.lst xs))) : newL xs H Q := ⟨Evl.sz_of hl, k⟩
theorem k_tupOfL {p : Addr} {xs : List V} (h : SqL K H p xs) (k : ∀ l, H l = none → Q (.ref l) (upd H l (.tup xs))) : rTupOf K [.ref p] H Q := ⟨p, xs, rfl, .inl ⟨h, k⟩⟩
theorem k_ifE (k : c σ H fun b H1 => if b = true then ta σ H1 Q else tb σ H1 Q) : tIf c ta tb σ H Q := k
theorem k_test {QB : Bool → Hp → Prop} (k : te σ H fun x H' => isB x H' QB) : tTest te σ H QB := k
theorem k_tb {QB : Bool → Hp → Prop} (k : te σ H fun x H' => isB x H' QB) : tB te σ H QB := k
theorem k_bl {QB : Bool → Hp → Prop} (k : QB b H) : isB (.bl b) H QB := ⟨b, rfl, k⟩
theorem k_ans {QB : Bool → Hp → Prop} (h : Ans c σ H b) (k : QB b H) : c σ H QB := h QB k
theorem k_ite {A B : Prop} (h1 : b = true → A) (h2 : b = false → B) : if b = true then A else B := by
  cases b with
  | true => exact h1 rfl
  | false => exact h2 rfl
/-! statements -/
theorem k_seq (k : tu { D with nx := tz D } σ H) : tSeq tu tz D σ H := k
theorem k_asg {g : TG} (k : te σ H fun x H1 => g x σ H1 D.nx) : tAsg te g D σ H := k
theorem k_name {n : Nat} {Qs : St → Hp → Prop} (k : Qs (σ.set n (some v)) H) : gName n v σ H Qs := k
theorem k_ret (k : te σ H D.rt) : tRet te D σ H := k
theorem k_ifS (k : c σ H fun b H1 => if b = true then tu D σ H1 else tw D σ H1) : tIfS c tu tw D σ H := k
theorem k_drop (k : te σ H fun _ H1 => D.nx σ H1) : tDrop te D σ H := k
/-- join of a list of texts -/
theorem k_join {a : Str} {p : Addr} {ys : List Str} (h : SqL K H p (ys.map V.str)) (hl : (ys.map (·.length)).sum + ys.length * a.length ≤ 16777216) (k : Q (.str (Txt.join a ys)) H) :
    ∃ a' p', ∃ ys' : List Str, V.str a = .str a' ∧ [V.ref p] = [.ref p'] ∧ (SqL K H p' (ys'.map V.str) ∨ SqT K H p' (ys'.map V.str)) ∧ (ys'.map (·.length)).sum + ys'.length * a'.length ≤ 16777216 ∧ Q (.str (Txt.join a' ys')) H := ⟨a, p, ys, rfl, rfl, .inl h, hl, k⟩
end
end L2
set_option Elab.async false
set_option linter.all false
set_option maxRecDepth 100000
set_option maxHeartbeats 4000000
namespace L2
open PySem PySem.Spec PyProof.Rows
/-! ### walks -/
/-- the core of a comprehension, of a for -/
def lcOn (g : TG) (tt : TT) (te : TE) (vs : List Nat) (σ : St) (Q : VK) (J : It) (H1 : Hp) : Prop := ∀ D, H1 D = none → ∃ W : Nat → Nat → Hp → Prop, (∃ m, W 0 m (upd H1 D (.lst []))) ∧ ∀ i m H, W i m H →
  (J.stop i H ∧ Q (.ref D) H) ∨ (J.go i H ∧ ∃ Nx : Hp → Prop, (∀ H', Nx H' → ∃ m', m' < m ∧ W (i + 1) m' H') ∧ ∀ x H', J.yld i H x H' → g x (wipe σ vs) H' fun σ2 H2 => wipe σ2 vs = wipe σ vs ∧ tt σ2 H2 fun b H3 =>
    if b = true then te σ2 H3 fun y H4 => ∃ acc, H4 D = some (.lst acc) ∧ acc.length < sizeLine ∧ Nx (upd H4 D (.lst (acc ++ [y]))) else Nx H3)
def forOn (g : TG) (tb : TS) (D : Ends) (σ : St) (J : It) (H1 : Hp) : Prop := ∃ W : Nat → Nat → St → Hp → Prop, (∃ m, W 0 m σ H1) ∧ ∀ i m σ H, W i m σ H →
  (J.stop i H ∧ D.nx σ H) ∨ (J.go i H ∧ ∃ N : St → Hp → Prop, (∀ σ' H', N σ' H' → ∃ m', m' < m ∧ W (i + 1) m' σ' H') ∧ ∀ x H', J.yld i H x H' → g x σ H' fun σ2 H2 => tb { D with nx := N, ct := N, bk := D.nx } σ2 H2)
def onS (v : V) (H : Hp) (R : It → Hp → Prop) : Prop := ∃ x, v = .str x ∧ R (Its x) H
def onR1 (vs : List V) (H : Hp) (R : It → Hp → Prop) : Prop := ∃ j : Int, vs = [.int j] ∧ -(2 ^ 62) ≤ j ∧ j < 2 ^ 62 ∧ R (Itr 0 j.toNat) H
def onL (K : PySem.W.Frag) (v : V) (H : Hp) (R : It → Hp → Prop) : Prop := ∃ a, v = .ref a ∧ (∃ xs, SqL K H a xs) ∧ R (Itl K a) H
def onT (K : PySem.W.Frag) (v : V) (H : Hp) (R : It → Hp → Prop) : Prop := ∃ a, v = .ref a ∧ (∃ xs, SqT K H a xs) ∧ R (Itt K a) H
def addTo (D : Addr) (H : Hp) (y : V) (R : Hp → Prop) : Prop := ∃ acc, H D = some (.lst acc) ∧ acc.length < sizeLine ∧ R (upd H D (.lst (acc ++ [y])))
section
variable {K : PySem.W.Frag} {σ : St} {H : Hp} {ta te : TE} {g : TG} {tt : TT} {tb : TS} {vs : List Nat} {Q : VK} {D : Ends} {t : TA} {x : Str} {a : Addr} {xs : List V} {R : It → Hp → Prop} {j : Nat} {v : V}
theorem k_lcS (k : ta σ H fun v H1 => onS v H1 (lcOn g tt te vs σ Q)) : tLc (iStr ta) g tt te vs σ H Q := k
theorem k_lcR (k : t σ H fun v H1 => onR1 v H1 (lcOn g tt te vs σ Q)) : tLc (iRng1 t) g tt te vs σ H Q := k
theorem k_lcL (k : ta σ H fun v H1 => onL K v H1 (lcOn g tt te vs σ Q)) : tLc (iList K ta) g tt te vs σ H Q := k
theorem k_lcT (k : ta σ H fun v H1 => onT K v H1 (lcOn g tt te vs σ Q)) : tLc (iTup K ta) g tt te vs σ H Q := k
theorem k_forS (k : ta σ H fun v H1 => onS v H1 (forOn g tb D σ)) : tFor (iStr ta) g tb D σ H := k
theorem k_forR (k : t σ H fun v H1 => onR1 v H1 (forOn g tb D σ)) : tFor (iRng1 t) g tb D σ H := k
theorem k_forL (k : ta σ H fun v H1 => onL K v H1 (forOn g tb D σ)) : tFor (iList K ta) g tb D σ H := k
theorem k_forT (k : ta σ H fun v H1 => onT K v H1 (forOn g tb D σ)) : tFor (iTup K ta) g tb D σ H := k
theorem k_onS (k : R (Its x) H) : onS (.str x) H R := ⟨x, rfl, k⟩
theorem k_onR1 {n : Int} (h : -1000000 ≤ n ∧ n ≤ 1000000) (k : R (Itr 0 n.toNat) H) : onR1 [.int n] H R := ⟨n, rfl, by omega, by omega, k⟩
theorem k_onL (h : SqL K H a xs) (k : R (Itl K a) H) : onL K (.ref a) H R := ⟨a, rfl, ⟨xs, h⟩, k⟩
theorem k_onT (h : SqT K H a xs) (k : R (Itt K a) H) : onT K (.ref a) H R := ⟨a, rfl, ⟨xs, h⟩, k⟩
theorem k_add {acc : List V} {Ra : Hp → Prop} {Dl : Addr} (h : H Dl = some (.lst acc)) (hl : acc.length ≤ 100000) (k : Ra (upd H Dl (.lst (acc ++ [v])))) : addTo Dl H v Ra := ⟨acc, h, Nat.lt_of_le_of_lt hl (by decide), k⟩
theorem k_yes {QB : Bool → Hp → Prop} (k : QB true H) : tYes σ H QB := k
section
variable {J : It} {n : Nat} {G : Hp → Prop} {Y : Nat → Hp → V → Hp → Prop}
/-- a comprehension whose target is a name: Iv by the new list, the turn, the heap -/
theorem lc_go (w : Walk J n G Y) (Iv : Addr → Nat → Hp → Prop) (hw : ∀ x, wipe ((wipe σ vs).set j (some x)) vs = wipe σ vs) (h0 : ∀ D, H D = none → Iv D 0 (upd H D (.lst [])))
    (hG : ∀ D i H', i ≤ n → Iv D i H' → G H')
    (hs : ∀ D i x H1 H2, i < n → Iv D i H1 → Y i H1 x H2 → tt ((wipe σ vs).set j (some x)) H2 fun b H4 => if b = true then te ((wipe σ vs).set j (some x)) H4 fun y H5 => addTo D H5 y (Iv D (i + 1)) else Iv D (i + 1) H4)
    (hd : ∀ D H', Iv D n H' → Q (.ref D) H') : lcOn (gName j) tt te vs σ Q J H := fun D hD =>
  lc_it w (Iv D) (h0 D hD) (hG D) (fun i x H1 H2 hi p y => ⟨hw x, hs D i x H1 H2 hi p y⟩) (hd D)
theorem for_go (w : Walk J n G Y) (Pv : Nat → St → Hp → Prop) (h0 : Pv 0 σ H) (hG : ∀ i σ H, i ≤ n → Pv i σ H → G H)
    (hs : ∀ i x σ H H', i < n → Pv i σ H → Y i H x H' → g x σ H' fun σ2 H2 => tb { D with nx := Pv (i + 1), ct := Pv (i + 1), bk := D.nx } σ2 H2) (hd : ∀ σ H, Pv n σ H → D.nx σ H) : forOn g tb D σ J H := for_it w Pv h0 hG hs hd
end
end
end L2
set_option Elab.async false
set_option linter.all false
set_option maxRecDepth 100000
set_option maxHeartbeats 4000000
namespace L2
open PySem PySem.Spec PyProof.Rows
/-! ### the rules with the written part said outright (they fit within a comprehension's block too) -/
theorem B_len : bootBuiltins "len" = some (.builtin "len") := by decide +kernel
theorem B_abs : bootBuiltins "abs" = some (.builtin "abs") := by decide +kernel
theorem B_max : bootBuiltins "max" = some (.builtin "max") := by decide +kernel
theorem B_min : bootBuiltins "min" = some (.builtin "min") := by decide +kernel
theorem B_all : bootBuiltins "all" = some (.builtin "all") := by decide +kernel
theorem B_any : bootBuiltins "any" = some (.builtin "any") := by decide +kernel
theorem B_sum : bootBuiltins "sum" = some (.builtin "sum") := by decide +kernel
theorem B_isinstance : bootBuiltins "isinstance" = some (.builtin "isinstance") := by decide +kernel
theorem B_int : bootBuiltins "int" = some (.type "int") := by decide +kernel
theorem B_str : bootBuiltins "str" = some (.type "str") := by decide +kernel
theorem B_tuple : bootBuiltins "tuple" = some (.type "tuple") := by decide +kernel
theorem B_list : bootBuiltins "list" = some (.type "list") := by decide +kernel
theorem B_set : bootBuiltins "set" = some (.type "set") := by decide +kernel
theorem B_dict : bootBuiltins "dict" = some (.type "dict") := by decide +kernel
theorem B_bool : bootBuiltins "bool" = some (.type "bool") := by decide +kernel
theorem B_range : bootBuiltins "range" = some (.type "range") := by decide +kernel
theorem B_zip : bootBuiltins "zip" = some (.type "zip") := by decide +kernel
theorem B_enumerate : bootBuiltins "enumerate" = some (.type "enumerate") := by decide +kernel
section
variable {X : Cx} (K : PySem.W.Frag)
theorem addK (h : X.K = K := by rfl) : OpR X (binaryOp .Add) (rAddA K) := by subst h; exact op_addA
theorem eqK {k : Nat} (hr : Room k X.A) (h : X.K = K := by rfl) : OpR X (compareOp .Eq) (rEqA K) := by subst h; exact op_eqA (hu64 hr)
theorem neK {k : Nat} (hr : Room k X.A) (h : X.K = K := by rfl) : OpR X (compareOp .NotEq) (rNeA K) := by subst h; exact op_neA (hu64 hr)
theorem ixK (h : X.K = K := by rfl) : IxR X (rIx K) := by subst h; exact ix_seq
theorem slK (h : X.K = K := by rfl) : SlR X (rSlAny K) := by subst h; exact sl_any
theorem lenK (h : X.K = K := by rfl) : CallR X (.builtin "len") (rLenA K) := by subst h; exact call_lenA
theorem tupK (h : X.K = K := by rfl) : CallR X (.type "tuple") (rTupOf K) := by subst h; exact call_tupA
theorem lstK (h : X.K = K := by rfl) : CallR X (.type "list") (rLstOf K) := by subst h; exact call_lstA
theorem allK (hc : X.calm = true := by rfl) (h : X.K = K := by rfl) : CallR X (.builtin "all") (rAll K) := by subst h; exact cr_all hc
theorem anyK (hc : X.calm = true := by rfl) (h : X.K = K := by rfl) : CallR X (.builtin "any") (rAny K) := by subst h; exact cr_any hc
theorem sumK (hc : X.calm = true := by rfl) (h : X.K = K := by rfl) : CallR X (.builtin "sum") (rSum K) := by subst h; exact cr_sum hc
theorem isiK (h : X.K = K := by rfl) : CallR X (.builtin "isinstance") (rIsi K) := by subst h; exact call_isi
theorem joinK {o e : Expr} {to te : TE} {apos pos : Pos} (ho : PE X o to) (he : PE X e te) (h : X.K = K := by rfl) (hs : starEach [e] X.env = [(false, eval e X.env)] := by rfl) (hbase : attributeBase o "join" X.env (eval o X.env) = eval o X.env := by rfl) (hline : (apos.endLine == pos.line) = true := by rfl) :
    PE X (.Call (.Attribute o "join" apos) [e] [] pos) (tM1 (rJoin K) to te) := by subst h; exact pe_join ho he hs hbase hline
theorem appK {o e : Expr} {to te : TE} {apos cpos : Pos} (ho : PE X o to) (he : PE X e te) (h : X.K = K := by rfl) (hbase : attributeBase o "append" X.env (eval o X.env) = eval o X.env := by rfl)
    (hfew : ((backTo cpos (starEach [e] X.env)).all (fun x => !x.1) && (backToKw cpos (keywordEach [] X.env)).all (fun x => x.1.isSome)
      && decide ([e].length + ([] : List Keyword).length + (if ([] : List Keyword).isEmpty then 0 else 1) < 30)) = true := by rfl)
    (hline : (apos.endLine == cpos.line) = true := by rfl) (hs : starEach [e] X.env = (false, eval e X.env) :: starEach [] X.env := by rfl) (hplain : (backTo cpos (starEach [] X.env)).any (·.1) = false := by rfl) :
    PE X (.Call (.Attribute o "append" apos) [e] [] cpos) (tBM K "list" rAppend to (tCons te tNil)) := by
  subst h
  exact pe_bm PySem.F.plainAttrs_list PySem.F.slot_list_append PySem.F.type_list_append mt_append ho (pa_cons he pa_nil hs) hbase hfew hline hs hplain
theorem fldK {e : Expr} {f : Str} {pos : Pos} {ta : TE} (he : PE X e ta) (h : X.K = K := by rfl) (hb : attributeBase e f X.env (eval e X.env) = eval e X.env := by rfl) : PE X (.Attribute e f pos) (tFld K ta f) := by subst h; exact pe_fld he hb
theorem listK {tg l : Expr} {tl : TE} (hl : PE X l tl) (h : X.K = K := by rfl) : PI X tg l (iList K tl) := by subst h; exact pi_list hl
theorem tupIK {tg l : Expr} {tl : TE} (hl : PE X l tl) (h : X.K = K := by rfl) : PI X tg l (iTup K tl) := by subst h; exact pi_tup hl
end
def onStr (x : V) (A : Prop) : Prop := (∃ a, x = .str a) ∧ A
section
variable {K : PySem.W.Frag} {σ : St} {H : Hp} {ta tb te : TE} {Q : VK}
theorem k_m1 {r : V → List V → Hp → VK → Prop} (k : ta σ H fun x H1 => onStr x (te σ H1 fun y H2 => r x [y] H2 Q)) : tM1 r ta te σ H Q := k
theorem k_onStr {a : Str} {A : Prop} (k : A) : onStr (.str a) A := ⟨⟨a, rfl⟩, k⟩
theorem k_joinL {a : Str} {p : Addr} {ys : List Str} (h : SqL K H p (ys.map V.str)) (hl : (ys.map (·.length)).sum + ys.length * a.length ≤ 16777216) (k : Q (.str (Txt.join a ys)) H) : rJoin K (.str a) [.ref p] H Q := ⟨a, p, ys, rfl, rfl, .inl h, hl, k⟩
theorem k_endsw {a b : Str} (k : Q (.bl (Txt.endswith a b)) H) : rEndsw (.str a) [.str b] H Q := ⟨a, b, rfl, rfl, k⟩
theorem k_all {p : Addr} {bs : List Bool} (h : SqL K H p (bs.map V.bl)) (k : Q (.bl (bs.all id)) H) : rAll K [.ref p] H Q := ⟨p, bs, rfl, h, k⟩
theorem k_any {p : Addr} {bs : List Bool} (h : SqL K H p (bs.map V.bl)) (k : Q (.bl (bs.any id)) H) : rAny K [.ref p] H Q := ⟨p, bs, rfl, h, k⟩
theorem k_isi {x : V} {n : String} {t : Value} {b : Bool} (h : TyX K H x t) (e : PySem.W.kitOne K t (.type n) = some b) (k : Q (.bl b) H) : rIsi K [x, .ty n] H Q := ⟨x, .ty n, t, .type n, b, rfl, .ty n, h, e, k⟩
theorem k_slS {z : Str} {lo hi : Option Int} (h : z.length ≤ 100000) (k : Q (.str (cutS z lo hi)) H) : rSlAny K (.str z) lo hi H Q := .inl ⟨z, rfl, Evl.sz_of h, k⟩
end
end L2
set_option Elab.async false
set_option linter.all false
set_option maxRecDepth 100000
set_option maxHeartbeats 4000000
namespace L2
open PySem PySem.Spec PyProof.Rows TL
theorem at_int {α : Type} {xs : List α} {i : Int} {v : α} (h : 0 ≤ i) (e : xs[i.toNat]? = some v) : atI xs i = some v := by
  have := atI_nat (xs := xs) (j := i.toNat) e
  rw [Int.toNat_of_nonneg h] at this
  exact this
/-- the text of these code points -/
def mk (l : List Nat) : Str := ⟨l.toArray⟩
theorem tl_mk' (l : List Nat) : tl (mk l) = l := rfl
theorem mk_tl' (x : Str) : mk (tl x) = x := TL.mk_tl x
theorem len_mk (l : List Nat) : (mk l).length = l.length := by rw [len_tl, tl_mk']
theorem mk_inj {a b : List Nat} (h : mk a = mk b) : a = b := by
  have := congrArg tl h
  simpa [tl_mk'] using this
def singles (l : List Nat) : List Str := l.map fun c => (⟨#[c]⟩ : Str)
theorem singles_len (l : List Nat) : (singles l).length = l.length := by simp [singles]
theorem singles_sum (l : List Nat) : ((singles l).map (·.length)).sum = l.length := by
  induction l with
  | nil => rfl
  | cons c l ih =>
    show (⟨#[c]⟩ : Str).length + ((singles l).map (·.length)).sum = l.length + 1
    rw [ih]
    have : (⟨#[c]⟩ : Str).length = 1 := rfl
    omega
theorem joinL_nil : ∀ l : List (List Nat), joinL [] l = l.flatten
  | [] => rfl
  | [p] => by simp [joinL]
  | p :: q :: r => by
    have ih := joinL_nil (q :: r)
    show p ++ ([] ++ joinL [] (q :: r)) = _
    rw [ih]
    simp
theorem singles_flat (l : List Nat) : ((singles l).map tl).flatten = l := by
  induction l with
  | nil => rfl
  | cons c l ih =>
    show tl (⟨#[c]⟩ : Str) ++ ((singles l).map tl).flatten = c :: l
    rw [ih]
    rfl
theorem tl_empty : tl ("" : Str) = [] := by decide +kernel
theorem join_singles (l : List Nat) : Txt.join ("" : Str) (singles l) = mk l := by
  refine ext_tl ?_
  rw [join_eq, tl_join, tl_empty, joinL_nil, singles_flat]
  rfl
theorem join_cost (l : List Nat) (h : l.length ≤ 100000) : ((singles l).map (·.length)).sum + (singles l).length * ("" : Str).length ≤ 16777216 := by
  have e : ("" : Str).length = 0 := by decide +kernel
  rw [singles_sum, e]
  omega
theorem walk_rng {n : Nat} : Walk (Itr 0 n) n (fun _ => True) (fun i H x H' => H' = H ∧ x = .int (i : Nat)) :=
  walk_range.mono (fun _ h => h) (fun i H x H' _ _ y => ⟨y.1, by rw [y.2]; show V.int (0 + (i : Int)) = _; rw [Int.zero_add]⟩)
section
variable {K : PySem.W.Frag} {S : List Addr} {H : Hp}
theorem k_aug {i : Nat} {a : Int} {te : TE} {f : Int → Int → Int} {D : Ends} {σ : St} (h : σ[i]? = some (some (.int a))) (k : te σ H fun y H1 => ∃ b, y = .int b ∧ D.nx (σ.set i (some (.int (f a b)))) H1) (hm : ∀ {σ H} {Q Q' : VK}, (∀ v H, Q v H → Q' v H) → te σ H Q → te σ H Q') : tAug i te (ipI f) D σ H :=
  ⟨.int a, h, hm (fun v H1 q => by obtain ⟨b, rfl, q⟩ := q; exact ⟨a, b, rfl, rfl, q⟩) k⟩
theorem k_augC {i : Nat} {a b : Int} {f : Int → Int → Int} {D : Ends} {σ : St} (h : σ[i]? = some (some (.int a))) (k : D.nx (σ.set i (some (.int (f a b)))) H) : tAug i (tC (.int b)) (ipI f) D σ H := ⟨.int a, h, ⟨a, b, rfl, rfl, k⟩⟩
theorem DqAll.strs : ∀ ts : List Str, DqAll K S H (ts.map V.str) (ts.map PyData.str)
  | [] => .nil
  | t :: ts => .cons (Dq.str t) (DqAll.strs ts)
theorem k_addIL {i j : Int} {Q : VK} (k : Q (.int (i + j)) H) : rAddA K (.int i) (.int j) H Q := .inl ⟨i, j, rfl, rfl, k⟩
theorem k_cat {a b : Addr} {xs ys : List V} {Q : VK} (h1 : H a = some (.lst xs)) (h2 : H b = some (.lst ys)) (hl : xs.length + ys.length ≤ 100000) (k : ∀ p, H p = none → Q (.ref p) (upd H p (.lst (xs ++ ys)))) : rAddA K (.ref a) (.ref b) H Q :=
  .inr (.inr (.inl ⟨a, b, xs, ys, rfl, rfl, h1, h2, Evl.sz_of hl, k⟩))
end
end L2
set_option Elab.async false
set_option linter.all false
set_option maxRecDepth 100000
set_option maxHeartbeats 4000000
namespace L2
open PySem PySem.Spec PyProof.Rows TL
/-! ### comprehensions whose turns leave the heap but for what is new -/
theorem same_new {H : Hp} {p : Addr} {o : HO} (h : H p = none) : Same H (upd H p o) := fun a u e => by
  rw [upd_ne (ne_of_none e h)]
  exact e
theorem same_mut {H H' : Hp} {p : Addr} {o : HO} (e : Same H H') (h : H p = none) : Same H (upd H' p o) := fun a u ha => by
  rw [upd_ne (ne_of_none ha h)]
  exact e a u ha
theorem range_getD {α β : Type} (l : List α) (d : α) (F : α → β) : (List.range l.length).map (fun i => F (l.getD i d)) = l.map F := by
  refine List.ext_getElem (by simp) fun i h1 h2 => ?_
  simp only [List.getElem_map, List.getElem_range]
  have h3 : i < l.length := by simpa using h1
  rw [List.getD_eq_getElem?_getD, List.getElem?_eq_getElem h3]
  rfl
theorem range_filt {α β : Type} (l : List α) (d : α) (p : α → Bool) (F : α → β) : ((List.range l.length).filter (fun i => p (l.getD i d))).map (fun i => F (l.getD i d)) = (l.filter p).map F := by
  have e : l = (List.range l.length).map fun i => l.getD i d := by
    have := range_getD l d id
    simp only [id] at this
    rw [this]
    simp
  conv => rhs; rw [e]
  rw [List.filter_map, List.map_map]
  rfl
section
variable {K : PySem.W.Frag} {σ : St} {H : Hp} {te : TE} {tt : TT} {vs : List Nat} {Q : VK} {j : Nat} {J : It} {n : Nat} {G : Hp → Prop}
/-- te gives v, whatever new objects it makes -/
def EvS (te : TE) (σ : St) (H : Hp) (v : V) : Prop := ∀ Q : VK, (∀ H2, Same H H2 → Q v H2) → te σ H Q
theorem EvS.of (h : Val te σ H v) : EvS te σ H v := fun Q k => h Q (k H (Same.refl H))
theorem lc_filt (item : Nat → V) (w : Walk J n G (fun i H x H' => H' = H ∧ x = item i)) (g : Nat → Bool) (f : Nat → V) (hn : n ≤ 50000) (hG : ∀ H', Same H H' → G H') (hw : ∀ x, wipe ((wipe σ vs).set j (some x)) vs = wipe σ vs)
    (he : ∀ i H1, i < n → Same H H1 → ∀ QB : Bool → Hp → Prop, (∀ H2, Same H1 H2 → QB (g i) H2) → tt ((wipe σ vs).set j (some (item i))) H1 QB)
    (hf : ∀ i H1, i < n → Same H H1 → g i = true → EvS te ((wipe σ vs).set j (some (item i))) H1 (f i))
    (hd : ∀ D H', H D = none → Same H H' → H' D = some (.lst (((List.range n).filter g).map f)) → Q (.ref D) H') : lcOn (gName j) tt te vs σ Q J H := by
  refine lc_go w (fun D i H' => H D = none ∧ Same H H' ∧ H' D = some (.lst (((List.range i).filter g).map f))) hw (fun D hD => ⟨hD, same_new hD, upd_same⟩) (fun D i H' _ iv => hG H' iv.2.1) (fun D i x H1 H2 hi iv y => ?_) (fun D H' iv => hd D H' iv.1 iv.2.1 iv.2.2)
  obtain ⟨rfl, rfl⟩ := y
  obtain ⟨h1, h2, h3⟩ := iv
  refine he i _ hi h2 _ fun H3 s3 => ?_
  rw [List.range_succ, List.filter_append, List.map_append]
  cases hg : g i with
  | true =>
    rw [if_pos rfl]
    refine hf i _ hi (h2.trans s3) hg _ fun H4 s4 => ⟨_, s4 D _ (s3 D _ h3), ?_, h1, same_mut ((h2.trans s3).trans s4) h1, ?_⟩
    · rw [List.length_map]
      have := List.length_filter_le g (List.range i)
      rw [List.length_range] at this
      exact Evl.sz_lt (by omega)
    · rw [upd_same]
      simp [hg]
  | false =>
    rw [if_neg Bool.false_ne_true]
    refine ⟨h1, h2.trans s3, ?_⟩
    rw [s3 D _ h3]
    simp [hg]
theorem lc_map (item : Nat → V) (w : Walk J n G (fun i H x H' => H' = H ∧ x = item i)) (f : Nat → V) (hn : n ≤ 50000) (hG : ∀ H', Same H H' → G H') (hw : ∀ x, wipe ((wipe σ vs).set j (some x)) vs = wipe σ vs)
    (hf : ∀ i H1, i < n → Same H H1 → EvS te ((wipe σ vs).set j (some (item i))) H1 (f i))
    (hd : ∀ D H', H D = none → Same H H' → H' D = some (.lst ((List.range n).map f)) → Q (.ref D) H') : lcOn (gName j) tYes te vs σ Q J H :=
  lc_filt item w (fun _ => true) f hn hG hw (fun i H1 _ _ QB k => k H1 (Same.refl H1)) (fun i H1 hi s _ => hf i H1 hi s) (fun D H' h1 h2 h3 => hd D H' h1 h2 (by rw [h3, List.filter_eq_self.mpr (fun _ _ => rfl)]))
theorem walk_S {z : Str} : Walk (Its z) (tl z).length (fun _ => True) (fun i H x H' => H' = H ∧ x = .str ⟨#[(tl z).getD i 0]⟩) := by
  have e : (tl z).length = z.cps.size := by simp [tl]
  rw [e]
  refine walk_str.mono (fun _ h => h) (fun i H x H' hi _ y => ?_)
  obtain ⟨y1, c, hc, y2⟩ := y
  refine ⟨y1, ?_⟩
  have hc' : (tl z)[i]? = some c := by simpa [tl] using hc
  rw [y2, List.getD_eq_getElem?_getD, hc']
  rfl
theorem walk_L {a : Addr} {xs : List V} : Walk (Itl K a) xs.length (fun H => SqL K H a xs) (fun i H x H' => H' = H ∧ x = xs.getD i .non) :=
  walk_list.mono (fun _ h => h) (fun i H x H' _ _ y => ⟨y.1, by rw [List.getD_eq_getElem?_getD, y.2]; rfl⟩)
theorem walk_T {a : Addr} {xs : List V} : Walk (Itt K a) xs.length (fun H => SqT K H a xs) (fun i H x H' => H' = H ∧ x = xs.getD i .non) :=
  walk_tup.mono (fun _ h => h) (fun i H x H' _ _ y => ⟨y.1, by rw [List.getD_eq_getElem?_getD, y.2]; rfl⟩)
/-- [e for c in text] -/
theorem lc_mapS {z : Str} (F : Nat → V) (hn : z.length ≤ 50000) (hw : ∀ x, wipe ((wipe σ vs).set j (some x)) vs = wipe σ vs)
    (hf : ∀ c H1, c ∈ tl z → Same H H1 → EvS te ((wipe σ vs).set j (some (.str ⟨#[c]⟩))) H1 (F c))
    (hd : ∀ D H', H D = none → Same H H' → H' D = some (.lst ((tl z).map F)) → Q (.ref D) H') : lcOn (gName j) tYes te vs σ Q (Its z) H :=
  lc_map _ walk_S (fun i => F ((tl z).getD i 0)) (by rw [← len_tl]; exact hn) (fun _ _ => trivial) hw (fun i H1 hi s => hf _ H1 (by rw [List.getD_eq_getElem?_getD, List.getElem?_eq_getElem hi]; exact List.getElem_mem hi) s) (fun D H' h1 h2 h3 => hd D H' h1 h2 (by rw [h3, range_getD]))
theorem lc_filtS {z : Str} (g : Nat → Bool) (F : Nat → V) (hn : z.length ≤ 50000) (hw : ∀ x, wipe ((wipe σ vs).set j (some x)) vs = wipe σ vs)
    (he : ∀ c H1, c ∈ tl z → Same H H1 → ∀ QB : Bool → Hp → Prop, (∀ H2, Same H1 H2 → QB (g c) H2) → tt ((wipe σ vs).set j (some (.str ⟨#[c]⟩))) H1 QB)
    (hf : ∀ c H1, c ∈ tl z → Same H H1 → EvS te ((wipe σ vs).set j (some (.str ⟨#[c]⟩))) H1 (F c))
    (hd : ∀ D H', H D = none → Same H H' → H' D = some (.lst (((tl z).filter g).map F)) → Q (.ref D) H') : lcOn (gName j) tt te vs σ Q (Its z) H := by
  have hm : ∀ i, i < (tl z).length → (tl z).getD i 0 ∈ tl z := fun i hi => by rw [List.getD_eq_getElem?_getD, List.getElem?_eq_getElem hi]; exact List.getElem_mem hi
  exact lc_filt _ walk_S (fun i => g ((tl z).getD i 0)) (fun i => F ((tl z).getD i 0)) (by rw [← len_tl]; exact hn) (fun _ _ => trivial) hw (fun i H1 hi s => he _ H1 (hm i hi) s) (fun i H1 hi s _ => hf _ H1 (hm i hi) s) (fun D H' h1 h2 h3 => hd D H' h1 h2 (by rw [h3, range_filt]))
/-- [e for x in list], [.. in tuple] -/
theorem lc_mapL {a : Addr} {xs : List V} (F : V → V) (hx : SqL K H a xs) (hn : xs.length ≤ 50000) (hw : ∀ x, wipe ((wipe σ vs).set j (some x)) vs = wipe σ vs)
    (hf : ∀ x H1, x ∈ xs → Same H H1 → EvS te ((wipe σ vs).set j (some x)) H1 (F x))
    (hd : ∀ D H', H D = none → Same H H' → H' D = some (.lst (xs.map F)) → Q (.ref D) H') : lcOn (gName j) tYes te vs σ Q (Itl K a) H :=
  lc_map _ walk_L (fun i => F (xs.getD i .non)) hn (fun _ s => s.seq hx) hw (fun i H1 hi s => hf _ H1 (by rw [List.getD_eq_getElem?_getD, List.getElem?_eq_getElem hi]; exact List.getElem_mem hi) s) (fun D H' h1 h2 h3 => hd D H' h1 h2 (by rw [h3, range_getD]))
theorem lc_mapT {a : Addr} {xs : List V} (F : V → V) (hx : SqT K H a xs) (hn : xs.length ≤ 50000) (hw : ∀ x, wipe ((wipe σ vs).set j (some x)) vs = wipe σ vs)
    (hf : ∀ x H1, x ∈ xs → Same H H1 → EvS te ((wipe σ vs).set j (some x)) H1 (F x))
    (hd : ∀ D H', H D = none → Same H H' → H' D = some (.lst (xs.map F)) → Q (.ref D) H') : lcOn (gName j) tYes te vs σ Q (Itt K a) H :=
  lc_map _ walk_T (fun i => F (xs.getD i .non)) hn (fun _ s => Evl.ex_t s hx) hw (fun i H1 hi s => hf _ H1 (by rw [List.getD_eq_getElem?_getD, List.getElem?_eq_getElem hi]; exact List.getElem_mem hi) s) (fun D H' h1 h2 h3 => hd D H' h1 h2 (by rw [h3, range_getD]))
theorem lc_filtT {a : Addr} {xs : List V} (g : V → Bool) (F : V → V) (hx : SqT K H a xs) (hn : xs.length ≤ 50000) (hw : ∀ x, wipe ((wipe σ vs).set j (some x)) vs = wipe σ vs)
    (he : ∀ x H1, x ∈ xs → Same H H1 → ∀ QB : Bool → Hp → Prop, (∀ H2, Same H1 H2 → QB (g x) H2) → tt ((wipe σ vs).set j (some x)) H1 QB)
    (hf : ∀ x H1, x ∈ xs → Same H H1 → EvS te ((wipe σ vs).set j (some x)) H1 (F x))
    (hd : ∀ D H', H D = none → Same H H' → H' D = some (.lst ((xs.filter g).map F)) → Q (.ref D) H') : lcOn (gName j) tt te vs σ Q (Itt K a) H := by
  have hm : ∀ i, i < xs.length → xs.getD i .non ∈ xs := fun i hi => by rw [List.getD_eq_getElem?_getD, List.getElem?_eq_getElem hi]; exact List.getElem_mem hi
  exact lc_filt _ walk_T (fun i => g (xs.getD i .non)) (fun i => F (xs.getD i .non)) hn (fun _ s => Evl.ex_t s hx) hw (fun i H1 hi s => he _ H1 (hm i hi) s) (fun i H1 hi s _ => hf _ H1 (hm i hi) s) (fun D H' h1 h2 h3 => hd D H' h1 h2 (by rw [h3, range_filt]))
end
end L2
set_option Elab.async false
set_option linter.all false
set_option maxRecDepth 100000
set_option maxHeartbeats 4000000
namespace L2
open PySem PySem.Spec PyProof.Rows TL
/-! ### things of any kind, as data -/
def tyName : PyData → String
  | .none => "NoneType" | .bool _ => "bool" | .int _ => "int" | .str _ => "str" | .list _ => "list" | .tuple _ => "tuple" | .dict _ => "dict"
def Th (K : PySem.W.Frag) (H : Hp) (v : V) (d : PyData) : Prop := Dp K H v d ∨ ∃ a kvs, v = .ref a ∧ H a = some (.dK kvs) ∧ d = .dict []
def isStrD : PyData → Bool | .str _ => true | _ => false
def isTupD : PyData → Bool | .tuple _ => true | _ => false
def isIntD : PyData → Bool | .int _ => true | .bool _ => true | _ => false
def isBoolD : PyData → Bool | .bool _ => true | _ => false
def tyNames : List String := ["NoneType", "bool", "int", "str", "list", "tuple", "dict"]
theorem tyName_in (d : PyData) : tyName d ∈ tyNames := by cases d <;> simp [tyName, tyNames]
theorem kit_str_n : ∀ n ∈ tyNames, kitB n "str" = some (n == "str") := by decide +kernel
theorem kit_str (d : PyData) : kitB (tyName d) "str" = some (isStrD d) := by rw [kit_str_n _ (tyName_in d)]; cases d <;> rfl
theorem kit_tup_n : ∀ n ∈ tyNames, kitB n "tuple" = some (n == "tuple") := by decide +kernel
theorem kit_tup (d : PyData) : kitB (tyName d) "tuple" = some (isTupD d) := by rw [kit_tup_n _ (tyName_in d)]; cases d <;> rfl
theorem kit_int_n : ∀ n ∈ tyNames, kitB n "int" = some (n == "int" || n == "bool") := by decide +kernel
theorem kit_int (d : PyData) : kitB (tyName d) "int" = some (isIntD d) := by rw [kit_int_n _ (tyName_in d)]; cases d <;> rfl
theorem kit_bool_n : ∀ n ∈ tyNames, kitB n "bool" = some (n == "bool") := by decide +kernel
theorem kit_bool (d : PyData) : kitB (tyName d) "bool" = some (isBoolD d) := by rw [kit_bool_n _ (tyName_in d)]; cases d <;> rfl
def rNeg : V → Hp → VK → Prop := rU fun i => .int (-i)
section
variable {K : PySem.W.Frag} {H H' : Hp} {v : V} {d : PyData} {Q : VK} {σ : St} {ta tb te : TE} {c u : TT} {b : Bool}
theorem SqT.ty {a : Addr} {xs : List V} (h : SqT K H a xs) : TyX K H (.ref a) (.type "tuple") := by
  rcases h with (h | ⟨o, h⟩) | ⟨o, its, n, h, hc, _⟩
  · exact .base (.tup h)
  · exact .fTuple h
  · exact .kTuple h hc
theorem SqL.ty {a : Addr} {xs : List V} (h : SqL K H a xs) : TyX K H (.ref a) (.type "list") := by
  rcases h with (h | ⟨o, h⟩) | h
  · exact .base (.lst h)
  · exact .base (.frz h)
  · obtain ⟨o, its, n, h, hc, _⟩ := h
    exact .kList h hc
theorem Th.ty (h : Th K H v d) : TyX K H v (.type (tyName d)) := by
  rcases h with h | ⟨a, kvs, rfl, h, rfl⟩
  · cases h with
    | non => exact .base .non
    | bl x => exact .base (.bl x)
    | int i => exact .base (.int i)
    | str x => exact .base (.str x)
    | lst h _ => exact h.ty
    | tup h _ => exact h.ty
  · exact .base (.dK h)
theorem Th.up (h : Th K H v d) (s : Same H H') : Th K H' v d := by
  rcases h with h | ⟨a, kvs, rfl, h, rfl⟩
  · exact .inl (h.up s)
  · exact .inr ⟨a, kvs, rfl, s _ _ h, rfl⟩
theorem k_isiD {n : String} (h : Th K H v d) (e : kitB (tyName d) n = some b) (k : Q (.bl b) H) : rIsi K [v, .ty n] H Q := k_isi h.ty (kit_ty e) k
theorem k_next {D : Ends} (k : D.nx σ H) : tNext D σ H := k
theorem k_eqInt {i j : Int} (k : Q (.bl (decide (i = j))) H) : rEqA K (.int i) (.int j) H Q := .inl ⟨rfl, by rw [show decide (V.int i = V.int j) = decide (i = j) from decide_eq_decide.mpr ⟨V.int.inj, congrArg V.int⟩]; exact k⟩
theorem k_neInt {i j : Int} (k : Q (.bl (!decide (i = j))) H) : rNeA K (.int i) (.int j) H Q := .inl ⟨rfl, by rw [show decide (V.int i = V.int j) = decide (i = j) from decide_eq_decide.mpr ⟨V.int.inj, congrArg V.int⟩]; exact k⟩
theorem k_eqStr {i j : Str} (k : Q (.bl (decide (i = j))) H) : rEqA K (.str i) (.str j) H Q := .inl ⟨rfl, by rw [show decide (V.str i = V.str j) = decide (i = j) from decide_eq_decide.mpr ⟨V.str.inj, congrArg V.str⟩]; exact k⟩
theorem k_neStr {i j : Str} (k : Q (.bl (!decide (i = j))) H) : rNeA K (.str i) (.str j) H Q := .inl ⟨rfl, by rw [show decide (V.str i = V.str j) = decide (i = j) from decide_eq_decide.mpr ⟨V.str.inj, congrArg V.str⟩]; exact k⟩
theorem k_un {r : V → Hp → VK → Prop} (k : ta σ H fun x H1 => r x H1 Q) : tUn r ta σ H Q := k
theorem k_neg {i : Int} (k : Q (.int (-i)) H) : rNeg (.int i) H Q := ⟨i, rfl, k⟩
theorem k_andV (k : ta σ H fun x H1 => isB x H1 fun c H2 => if c = true then tb σ H2 Q else Q (.bl false) H2) : tAndV ta tb σ H Q := k
theorem k_orV (k : ta σ H fun x H1 => isB x H1 fun c H2 => if c = true then Q (.bl true) H2 else tb σ H2 Q) : tOrV ta tb σ H Q := k
theorem k_notV (k : ta σ H fun x H1 => isB x H1 fun c H2 => Q (.bl (!c)) H2) : tNotV ta σ H Q := k
theorem k_iteB {A B : Prop} (h : if b then A else B) : if b = true then A else B := h
/-- x in a written tuple of data -/
def rInT (K : PySem.W.Frag) : R2 := fun x y H Q => ∃ d ds, Dp K H x d ∧ Dp K H y (.tuple ds) ∧ SeqAt.shaped d = true ∧ SeqAt.shaped (.tuple ds) = true ∧ Q (.bl (ds.any fun z => PyData.eqv z d)) H
theorem rv_inTD {d : PyData} {ds : List PyData} {x y : V} (h1 : Dp K H x d) (h2 : Dp K H y (.tuple ds)) (s1 : SeqAt.shaped d = true) (s2 : SeqAt.shaped (.tuple ds) = true) : RV0 (rInT K) x y H (.bl (ds.any fun z => PyData.eqv z d)) := fun _ q => ⟨d, ds, h1, h2, s1, s2, q⟩
/-- a, b = a tuple -/
theorem k_unp2 {a : Addr} {x y : V} {i j : Nat} {Qs : St → Hp → Prop} (h : SqT K H a [x, y]) (k : Qs ((σ.set i (some x)).set j (some y)) H) : gTup K 2 (gCons (gName i) (gCons (gName j) gNil)) (.ref a) σ H Qs :=
  ⟨a, [x, y], rfl, h, rfl, x, [y], rfl, y, [], rfl, rfl, k⟩
/-! comprehensions over data -/
theorem DpAll.getD {vs : List V} {ds : List PyData} (h : DpAll K H vs ds) {i : Nat} (hi : i < ds.length) : Dp K H (vs.getD i .non) (ds.getD i .none) := by
  obtain ⟨v, hv, hd⟩ := DpAll.get h (i := i) (d := ds.getD i .none) (by rw [List.getD_eq_getElem?_getD, List.getElem?_eq_getElem hi]; rfl)
  rw [List.getD_eq_getElem?_getD, hv]
  exact hd
theorem getD_mem {α : Type} {l : List α} {i : Nat} {d : α} (h : i < l.length) : l.getD i d ∈ l := by
  rw [List.getD_eq_getElem?_getD, List.getElem?_eq_getElem h]
  exact List.getElem_mem h
theorem lc_mapTD {te : TE} {vs : List Nat} {j : Nat} {a : Addr} {xs : List V} {ds : List PyData} (F : PyData → V) (hx : SqT K H a xs) (ha : DpAll K H xs ds) (hn : ds.length ≤ 50000) (hw : ∀ x, wipe ((wipe σ vs).set j (some x)) vs = wipe σ vs)
    (hf : ∀ v d H1, d ∈ ds → Dp K H1 v d → Same H H1 → EvS te ((wipe σ vs).set j (some v)) H1 (F d))
    (hd : ∀ D H', H D = none → Same H H' → H' D = some (.lst (ds.map F)) → Q (.ref D) H') : lcOn (gName j) tYes te vs σ Q (Itt K a) H := by
  have hl := DpAll.len ha
  refine lc_map _ walk_T (fun i => F (ds.getD i .none)) (by omega) (fun _ s => Evl.ex_t s hx) hw (fun i H1 hi s => hf _ _ H1 (getD_mem (by omega)) ((ha.getD (by omega)).up s) s) (fun D H' h1 h2 h3 => hd D H' h1 h2 (by rw [h3, hl, range_getD]))
theorem lc_mapLD {te : TE} {vs : List Nat} {j : Nat} {a : Addr} {xs : List V} {ds : List PyData} (F : PyData → V) (hx : SqL K H a xs) (ha : DpAll K H xs ds) (hn : ds.length ≤ 50000) (hw : ∀ x, wipe ((wipe σ vs).set j (some x)) vs = wipe σ vs)
    (hf : ∀ v d H1, d ∈ ds → Dp K H1 v d → Same H H1 → EvS te ((wipe σ vs).set j (some v)) H1 (F d))
    (hd : ∀ D H', H D = none → Same H H' → H' D = some (.lst (ds.map F)) → Q (.ref D) H') : lcOn (gName j) tYes te vs σ Q (Itl K a) H := by
  have hl := DpAll.len ha
  refine lc_map _ walk_L (fun i => F (ds.getD i .none)) (by omega) (fun _ s => s.seq hx) hw (fun i H1 hi s => hf _ _ H1 (getD_mem (by omega)) ((ha.getD (by omega)).up s) s) (fun D H' h1 h2 h3 => hd D H' h1 h2 (by rw [h3, hl, range_getD]))
/-! shapes -/
theorem shaped_cons {d : PyData} {ds : List PyData} (h : SeqAt.shaped (.tuple (d :: ds)) = true) : SeqAt.shaped d = true ∧ SeqAt.shaped (.tuple ds) = true := by
  have h1 := SeqAt.canLay_of_shaped h
  have h2 := SeqAt.depth_of_shaped h
  have h3 : (d.canLay0 && PyData.canLayAll0 ds) = true := h1
  have h4 : max d.depth (PyData.depthAll ds) + 1 ≤ 64 := h2
  rw [Bool.and_eq_true] at h3
  refine ⟨?_, ?_⟩
  · unfold SeqAt.shaped
    rw [h3.1, Bool.true_and, decide_eq_true_eq]
    omega
  · unfold SeqAt.shaped
    show (PyData.canLayAll0 ds && decide (PyData.depthAll ds + 1 ≤ 64)) = true
    rw [h3.2, Bool.true_and, decide_eq_true_eq]
    omega
end
section
variable {X : Cx} (K : PySem.W.Frag)
theorem un_negA : UnR X (unaryOp .USub) rNeg := un_neg
theorem inTK {k : Nat} (hr : Room k X.A) (h : X.K = K := by rfl) : OpR X (compareOp .In) (rInT K) := by
  subst h
  intro pins s σ H x y v u Q I rx ry h
  obtain ⟨d, ds, hd, he, sd, se, q⟩ := h
  obtain ⟨as, r1⟩ := Dp.reads I d x v hd rx
  obtain ⟨bs, r2⟩ := Dp.reads I (.tuple ds) y u he ry
  exact SeqAt.in_tuple_reads r2 r1 (SeqAt.canLay_of_shaped se) (SeqAt.canLay_of_shaped sd) (room_in_shaped sd (hu65 hr)) ⟨.bl _, H, I, rfl, q⟩
theorem tupleK {es : List Expr} {k : Nat} {t : TGs} {n : Nat} {pos : Pos} (hc : X.calm = true) (h : PGs X es t) (hK : X.K = K := by rfl)
    (hn : (assignEach es X.env).length = n := by rfl) (hst : (assignEach es X.env).findIdx? (·.1) = none := by rfl) : PG X (.Tuple es k pos) (gTup K n t) := by subst hK; exact pg_tup hc h hn hst
end
end L2
set_option Elab.async false
set_option linter.all false
/-! The mirror: conditions over texts (lists of code points), in plain Lean. -/
namespace Mi
open PySem L2 TL
/-- a condition of another kind than not -/
inductive C0 where
  | vowel | runs (m : Int) | ends (ts : List Str) | double | least (k : Int) | shape (s : Str)
inductive Cond where
  | pos (c : C0) | neg (c : C0)
def runs (vs : List Nat) : List Nat → Nat
  | a :: b :: r => (if a ∈ vs ∧ b ∉ vs then 1 else 0) + runs vs (b :: r)
  | _ => 0
def kinds (vs : List Nat) (r : List Nat) : List Nat := r.map fun c => if c ∈ vs then 118 else 111
def suff (e r : List Nat) : Bool := decide (e.length ≤ r.length) && decide (r.drop (r.length - e.length) = e)
def dbl (vs : List Nat) (r : List Nat) : Bool :=
  match r.reverse with
  | a :: b :: _ => decide (a = b) && decide (a ∉ vs)
  | _ => false
def met0 (vs : List Nat) (r : List Nat) : C0 → Bool
  | .vowel => r.any fun c => decide (c ∈ vs)
  | .runs m => decide (m ≤ (runs vs r : Int))
  | .ends ts => ts.any fun t => suff (tl t) r
  | .double => dbl vs r
  | .least k => decide (k ≤ (r.length : Int))
  | .shape s => suff (tl s) (kinds vs r)
def met (vs : List Nat) (r : List Nat) : Cond → Bool
  | .pos c => met0 vs r c
  | .neg c => !met0 vs r c
/-! ### as data -/
def enc0 : C0 → PyData
  | .vowel => .tuple [.str "vowel"]
  | .runs m => .tuple [.str "runs", .int m]
  | .ends ts => .tuple [.str "ends", .tuple (ts.map .str)]
  | .double => .tuple [.str "double"]
  | .least k => .tuple [.str "least", .int k]
  | .shape s => .tuple [.str "shape", .str s]
def enc : Cond → PyData
  | .pos c => enc0 c
  | .neg c => .tuple [.str "not", enc0 c]
/-- what makes it a condition -/
def ok0 : C0 → Prop
  | .runs m => 0 ≤ m
  | .least k => 0 ≤ k
  | .shape s => ∀ c ∈ tl s, c = 118 ∨ c = 111
  | _ => True
def okc : Cond → Prop
  | .pos c => ok0 c
  | .neg c => ok0 c

/-! ### lemmas -/
theorem runs_step (vs : List Nat) : ∀ (r : List Nat) (i : Nat), i + 1 < r.length →
    runs vs (r.take (i + 2)) = runs vs (r.take (i + 1)) + (if r.getD i 0 ∈ vs ∧ r.getD (i + 1) 0 ∉ vs then 1 else 0)
  | [], i, h => by simp at h
  | [_], i, h => by simp at h
  | a :: b :: r, 0, h => by simp [runs]
  | a :: b :: r, i + 1, h => by
    have ih := runs_step vs (b :: r) i (by simpa using h)
    have e1 : (a :: b :: r).take (i + 1 + 2) = a :: (b :: r).take (i + 2) := rfl
    have e2 : (a :: b :: r).take (i + 1 + 1) = a :: (b :: r).take (i + 1) := rfl
    have e3 : (b :: r).take (i + 2) = b :: r.take (i + 1) := rfl
    have e4 : (b :: r).take (i + 1) = b :: r.take i := rfl
    rw [e1, e2, e3, e4]
    simp only [runs]
    rw [e3, e4] at ih
    simp only [List.getD_cons_succ] at ih ⊢
    omega
theorem runs_zero (vs : List Nat) (r : List Nat) : runs vs (r.take 1) = 0 := by
  cases r with
  | nil => rfl
  | cons a r => rfl
theorem kinds_length (vs r : List Nat) : (kinds vs r).length = r.length := by simp [kinds]
theorem suff_nil (r : List Nat) : suff [] r = true := by simp [suff]
end Mi
set_option Elab.async false
set_option linter.all false
/-! what is a condition, over data -/
namespace Mi
open PySem L2 TL
def isNum : PyData → Bool
  | .int i => decide (0 ≤ i)
  | _ => false
def isTextOf (d : PyData) (y : Str) : Bool := match d with
  | .str x => (tl x).all fun c => decide (c ∈ tl y)
  | _ => false
def isTexts : PyData → Bool
  | .tuple ts => ts.all isStrD
  | _ => false
def inT (ws : List Str) (d : PyData) : Bool := (ws.map PyData.str).any fun z => PyData.eqv z d
def isPl : PyData → Bool
  | .tuple [a] => inT ["vowel", "double"] a
  | .tuple [k, v] => if inT ["runs", "least"] k then isNum v else if PyData.eqv k (.str "ends") then isTexts v else PyData.eqv k (.str "shape") && isTextOf v "vo"
  | _ => false
def isCd : PyData → Bool
  | .tuple [a, b] => if PyData.eqv a (.str "not") then isPl b else isPl (.tuple [a, b])
  | d => isPl d
/-- texts within are not too long -/
def szd : PyData → Prop
  | .str x => x.length ≤ 50000
  | .tuple ds => ds.length ≤ 50000
  | _ => True
end Mi
set_option Elab.async false
set_option linter.all false
set_option maxRecDepth 100000
set_option maxHeartbeats 4000000
namespace L2
open PySem PySem.Spec PyProof.Rows TL
/-! ### zip of two texts -/
def ItzS (x y : Str) : It :=
  ⟨fun i _ => i < min x.cps.size y.cps.size, fun i H v H' => ∃ (T : Addr) (c d : Nat), v = .ref T ∧ H T = none ∧ H' = upd H T (.tup [.str ⟨#[c]⟩, .str ⟨#[d]⟩]) ∧ x.cps[i]? = some c ∧ y.cps[i]? = some d, fun i _ => i = min x.cps.size y.cps.size⟩
def zsSt (x y : Str) (tx ty : Tok) (z TI TO i1 i2 : Addr) (i : Nat) (h : Heap) : Prop :=
  IsZip h z TI TO .none ∧ IsTupOf2 h TI (.ref i1) (.ref i2) ∧ (∃ a1 a2, IsTupOf2 h TO a1 a2) ∧ h.IsStrIter i1 (strIterType x) x tx i ∧ h.IsStrIter i2 (strIterType y) y ty i
theorem turn_zipS {P : Program} {w : World} {K : PySem.W.Frag} {elts : List Expr} {kk : Nat} {tpos : Pos} {z TI TO i1 i2 : Addr} (x y : Str) (tx ty : Tok) (D : ZipSep2 z TI TO i1 i2 [i1] [i2]) :
    Turn P w K (.Tuple elts kk tpos) (ItzS x y) [z, TI, TO, i1, i2] z (zsSt x y tx ty z TI TO i1 i2) where
  mem := by simp
  obj := fun i h st c hc => by
    obtain ⟨hz, hTI, ⟨a, b, hTO⟩, ⟨o1, e1, _, d1⟩, ⟨o2, e2, _, d2⟩⟩ := st
    have e' : c = z ∨ c = TI ∨ c = TO ∨ c = i1 ∨ c = i2 := by simpa using hc
    rcases e' with q | q | q | q | q
    · rw [q]; exact ⟨_, hz, fun v q => nomatch q⟩
    · rw [q]; exact ⟨_, hTI, fun v q => nomatch q⟩
    · rw [q]; exact ⟨_, hTO, fun v q => nomatch q⟩
    · rw [q]; exact ⟨o1, e1, fun v q => by rw [d1] at q; cases q⟩
    · rw [q]; exact ⟨o2, e2, fun v q => by rw [d2] at q; cases q⟩
  keep := fun i h h' st k => by
    obtain ⟨hz, hTI, ⟨a, b, hTO⟩, ⟨o1, e1, r1⟩, ⟨o2, e2, r2⟩⟩ := st
    exact ⟨k z (by simp) _ hz, k TI (by simp) _ hTI, ⟨a, b, k TO (by simp) _ hTO⟩, ⟨o1, k i1 (by simp) _ e1, r1⟩, ⟨o2, k i2 (by simp) _ e2, r2⟩⟩
  item := by
    intro X hP hw hK hc i pins s σ H E I hf st hg
    subst hP hw hK
    have W := WalksT.zipD2 (prog := X.prog) (w := X.w) (A := X.A) D (Draws.text (prog := X.prog) (w := X.w) (A := X.A.in1) (I.ok.hd hc) i1 x tx) (Draws.text (prog := X.prog) (w := X.w) (A := X.A.in1) (I.ok.hd hc) i2 y ty)
    refine W.item i s _ _ hg st fun T vals h' tk hP hT hTup hM hk => ?_
    obtain ⟨x1, x2, ⟨c, u, hcx, rfl⟩, ⟨d, u2, hdx, rfl⟩, rfl⟩ := hP
    have hTn : T ∉ [z, TO, i1, i2] := W.apart i T h' hM
    refine ⟨_, rfl, W.go elts kk tpos i T { s with heap := h', toks := tk } _ _ hM fun h'' st2 hk2 => ?_⟩
    obtain ⟨oT, eT, cT, nT, dT⟩ := hTup
    have hT2 : h''.get? T = some oT := hk2 T oT hTn eT
    have new : ObjOk X.prog X.w (upd H T (.tup [.str ⟨#[c]⟩, .str ⟨#[d]⟩])) h'' T (.tup [.str ⟨#[c]⟩, .str ⟨#[d]⟩]) :=
      ⟨by show 2 ≤ sizeLine; decide, [.str ⟨#[c]⟩ u, .str ⟨#[d]⟩ u2], .cons ⟨_, rfl⟩ (.cons ⟨_, rfl⟩ .nil), ⟨oT, hT2, cT, nT, dT⟩⟩
    have I1 : Inv X pins σ (upd H T (.tup [.str ⟨#[c]⟩, .str ⟨#[d]⟩])) { s with heap := h'', toks := tk } :=
      I.turnedNew (t' := tk) (ch := [z, TI, TO, i1, i2]) (fun b o hb q => hk2 b o (fun hm => hb (by simp at hm ⊢; rcases hm with e | e | e | e <;> simp [e])) (hk b o (fun hm => hb (by simp at hm ⊢; rcases hm with e | e | e | e <;> simp [e])) q)) hf hT new
    refine ⟨.ref T, _, I1, rfl, ⟨T, c, d, rfl, I.hok.fresh hT, rfl, hcx, hdx⟩, st2, fun b hb => ?_⟩
    obtain ⟨hz0, hTI0, ⟨a0, b0, hTO0⟩, ⟨o1, e1, _⟩, ⟨o2, e2, _⟩⟩ := st
    have hlt : b < s.heap.objs.size := by
      have e' : b = z ∨ b = TI ∨ b = TO ∨ b = i1 ∨ b = i2 := by simpa using hb
      rcases e' with q | q | q | q | q
      · rw [q]; exact Heap.lt_size hz0
      · rw [q]; exact Heap.lt_size hTI0
      · rw [q]; exact Heap.lt_size hTO0
      · rw [q]; exact Heap.lt_size e1
      · rw [q]; exact Heap.lt_size e2
    rw [upd_ne (Nat.ne_of_lt (Nat.lt_of_lt_of_le hlt hT))]
    exact (hf b hb).1
  done := by
    intro X hP hw hK hc i pins s σ H E I hf st hg
    subst hP hw hK
    have W := WalksT.zipD2 (prog := X.prog) (w := X.w) (A := X.A) D (Draws.text (prog := X.prog) (w := X.w) (A := X.A.in1) (I.ok.hd hc) i1 x tx) (Draws.text (prog := X.prog) (w := X.w) (A := X.A.in1) (I.ok.hd hc) i2 y ty)
    have hg' : i = min x.cps.size y.cps.size := hg
    subst hg'
    exact W.done s _ _ st fun h' tk hk => ⟨rfl, I.turnedL (t' := tk) (ch := [z, TI, TO, i1, i2]) (fun b o hb q => hk b o (fun hm => hb (by simp at hm ⊢; rcases hm with e | e | e | e <;> simp [e])) q) hf⟩
  self := fun A i s Q E st h => wpAny_pyIter_zip st.1 h
def onZS (vs : List V) (H : Hp) (R : It → Hp → Prop) : Prop := ∃ x y : Str, vs = [.str x, .str y] ∧ R (ItzS x y) H
def iZipS (ta : TA) : TI := fun σ H R => ta σ H fun vs H1 => onZS vs H1 R
theorem pi_zipS {X : Cx} {e e2 : Expr} {ta : TA} {p pos tpos : Pos} {elts : List Expr} {kk : Nat} (hg : Gl X "zip") (hm : X.mg "zip" = none) (ha : PA X [e, e2] ta)
    (hs : starEach [e, e2] X.env = (false, eval e X.env) :: starEach [e2] X.env := by rfl) (hpl : (backTo pos (starEach [e2] X.env)).any (·.1) = false := by rfl) :
    PI X (.Tuple elts kk tpos) (.Call (.Name "zip" p) [e, e2] [] pos) (iZipS ta) := by
  refine ⟨fun pins s σ H R I h => ?_⟩
  refine Call_ (ld_blt I hg hm PyProof.Rows.boot_zip (PyProof.Rows.callWith_type1 (thn (ha.run pos pins s σ H _ I h) fun us s1 ⟨vs, H1, I1, r1, q1⟩ => ?_) hs hpl))
  obtain ⟨x, y, ex, q⟩ := q1
  subst ex
  cases r1 with
  | cons r rr =>
    cases rr with
    | cons r' rr =>
      cases rr
      obtain ⟨tx, rfl⟩ := r
      obtain ⟨ty, rfl⟩ := r'
      refine zip_begins2 (begins_text x tx) (begins_text y ty) trivial trivial fun h' hz hTI hTO h1 h2 hsz hk => wpAny_pyIter_zip hz ?_
      have I2 : Inv X pins σ H1 { s1 with heap := h' } := I1.kept (t' := s1.toks) hk
      refine ⟨s1.heap.objs.size + 4, [s1.heap.objs.size + 4, s1.heap.objs.size + 2, s1.heap.objs.size + 3, s1.heap.objs.size, s1.heap.objs.size + 1], _, _, H1, rfl, I2, turn_zipS x y tx ty (zip_sep2 (N := s1.heap.objs.size) (fp1 := []) (fp2 := []) (by simp) (by simp)), ⟨hz, hTI, ⟨_, _, hTO⟩, ⟨_, h1, rfl, rfl⟩, ⟨_, h2, rfl, rfl⟩⟩, fun c hcm => ?_, q⟩
      have e' : c = s1.heap.objs.size + 4 ∨ c = s1.heap.objs.size + 2 ∨ c = s1.heap.objs.size + 3 ∨ c = s1.heap.objs.size ∨ c = s1.heap.objs.size + 1 := by simpa using hcm
      have hle : s1.heap.objs.size ≤ c := by
        rcases e' with z | z | z | z | z
        · rw [z]; exact Nat.le_add_right _ _
        · rw [z]; exact Nat.le_add_right _ _
        · rw [z]; exact Nat.le_add_right _ _
        · rw [z]; exact Nat.le_refl _
        · rw [z]; exact Nat.le_add_right _ _
      exact I1.fpOk hle (I1.hok.fresh hle)
theorem walk_ZS {x y : Str} : Walk (ItzS x y) (min (tl x).length (tl y).length) (fun _ => True) (fun i H v H' => ∃ T : Addr, v = .ref T ∧ H T = none ∧ H' = upd H T (.tup [.str ⟨#[(tl x).getD i 0]⟩, .str ⟨#[(tl y).getD i 0]⟩])) := by
  have e1 : (tl x).length = x.cps.size := by simp [tl]
  have e2 : (tl y).length = y.cps.size := by simp [tl]
  rw [e1, e2]
  refine ⟨fun i H hi _ => hi, fun H _ => rfl, fun i H v H' _ _ yy => ?_⟩
  obtain ⟨T, c, d, rfl, hT, rfl, hc, hd⟩ := yy
  have hc' : (tl x)[i]? = some c := by simpa [tl] using hc
  have hd' : (tl y)[i]? = some d := by simpa [tl] using hd
  refine ⟨T, rfl, hT, ?_⟩
  rw [List.getD_eq_getElem?_getD, List.getD_eq_getElem?_getD, hc', hd']
  rfl
end L2
set_option Elab.async false
set_option linter.all false
set_option maxRecDepth 100000
set_option maxHeartbeats 4000000
namespace L2
open PySem PySem.Spec PyProof.Rows TL
section
variable {K : PySem.W.Frag} {σ : St} {H : Hp} {te : TE} {tt : TT} {vs : List Nat} {Q : VK} {j j1 j2 : Nat}
theorem zip_range (x y : List Nat) (F : Nat → Nat → V) : (List.range (min x.length y.length)).map (fun i => F (x.getD i 0) (y.getD i 0)) = (x.zip y).map fun p => F p.1 p.2 := by
  refine List.ext_getElem (by simp) fun i h1 h2 => ?_
  have h3 : i < min x.length y.length := by simpa using h1
  have hx : i < x.length := by omega
  have hy : i < y.length := by omega
  simp only [List.getElem_map, List.getElem_range, List.getElem_zip]
  rw [List.getD_eq_getElem?_getD, List.getD_eq_getElem?_getD, List.getElem?_eq_getElem hx, List.getElem?_eq_getElem hy]
  rfl
theorem k_sl {r : V → Option Int → Option Int → Hp → VK → Prop} {tlo thi : TO} (k : te σ H fun x H1 => tlo σ H1 fun lo H2 => thi σ H2 fun hi H3 => r x lo hi H3 Q) : tSl r te tlo thi σ H Q := k
def isI (x : V) (H : Hp) (R : Option Int → Hp → Prop) : Prop := ∃ i, x = .int i ∧ R (some i) H
theorem k_part {R : Option Int → Hp → Prop} (k : te σ H fun x H1 => isI x H1 R) : tPart te σ H R := k
theorem k_isI {i : Int} {R : Option Int → Hp → Prop} (k : R (some i) H) : isI (.int i) H R := ⟨i, rfl, k⟩
theorem k_nopart {R : Option Int → Hp → Prop} (k : R none H) : tNoPart σ H R := k
theorem sign_eq (a b : Nat) : decide ((⟨#[a]⟩ : Str) = ⟨#[b]⟩) = decide (a = b) := decide_eq_decide.mpr ⟨fun h => by
    have := congrArg tl h
    simpa [tl] using this, fun h => by rw [h]⟩
theorem k_lcZS {ta : TA} {g : TG} (k : ta σ H fun vs1 H1 => onZS vs1 H1 (lcOn g tt te vs σ Q)) : tLc (iZipS ta) g tt te vs σ H Q := k
theorem k_onZS {x y : Str} {R : It → Hp → Prop} (k : R (ItzS x y) H) : onZS [.str x, .str y] H R := ⟨x, y, rfl, k⟩
/-- [e for a, b in zip(text, text)] -/
theorem lc_mapZS {x y : Str} (F : Nat → Nat → V) (hn : x.length ≤ 50000) (hw : ∀ a b, wipe (((wipe σ vs).set j1 (some a)).set j2 (some b)) vs = wipe σ vs)
    (hf : ∀ c d H1, Same H H1 → EvS te (((wipe σ vs).set j1 (some (.str ⟨#[c]⟩))).set j2 (some (.str ⟨#[d]⟩))) H1 (F c d))
    (hd : ∀ D H', H D = none → Same H H' → H' D = some (.lst (((tl x).zip (tl y)).map fun p => F p.1 p.2)) → Q (.ref D) H') : lcOn (gTup K 2 (gCons (gName j1) (gCons (gName j2) gNil))) tYes te vs σ Q (ItzS x y) H := fun D hD => by
  refine lc_it walk_ZS (fun i H' => Same H H' ∧ H' D = some (.lst ((List.range i).map fun k => F ((tl x).getD k 0) ((tl y).getD k 0)))) ⟨same_new hD, upd_same⟩ (fun _ _ _ _ => trivial) (fun i v H1 H2 hi iv yy => ?_) (fun H' iv => ?_)
  · obtain ⟨T, rfl, hT, rfl⟩ := yy
    obtain ⟨s1, e1⟩ := iv
    have s2 : Same H1 (upd H1 T (.tup [.str ⟨#[(tl x).getD i 0]⟩, .str ⟨#[(tl y).getD i 0]⟩])) := same_new hT
    refine k_unp2 (Evl.st_of upd_same) ⟨hw _ _, ?_⟩
    refine k_yes (iteT ?_)
    refine hf _ _ _ (s1.trans s2) _ fun H4 s4 => ⟨_, s4 D _ (s2 D _ e1), ?_, same_mut ((s1.trans s2).trans s4) hD, ?_⟩
    · rw [List.length_map, List.length_range]
      exact Evl.sz_lt (by rw [← len_tl] at hi; omega)
    · rw [upd_same, List.range_succ, List.map_append]
      rfl
  · exact hd D H' hD iv.1 (by rw [iv.2, zip_range])
theorem tl_cut_from {z : Str} {k : Nat} (h : k ≤ z.length) : cutS z (some (k : Int)) none = mk ((tl z).drop k) := by
  refine ext_tl ?_
  show (z.cps.toList.drop (HT.sIx z.length 0 (some (k : Int)))).take (HT.sIx z.length z.length none - HT.sIx z.length 0 (some (k : Int))) = (tl z).drop k
  rw [HT.sIx_nat, HT.sIx_none, Nat.min_eq_left h]
  refine List.take_of_length_le ?_
  rw [List.length_drop]
  have := len_tl z
  simp only [tl] at this
  omega
theorem tl_cut_to {z : Str} {k : Nat} (h : k ≤ z.length) : cutS z none (some (k : Int)) = mk ((tl z).take k) := by
  refine ext_tl ?_
  show (z.cps.toList.drop (HT.sIx z.length 0 none)).take (HT.sIx z.length z.length (some (k : Int)) - HT.sIx z.length 0 none) = (tl z).take k
  rw [HT.sIx_nat, HT.sIx_none, Nat.min_eq_left h]
  rfl
theorem at_neg {α : Type} {xs : List α} {k : Nat} {v : α} (h0 : 0 < k) (h : k ≤ xs.length) (e : xs[xs.length - k]? = some v) : atI xs (-(k : Int)) = some v := by
  have e1 : ixN xs.length (-(k : Int)) = some (xs.length - k) := by
    unfold ixN
    rw [if_neg (by omega), if_pos (by omega)]
    congr 1
    omega
  unfold atI
  rw [e1]
  exact e
end
end L2
namespace Mi
open PySem PySem.Spec PyProof.Rows L2 TL
theorem ends_suff (x y : Str) : Txt.endswith x y = suff (tl y) (tl x) := by
  unfold Txt.endswith suff
  rw [Nat.zero_add]
  by_cases h : y.length ≤ x.length
  · have h' : (tl y).length ≤ (tl x).length := by rw [← len_tl, ← len_tl]; exact h
    rw [decide_eq_true h, decide_eq_true h', Bool.true_and, Bool.true_and, PySem.StrLaws.subAt_eq]
    have hl : ((tl x).drop (x.length - y.length)).length = y.length := by
      rw [List.length_drop, ← len_tl]
      omega
    have e : ((tl x).drop (x.length - y.length)).take y.length = (tl x).drop ((tl x).length - (tl y).length) := by
      rw [List.take_of_length_le (by omega), len_tl, len_tl]
    show ((((tl x).drop (x.length - y.length)).take y.length) == tl y) = _
    rw [e]
    rw [Bool.eq_iff_iff]; simp
  · have h' : ¬ (tl y).length ≤ (tl x).length := by rw [← len_tl, ← len_tl]; exact h
    rw [decide_eq_false h, decide_eq_false h', Bool.false_and, Bool.false_and]
end Mi
set_option Elab.async false
set_option linter.all false
set_option maxRecDepth 100000
set_option maxHeartbeats 4000000
namespace L2
open PySem PySem.Spec PyProof.Rows

/-! ### try with several clauses, each with a name or without -/
/-- a clause: its class, the slot of its name (if it has one), what its suite wishes -/
structure Cl where
  cls : Value
  slot : Option Nat
  ts : Addr → Value → Option Addr → TS
def clPut (c : Option Nat) (a : Addr) (σ : St) : St := match c with
  | none => σ
  | some i => σ.set i (some (.ref a))
def clEnds (c : Option Nat) (D : Ends) : Ends := match c with
  | none => D
  | some i => { nx := fun σ1 H1 => D.nx (σ1.set i none) H1, rt := D.rt, bk := fun σ1 H1 => D.bk (σ1.set i none) H1, ct := fun σ1 H1 => D.ct (σ1.set i none) H1 }
def wCls (K : PySem.W.Frag) (Wout : WX) (D : Ends) : List Cl → WX
  | [] => Wout
  | c :: r => fun cls d σ H =>
    ∃ b, PySem.W.exmOne K cls c.cls = some b ∧
      (b = true → ∀ a, H a = none → c.ts a cls d (clEnds c.slot D) (clPut c.slot a σ) H) ∧
      (b = false → wCls K Wout D r cls d σ H)
/-- what is read of a suite, whatever is caught -/
def Sut (X : Cx) (b₀ : Stmt) (bs : List Stmt) (ts : Addr → Value → Option Addr → TS) : Prop :=
  ∀ (a : Addr) (ob : Obj) (cls : Value) (d : Option Addr) (l : List (Addr × Obj)),
    Zc cls d ob → (∃ vs, ob.data = .fields vs) → PSs (X.suite a ((a, ob) :: l)) (b₀ :: bs) (ts a cls d)
inductive ClsOk (X : Cx) : List ExceptHandler → List Cl → Prop
  | nil : ClsOk X [] []
  | no {x : Str} {c : Value} {ts : Addr → Value → Option Addr → TS} {b₀ : Stmt} {bs : List Stmt} {p q : Pos} {hds : List ExceptHandler} {l : List Cl} :
      Names X x c → Sut X b₀ bs ts → ClsOk X hds l → ClsOk X (.ExceptHandler (some (.Name x p)) none (b₀ :: bs) q :: hds) (⟨c, none, ts⟩ :: l)
  | as {x n : Str} {i : Nat} {c : Value} {ts : Addr → Value → Option Addr → TS} {b₀ : Stmt} {bs : List Stmt} {p q : Pos} {hds : List ExceptHandler} {l : List Cl} :
      Names X x c → X.N[i]? = some n → X.env.kindOf n = some .local → Sut X b₀ bs ts → ClsOk X hds l → ClsOk X (.ExceptHandler (some (.Name x p)) (some n) (b₀ :: bs) q :: hds) (⟨c, some i, ts⟩ :: l)

/-- the exception at a is caught; sI: the state without it -/
structure Dn (X : Cx) (pins : List (Addr × Obj)) (σ : St) (H : Hp) (a : Addr) (cls : Value) (d : Option Addr) (B : Heap) (sI s : Shared) : Prop where
  I : Inv X pins σ H sI
  nb : ∀ b o, sI.heap.get? b = some o → b ∉ frs X.stack → B.get? b = some o
  up : sI.heap.UpToSlots s.heap
  fl : HandSPX.FlyingZ B (X.env :: X.outer) a (Zc cls d) s.heap
  na : H a = none
  os : s.os = sI.os
  ag : AllBare s.gens
section
variable {X : Cx} {pins : List (Addr × Obj)} {σ : St} {H : Hp} {a : Addr} {cls : Value} {d : Option Addr} {B : Heap} {sI s : Shared}
theorem Dn.inv (x : Dn X pins σ H a cls d B sI s) : Inv X pins σ H s := x.I.landed x.nb x.fl.1 x.up x.os x.ag
theorem Dn.move {h : Heap} (x : Dn X pins σ H a cls d B sI s) (f : HandSPX.FlyingZ B (X.env :: X.outer) a (Zc cls d) h) (u : s.heap.UpToSlots h) : Dn X pins σ H a cls d B sI { s with heap := h } :=
  { I := x.I, nb := x.nb, up := x.up.trans u, fl := f, na := x.na, os := x.os, ag := x.ag }
theorem Dn.there (x : Dn X pins σ H a cls d B sI s) (hf : X.env.frame = some X.env.locals) : ∃ ob vs, s.heap.get? a = some ob ∧ Zc cls d ob ∧ ob.data = .fields vs ∧ a ≠ X.env.locals ∧ a ∉ X.fs := by
  obtain ⟨ob, vs, e, z, dt⟩ := x.fl.there
  have nf : a ∉ frs (X.env :: X.outer) := fun m => by
    obtain ⟨_, o2, e2, w⟩ := x.fl.2.2.1.mem m
    cases e.symm.trans e2
    exact w vs dt
  refine ⟨ob, vs, e, z, dt, fun y => nf ?_, fun m => nf ?_⟩
  · refine List.mem_filterMap.mpr ⟨X.env, .head _, ?_⟩
    rw [hf, y]
  · obtain ⟨v, hv, q⟩ := List.mem_filterMap.mp m
    exact List.mem_filterMap.mpr ⟨v, .tail _ hv, q⟩
/-- no clause is left -/
theorem Dn.out {W : WX} {D : Flow → Shared → Prop} (x : Dn X pins σ H a cls d B sI s) (hs : X.stack = X.env :: X.outer) (hf : X.env.frame = some X.env.locals) (tk : Takes X W) (w : W cls d σ H) :
    wpAny (model X.prog X.w) X.A (handleBy (.ref a) X.env []) D X.xe s := by
  refine wpAny_handleBy_nil ?_
  obtain ⟨_, _, _, ob, vs, T, oT, ts', he, hz, dt, h1, hr⟩ := id x.fl
  unfold PySem.passOn
  refine wpAny_bind (wpAny_field he dt h1 ?_)
  have ne : ¬ ((Value.ref T == Value.none) = true) := by simp
  rw [if_neg ne, hf]
  have last : wpAny (model X.prog X.w) X.A (setFlight (.ref a) (some X.env.locals)) (fun _ s4 => wpAny (model X.prog X.w) X.A (throw (.ref a) : Sem Flow) D X.xe s4) X.xe s :=
    HandSPX.setFlight_upZ x.fl fun h4 hh up4 => wpAny_throw (tk _ _ ⟨a, B, sI, pins, σ, H, cls, d, rfl, x.I, x.nb, x.up.trans up4, .inr (.inr (hs ▸ hh)), x.na, x.os, x.ag, w⟩)
  first
    | exact wpAny_bind (wpAny_pure (wpAny_bind last))
    | exact wpAny_bind last
/-- the clauses, one after the other -/
theorem Dn.clauses {Wout : WX} {D : Ends} (x : Dn X pins σ H a cls d B sI s) (hs : X.stack = X.env :: X.outer) (hf : X.env.frame = some X.env.locals) (hN : X.N.Nodup) (tk : Takes X Wout) {hds : List ExceptHandler} {l : List Cl} (ok : ClsOk X hds l)
    (w : wCls X.K Wout D l cls d σ H) : wpAny (model X.prog X.w) X.A (handleBy (.ref a) X.env hds) (SP X pins D) X.xe s := by
  have I0 := x.inv.ok
  obtain ⟨ob, vs, e, z, dt, nL, nF⟩ := x.there hf
  have S := x.inv.suite e dt x.na nL nF
  have LT : PySem.W.Looks (model X.prog X.w) s.heap (typeOf (.ref a)) cls := fun A Q E s k q => wpAny_typeOf_ref (k _ _ e) (by rw [z.1]; exact q)
  have look : ∀ {n : Str} {c : Value} {p : Pos} {Q : Value → Shared → Prop} {E : Value → Shared → Prop}, Names X n c → Q c s → wpAny (model X.prog X.w) (X.A.mark (some (.ref a))) (eval (.Name n p) X.env) Q E s := by
    intro n c p Q E nm q
    rcases nm with ⟨hg, hd, hm | ⟨hm, hv, hnn⟩⟩
    · exact ld_glob (X := X.suite a ((a, ob) :: (X.pn ++ pins))) S hg hm q hd
    · exact ld_blt (X := X.suite a ((a, ob) :: (X.pn ++ pins))) S hg hm hv q hnn hd
  induction ok with
  | nil => exact x.out hs hf tk w
  | no nm su r ih =>
    obtain ⟨b, hb, yes, no⟩ := w
    refine wpAny_handleBy_cons (codeAny_handlers_test (look nm ((PySem.W.exm_one (M := model X.prog X.w) x.inv.kIn LT hb).here ?_))) (by intro q; cases q)
    cases b with
    | false => exact ih (no rfl)
    | true =>
      refine codeAny_handlers_suite (HandSPX.lands_againZ x.fl fun h4 f4 u4 => ?_)
      have y := x.move f4 u4
      obtain ⟨ob4, vs4, e4, z4, dt4, nL4, nF4⟩ := y.there hf
      refine wpAny_mono ((su a ob4 cls d (X.pn ++ pins) z4 ⟨_, dt4⟩).run [] _ _ H _ (y.inv.suite e4 dt4 x.na nL4 nF4) (yes rfl a x.na)) (fun f s6 hsp => ?_) (fun _ _ z => z.elim)
      cases f with
      | ret u =>
        obtain ⟨v6, σ6, H6, S6, r6, q6⟩ := hsp
        exact ⟨v6, σ6, H6, S6.unsuite I0, r6, q6⟩
      | next | brk | cont =>
        obtain ⟨σ6, H6, S6, q6⟩ := hsp
        exact ⟨σ6, H6, S6.unsuite I0, q6⟩
  | @as n1 n i c ts b₀ bs p q hds2 l2 nm hi hl su r ih =>
    obtain ⟨b, hb, yes, no⟩ := w
    refine wpAny_handleBy_cons (codeAny_handlers_test (look nm ((PySem.W.exm_one (M := model X.prog X.w) x.inv.kIn LT hb).here ?_))) (by intro q; cases q)
    cases b with
    | false => exact ih (no rfl)
    | true =>
      refine codeAny_handlers_suite_as (HandSPX.lands_againZ x.fl fun h4 f4 u4 => ?_)
      have y := x.move f4 u4
      obtain ⟨ob4, vs4, e4, z4, dt4, nL4, nF4⟩ := y.there hf
      have S4 := y.inv.suite e4 dt4 x.na nL4 nF4
      refine store_ok (X := X.suite a ((a, ob4) :: (X.pn ++ pins))) (v := .ref a) S4 hN hi (.inl hl) rfl (fun s5 S5 => ?_) (.inr hl)
      refine wpAny_mono ((su a ob4 cls d (X.pn ++ pins) z4 ⟨_, dt4⟩).run [] s5 _ H _ S5 (yes rfl a x.na)) (fun f s6 hsp => ?_) (fun _ _ z => z.elim)
      cases f with
      | ret u =>
        obtain ⟨v6, σ6, H6, S6, r6, q6⟩ := hsp
        exact gone_ok (S6.unsuite I0) hN hi hl fun s7 J7 => ⟨v6, σ6.set i none, H6, J7, r6, q6⟩
      | next | brk | cont =>
        obtain ⟨σ6, H6, S6, q6⟩ := hsp
        exact gone_ok (S6.unsuite I0) hN hi hl fun s7 J7 => ⟨σ6.set i none, H6, J7, q6⟩
end
section
variable {X : Cx} {body : List Stmt} {h₀ : ExceptHandler} {hds : List ExceptHandler} {l : List Cl} {pos : Pos} {tb : WX → TS} {Wout : WX}
/-- the body's own reading, whatever it lets out -/
def Bod (X : Cx) (body : List Stmt) (tb : WX → TS) : Prop :=
  ∀ (W : WX) (pn : List (Addr × Obj)) (xe : Value → Shared → Prop), Takes (X.tr pn xe) W → PassesOwn (model X.prog X.w) X.A X.env xe → PSs (X.tr pn xe) body (tb W)
def tTryC (K : PySem.W.Frag) (Wout : WX) (l : List Cl) (tb : WX → TS) : TS := fun D σ H => tb (wCls K Wout D l) D σ H
theorem ps_tryC (hs : X.stack = X.env :: X.outer) (hf : X.env.frame = some X.env.locals) (hN : X.N.Nodup) (tk : Takes X Wout) (hb : Bod X body tb) (hh : ClsOk X (h₀ :: hds) l) :
    PS X (.Try body (h₀ :: hds) [] [] pos) (tTryC X.K Wout l tb) := by
  refine ⟨fun pins s σ H D I h => wpAny_Try_except ?_⟩
  have ok := I.ok
  have hfr : X.A.frames = some (X.env :: X.outer) := ok.frames.trans (congrArg some hs)
  have R := (hb (wCls X.K Wout D l) (X.pn ++ pins) (fun e s₁ => wpAny (model X.prog X.w) X.A (noteFrame e X.env) (fun _ s₂ => wpAny (model X.prog X.w) X.A (setFlight e none) (fun _ s₃ =>
    wpAny (model X.prog X.w) X.A (handleBy e X.env (h₀ :: hds)) (SP X pins D) X.xe s₃) X.xe s₂) X.xe s₁) (fun u s1 xx => by
      obtain ⟨a, B, sI, pins2, σ2, H2, cls, d, rfl, J, nb, up, sky, na, os, ag, w⟩ := xx
      exact Sky.land Zc.steady hfr hf (hs ▸ sky) fun h3 f3 up3 =>
        Dn.clauses (s := { s1 with heap := h3 }) { I := J.ofTry ok, nb := nb, up := up.trans up3, fl := f3, na := na, os := os, ag := ag } hs hf hN tk hh w) PassesOwn.looking).run [] s σ H D (I.toTry _) h
  refine wpAny_mono R (fun f s1 hsp => ?_) (fun _ _ he => he)
  cases f with
  | next =>
    obtain ⟨σ2, H2, J, q⟩ := hsp
    exact wpAny_execs_nil ⟨σ2, H2, J.ofTry ok, q⟩
  | ret u =>
    obtain ⟨v, σ2, H2, J, r, q⟩ := hsp
    exact ⟨v, σ2, H2, J.ofTry ok, r, q⟩
  | brk | cont =>
    obtain ⟨σ2, H2, J, q⟩ := hsp
    exact ⟨σ2, H2, J.ofTry ok, q⟩
end
end L2

namespace L2
open PySem PySem.Spec PyProof.Rows
section
variable {K : PySem.W.Frag} {σ : St} {H : Hp} {te to : TE} {f : Str} {D : Ends} {C : Addr} {Q : XK}
theorem k_ost (k : te σ H fun y H1 => to σ H1 fun x H2 => ∃ a C : Addr, x = .ref a ∧ OexC K C ∧ PySem.W.findIn K (.ref C) f = some none ∧
    ((H2 a = some (exo a C none) ∧ ∀ dx, H2 dx = none → dx ≠ a → D.nx σ (upd (upd H2 dx (exd dx [(f, y)])) a (exo a C (some dx)))) ∨
      ∃ (dx : Addr) (fs : List (Str × V)), H2 a = some (exo a C (some dx)) ∧ H2 dx = some (exd dx fs) ∧ fs.length ≤ 900 ∧ D.nx σ (upd H2 dx (exd dx ((f, y) :: fs))))) : tOst K f to te D σ H := k
/-- an exception's one field is set -/
def spInit (C : Addr) (f : Str) : Sp := fun vs H Q _ =>
  ∃ (a : Addr) (y : V), vs = [.ref a, y] ∧ H a = some (exo a C none) ∧
    ∀ dx, H dx = none → dx ≠ a → Q .non (upd (upd H dx (exd dx [(f, y)])) a (exo a C (some dx)))
/-- C(e) is made -/
theorem mkO_ok {v : V} (q : ∀ H' dd, Same H H' → H' dd = some (.xd [(f, v)]) → Q (.ref C) (some dd) H') :
    [v].length ≤ 1000 ∧ ∀ a, H a = none → spInit C f (.ref a :: ([v] ++ [])) (upd H a (exo a C none))
      (fun u H2 => u = .non ∧ ∃ (d : Addr) (fs : List (Str × V)), H2 a = some (exo a C (some d)) ∧ H2 d = some (exd d fs) ∧ H d = none ∧ Q (.ref C) (some d) (upd (del H2 a) d (.xd fs))) fun _ _ _ => False := by
  refine ⟨by show (1 : Nat) ≤ 1000; decide, fun a ha => ⟨a, v, rfl, upd_same, fun dx hd ne => ⟨rfl, dx, [(f, v)], upd_same, ?_, ?_, q _ dx (fun b o hb => ?_) upd_same⟩⟩⟩
  · rw [upd_ne ne, upd_same]
  · rw [upd_ne ne] at hd
    exact hd
  · rw [upd_ne ne] at hd
    have n1 : b ≠ dx := fun e => by
      rw [e, hd] at hb
      cases hb
    have n2 : b ≠ a := fun e => by
      rw [e, ha] at hb
      cases hb
    rw [upd_ne n1, del_ne n2, upd_ne n2, upd_ne n1, upd_ne n2]
    exact hb
theorem k_mkV {i : Nat} {v : V} (e : σ[i]? = some (some v)) (q : ∀ H' dd, Same H H' → H' dd = some (.xd [(f, v)]) → Q (.ref C) (some dd) H') : tMkO C (spInit C f) [] (tCons (tVar i) tNil) σ H Q :=
  ⟨v, e, mkO_ok q⟩
theorem k_mkC {v : V} (q : ∀ H' dd, Same H H' → H' dd = some (.xd [(f, v)]) → Q (.ref C) (some dd) H') : tMkO C (spInit C f) [] (tCons (tC v) tNil) σ H Q := mkO_ok q
end
end L2
namespace L2
open PySem PySem.Spec PyProof.Rows
section
variable {K : PySem.W.Frag} {σ : St} {H : Hp} {f : Str} {a C dd : Addr} {fs : List (Str × V)} {v : V} {i : Nat} {Q : VK} {D : Ends} {tb : WX → TS} {Wout : WX} {l : List Cl} {sp : Sp} {E : St → XK} {t : TA}
theorem k_xfV (e : σ[i]? = some (some (.ref a))) (ed : H dd = some (.xd fs)) (lk : fs.lookup f = some v) (k : Q v H) : tXf a (.ref C) (some dd) C f (tVar i) σ H Q :=
  ⟨.ref a, e, rfl, rfl, dd, fs, v, rfl, ed, lk, k⟩
theorem k_tryC (k : tb (wCls K Wout D l) D σ H) : tTryC K Wout l tb D σ H := k
theorem k_callS (k : t σ H fun vs H1 => sp vs H1 Q (E σ)) : tCallS sp E t σ H Q := k
end
end L2
set_option Elab.async false
set_option linter.all false
set_option maxRecDepth 100000
set_option maxHeartbeats 4000000
namespace L2
open PySem PySem.Spec PyProof.Rows TL
/-- a text whose signs are signs -/
def okS (x : Str) : Prop := ∀ c ∈ tl x, c < 1114112
theorem okS.lay {x : Str} (h : okS x) : PyData.canLay0 (.str x) = true := by
  show PyData.strOk x = true
  unfold PyData.strOk
  rw [Array.all_eq_true_iff_forall_mem]
  intro c hc
  exact decide_eq_true (h c (by simpa [tl] using hc))
theorem lay_strs : ∀ {ts : List Str}, (∀ t ∈ ts, okS t) → PyData.canLayAll0 (ts.map .str) = true
  | [], _ => rfl
  | t :: ts, h => by
    show (PyData.canLay0 (.str t) && PyData.canLayAll0 (ts.map .str)) = true
    rw [lay_strs fun z hz => h z (.tail _ hz), (h t (.head _)).lay]
    rfl
theorem depth_strs : ∀ ts : List Str, PyData.depthAll (ts.map .str) = 0
  | [] => rfl
  | t :: ts => by
    show max (PyData.depth (.str t)) (PyData.depthAll (ts.map .str)) = 0
    rw [depth_strs ts]
    rfl
theorem shaped_strsL {ts : List Str} (h : ∀ t ∈ ts, okS t) : SeqAt.shaped (.list (ts.map .str)) = true := by
  unfold SeqAt.shaped
  show (PyData.canLayAll0 (ts.map .str) && decide (PyData.depthAll (ts.map .str) + 1 ≤ 64)) = true
  rw [lay_strs h, depth_strs]
  rfl
theorem shaped_strsT {ts : List Str} (h : ∀ t ∈ ts, okS t) : SeqAt.shaped (.tuple (ts.map .str)) = true := by
  unfold SeqAt.shaped
  show (PyData.canLayAll0 (ts.map .str) && decide (PyData.depthAll (ts.map .str) + 1 ≤ 64)) = true
  rw [lay_strs h, depth_strs]
  rfl
theorem okS_one {c : Nat} (h : c < 1114112) : okS ⟨#[c]⟩ := fun d hd => by
  have : d = c := by simpa [tl] using hd
  omega
section
variable {K : PySem.W.Frag} {H : Hp} {Q : VK}
theorem dp_strs : ∀ ts : List Str, DpAll K H (ts.map .str) (ts.map .str)
  | [] => .nil
  | t :: ts => .cons (.str t) (dp_strs ts)
/-- texts != [] -/
theorem k_neNil {r s : Addr} {ts : List Str} (ho : ∀ t ∈ ts, okS t) (h1 : SqL K H r (ts.map .str)) (h2 : SqL K H s []) (k : Q (.bl (decide (ts ≠ []))) H) : rNeA K (.ref r) (.ref s) H Q := by
  have h := rv_neD (Q := Q) (Dp.lst h1 (dp_strs ts)) (Dp.lst h2 .nil) (shaped_strsL ho) (by decide +kernel)
  refine h ?_
  have e : (!PyData.eqv (.list (ts.map .str)) (.list [])) = decide (ts ≠ []) := by
    cases ts with
    | nil => rfl
    | cons t ts => rfl
  rw [e]
  exact k
end
end L2
set_option Elab.async false
set_option linter.all false
set_option maxRecDepth 100000
set_option maxHeartbeats 4000000
namespace L2
open PySem PySem.Spec PyProof.Rows TL

/-! ### defs that run while nothing is on its way to a text -/
/-- as FnOk, but only where no text is being made -/
structure FnG (P : Program) (w : World) (K : PySem.W.Frag) (mg : Str → Option Value) (base : Heap) (k : Nat) (f : Addr) (fd : FuncData) (ps : List Str) (sp : Sp) : Prop where
  len : ∀ vs H Q E, sp vs H Q E → vs.length = ps.length
  run : ∀ (A : Around) (outer : List Env) (s : Shared) (H : Hp) (args : Args) (us : List Value) (vs : List V) (Q : VK) (E : XK),
    Room k A → A.guards = some [] → Env0 P w K mg base A outer s H → BindsTo s fd args (ps.zip us) → Vals vs us → sp vs H Q E →
    codeAny (model P w) A (.call (.ref f) args) (CR CX0 outer P w H s Q E) s
section
variable {P : Program} {w : World} {K : PySem.W.Frag} {mg : Str → Option Value} {base : Heap} {k : Nat} {f : Addr} {fd : FuncData} {ps N : List Str} {sp : Sp} {x qual : Str} {st : Stmt}
theorem FnOk.toG (F : FnOk P w K mg base CX0 k f fd ps sp) : FnG P w K mg base k f fd ps sp :=
  { len := F.len, run := fun A outer s H args us vs Q E hr _ e0 hb r h => F.run A outer s H args us vs Q E hr e0 hb r h }
/-- its body -/
theorem Fun.okG (F : Fun K x qual st f fd) (S : FnScope N ps (defScope st)) (len : ∀ vs H Q E, sp vs H Q E → vs.length = ps.length)
    (body : ∀ (cdv : Value) (A : Around) (outer : List Env) (s : Shared) (H : Hp) (vs : List V) (Q : VK) (E : XK), A.guards = some [] → Room k (A.deeper (envOfC qual (defScope st) s.heap.objs.size f cdv)) → sp vs H Q E →
      ∃ t, PSs (cxOf CX0 P w K mg base N qual (defScope st) f cdv A outer s H E).nox (defBody st) t ∧ t { nx := fun _ H1 => Q .non H1, rt := Q } (start N vs) H) :
    FnG P w K mg base (k + 1) f fd ps sp := by
  obtain ⟨oc, od, kV, doc, pm, an, cdv, ct, osl, rfl, lk, code⟩ := F.ex
  refine { len := len, run := fun A outer s H args us vs Q E room gd e0 bd r ask => ?_ }
  have isIn : K.In s.heap := e0.mod.kin.keeps fun b o e => (e0.bs b o e).1
  have lim := e0.mod.nolimit.keeps fun b o e => (e0.bs b o e).1
  refine codeAny_call_function room.depth (isIn _ _ lk) rfl S.co S.gen rfl (PySem.W.codeRec_of isIn code) (bd _ _ _ _ ?_)
  refine wpAny_newFunctionEnv_cells S.kind (fun y hy => ?_) fun env he s1 made => ?_
  · have hm : y.1 ∈ ps := by
      obtain ⟨n, v⟩ := y
      exact (List.of_mem_zip hy).1
    exact (S.par y.1 hm).elim .inl fun c => .inr ⟨c, PySem.W.cellsFrom_some _ _ _ (.inl c)⟩
  · subst he
    refine ⟨lim.keeps made.toInCall.keep, codeAny_func ?_⟩
    obtain ⟨t, read, q⟩ := body cdv A outer s H vs Q E gd (room.deeper _) ask
    have I := inv_start (CX := CX0) (E := E) S room.hd e0 (len _ _ _ _ ask) r made
    refine wpAny_mono (read.nox.run [] s1 (start N vs) H _ I q) (fun fl s2 out => ?_) fun _ _ out => out
    cases fl with
    | brk | cont =>
      obtain ⟨_, _, _, z⟩ := out
      exact z.elim
    | next =>
      obtain ⟨σ2, H2, J, z⟩ := out
      exact ⟨.non, H2, J.os, J.bare, J.base, J.hok, rfl, z⟩
    | ret u =>
      obtain ⟨v, σ2, H2, J, rv, z⟩ := out
      exact ⟨v, H2, J.os, J.bare, J.base, J.hok, rv, z⟩
end
section
variable {X : Cx} {k : Nat} {f : Addr} {fd : FuncData} {ps : List Str} {sp : Sp} {x : Str} {p pos : Pos} {e : Expr} {es : List Expr} {t : TA}
/-- such a def called -/
theorem pe_callG (F : FnG X.prog X.w X.K X.mg X.base k f fd ps sp) (hr : Room k X.A) (gd : X.A.guards = some []) (hg : Gl X x) (hm : X.mg x = some (.ref f)) (hk : PySem.W.keepIn X.K (.ref f) = true) (hb : Binds X.K fd ps [])
    (ha : PA X (e :: es) t) (hdb : (x == ("__debug__" : Str)) = false := by decide) (he : starEach (e :: es) X.env = (false, eval e X.env) :: starEach es X.env := by rfl)
    (hpl : (backTo pos (starEach es X.env)).any (·.1) = false := by rfl) : PE X (.Call (.Name x p) (e :: es) [] pos) (tCall sp [] E0 t) := by
  refine ⟨fun pins s σ H Q I h => wpAny_Call_Name_kw (ld_glob I hg hm ?_ hdb)⟩
  refine PySem.W.callWith_K (h₀ := X.base) I.ok.mod.kin hk (thn (ha.run pos pins s σ H _ I h) fun us s1 got => ?_) he hpl
  obtain ⟨vs, H1, I1, r, q⟩ := got
  rw [List.append_nil] at q
  have b := hb s1 us I1.kIn (by rw [List.append_nil, ← r.length]; exact F.len _ _ _ _ q)
  rw [List.append_nil] at b
  refine ⟨I1.kIn, wpAny_call (codeAny_mono (F.run X.A X.stack s1 H1 ⟨us, []⟩ us vs Q E0 hr gd I1.env0 b r q) fun r2 s2 out => ?_)⟩
  cases r2 with
  | error _ => exact out.elim
  | ok fl =>
    cases fl with
    | ret u => exact I1.after out
    | next | brk | cont => exact out.elim
end

/-! ### data with empty dicts in it -/
mutual
inductive Du (H : Hp) : V → PyData → Prop
  | non : Du H .non .none
  | bl (b : Bool) : Du H (.bl b) (.bool b)
  | int (i : Int) : Du H (.int i) (.int i)
  | str (x : Str) : Du H (.str x) (.str x)
  | dic {a : Addr} : H a = some (.dK []) → Du H (.ref a) (.dict [])
  | lst {a : Addr} {xs : List V} {ds : List PyData} : H a = some (.lst xs) → DuAll H xs ds → Du H (.ref a) (.list ds)
  | tup {a : Addr} {xs : List V} {ds : List PyData} : H a = some (.tup xs) → DuAll H xs ds → Du H (.ref a) (.tuple ds)
inductive DuAll (H : Hp) : List V → List PyData → Prop
  | nil : DuAll H [] []
  | cons {v : V} {vs : List V} {d : PyData} {ds : List PyData} : Du H v d → DuAll H vs ds → DuAll H (v :: vs) (d :: ds)
end
section
variable {K : PySem.W.Frag} {H H' : Hp}
mutual
theorem Du.up (s : Same H H') : ∀ {v : V} {d : PyData}, Du H v d → Du H' v d
  | _, _, .non => .non
  | _, _, .bl b => .bl b
  | _, _, .int i => .int i
  | _, _, .str x => .str x
  | _, _, .dic h => .dic (s _ _ h)
  | _, _, .lst h a => .lst (s _ _ h) (DuAll.up s a)
  | _, _, .tup h a => .tup (s _ _ h) (DuAll.up s a)
theorem DuAll.up (s : Same H H') : ∀ {vs : List V} {ds : List PyData}, DuAll H vs ds → DuAll H' vs ds
  | _, _, .nil => .nil
  | _, _, .cons h t => .cons (Du.up s h) (DuAll.up s t)
end
mutual
theorem Du.dp : ∀ {v : V} {d : PyData}, Du H v d → d.hasDict = false → Dp K H v d
  | _, _, .non, _ => .non
  | _, _, .bl b, _ => .bl b
  | _, _, .int i, _ => .int i
  | _, _, .str x, _ => .str x
  | _, _, .dic h, e => by cases e
  | _, _, .lst h a, e => .lst (.inl (.inl h)) (DuAll.dp a (by simpa [PyData.hasDict] using e))
  | _, _, .tup h a, e => .tup (.inl (.inl h)) (DuAll.dp a (by simpa [PyData.hasDict] using e))
theorem DuAll.dp : ∀ {vs : List V} {ds : List PyData}, DuAll H vs ds → PyData.hasDictAll ds = false → DpAll K H vs ds
  | _, _, .nil, _ => .nil
  | _, _, .cons h t, e => by
    have e' := Bool.or_eq_false_iff.mp (show (PyData.hasDict _ || PyData.hasDictAll _) = false from e)
    exact .cons (Du.dp h e'.1) (DuAll.dp t e'.2)
end
theorem DuAll.len : ∀ {vs : List V} {ds : List PyData}, DuAll H vs ds → vs.length = ds.length
  | _, _, .nil => rfl
  | _, _, .cons _ t => congrArg (· + 1) (DuAll.len t)
theorem DuAll.append : ∀ {vs ws : List V} {ds es : List PyData}, DuAll H vs ds → DuAll H ws es → DuAll H (vs ++ ws) (ds ++ es)
  | _, _, _, _, .nil, h => h
  | _, _, _, _, .cons a t, h => .cons a (DuAll.append t h)
theorem DuAll.get : ∀ {vs : List V} {ds : List PyData}, DuAll H vs ds → ∀ {i : Nat} {d : PyData}, ds[i]? = some d → ∃ v, vs[i]? = some v ∧ Du H v d
  | _, _, .nil, _, _, h => by simp at h
  | _, _, .cons a _, 0, d, h => by
    cases Option.some.inj h
    exact ⟨_, rfl, a⟩
  | _, _, .cons _ t, i + 1, d, h => DuAll.get t (i := i) h
/-- a thing at the door -/
theorem Du.th {v : V} {d : PyData} (h : Du H v d) (e : d = .dict [] ∨ d.hasDict = false) : Th K H v d := by
  rcases e with e | e
  · cases h with
    | dic h => exact .inr ⟨_, _, rfl, h, rfl⟩
    | _ => cases e
  · exact .inl (h.dp e)
end
section
variable {X : Cx} {pins : List (Addr × Obj)} {σ : St} {H : Hp} {s : Shared}
mutual
/-- how it is told -/
theorem Du.told (I : Inv X pins σ H s) : ∀ (d : PyData) (v : V) (u : Value), Du H v d → RelV v u → d.showable = true → d.shown.length ≤ sizeLine →
    ∃ as bs, Reads s.heap u d as ∧ ReadAtMost s.heap d.depth bs ∧ ∀ (P : Program) (w : World), ReprK P w bs s.heap d.depth u d.shown
  | .none, _, _, h, r, _, _ => by
    cases h
    cases r
    refine ⟨_, [], .none, (fun _ z => nomatch z), ?_⟩
    simp only [PyData.shown]
    exact fun _ _ => .of_is ReprIs.none _ _ _
  | .bool b, _, _, h, r, _, _ => by
    cases h
    cases r
    refine ⟨_, [], .bool b, (fun _ z => nomatch z), ?_⟩
    simp only [PyData.shown]
    exact fun _ _ => .of_is (ReprIs.bool b) _ _ _
  | .int i, _, _, h, r, sh, _ => by
    cases h
    obtain ⟨t, rfl⟩ := r
    refine ⟨_, [], .int i t, (fun _ z => nomatch z), ?_⟩
    simp only [PyData.shown]
    exact fun _ _ => .of_is (ReprIs.int t (by simpa [PyData.showable] using sh)) _ _ _
  | .str x, _, _, h, r, _, sz => by
    cases h
    obtain ⟨t, rfl⟩ := r
    refine ⟨_, [], .str x t, (fun _ z => nomatch z), ?_⟩
    simp only [PyData.shown]
    exact fun _ _ => .of_is (ReprIs.str x t (by simpa only [PyData.shown] using sz)) _ _ _
  | .dict kvs, _, _, h, r, _, _ => by
    cases h with
    | @dic a e =>
      cases r
      have o : ObjOk X.prog X.w H s.heap a (.dK []) := I.hok a _ e
      obtain ⟨_, ns, vs, kv, ob, es, ep, g, ex, dt, _, pr, _⟩ := o
      cases kv
      have e0 : es.toList = [] := List.eq_nil_of_length_eq_zero pr.length
      have rd : Reads s.heap (.ref a) (.dict []) [a] := .dict (as := []) (bs := []) g ex.1 dt (by rw [e0]; exact .nil) (by rw [e0]; exact .nil)
      refine ⟨_, [a], rd, ReadAtMost.cons (n := 0) rd (Nat.zero_le _) (fun _ z => nomatch z), ?_⟩
      simp only [PyData.depth, PyData.shown, PyData.shownKv_eq]
      exact fun _ _ => ReprK.dict (as := []) (d := 0) g ex.1 dt ns (fun z => nomatch z) (by rw [e0]; exact .nil)
  | .list ds, _, _, h, r, sh, sz => by
    cases h with
    | @lst a xs _ e t =>
      cases r
      have sz' : (listText (PyData.shownAll ds)).length ≤ sizeLine := by simpa only [PyData.shown] using sz
      have o : ObjOk X.prog X.w H s.heap a (.lst xs) := I.hok a _ e
      obtain ⟨_, its, n, vr, g⟩ := o
      obtain ⟨as, bs, ra, mo, rp⟩ := DuAll.told I ds xs its t vr (by simpa [PyData.showable] using sh) fun t ht => Nat.le_trans (listText_mem_le ht) sz'
      have rd : Reads s.heap (.ref a) (.list ds) (a :: as) := .list g rfl rfl (by simpa using ra)
      refine ⟨_, a :: bs, rd, ReadAtMost.cons rd (by simp only [PyData.depth]; omega) mo, ?_⟩
      have na : a ∉ bs := not_mem_of_deeper rd (by simp only [PyData.depth]; omega) mo
      simp only [PyData.depth, PyData.shown]
      cases its with
      | nil =>
        cases ra
        simp only [PyData.shownAll, listText_nil]
        exact fun _ _ => ReprK.listEmpty g rfl rfl
      | cons x l => exact fun P w => ReprK.list g rfl rfl na (by simpa using (rp P w).length_eq) fun i y z => (rp P w).item i y (by simpa using z)
  | .tuple ds, _, _, h, r, sh, sz => by
    cases h with
    | @tup a xs _ e t =>
      cases r
      have sz' : (tupleText (PyData.shownAll ds)).length ≤ sizeLine := by simpa only [PyData.shown] using sz
      have o : ObjOk X.prog X.w H s.heap a (.tup xs) := I.hok a _ e
      obtain ⟨_, its, vr, ob, g, gc, n, dt⟩ := o
      obtain ⟨as, bs, ra, mo, rp⟩ := DuAll.told I ds xs its t vr (by simpa [PyData.showable] using sh) fun t ht => Nat.le_trans (tupleText_mem_le ht) sz'
      have rd : Reads s.heap (.ref a) (.tuple ds) as := .tuple g gc dt (by simpa using ra)
      refine ⟨_, a :: bs, rd, ReadAtMost.cons rd (by simp only [PyData.depth]; omega) mo, ?_⟩
      have na : a ∉ bs := not_mem_of_deeper rd (by simp only [PyData.depth]; omega) mo
      simp only [PyData.depth, PyData.shown]
      exact fun P w => ReprK.tuple g gc dt na (by simpa using rp P w)
theorem DuAll.told (I : Inv X pins σ H s) : ∀ (ds : List PyData) (vs : List V) (us : List Value), DuAll H vs ds → Vals vs us → PyData.showableAll ds = true → (∀ t ∈ PyData.shownAll ds, t.length ≤ sizeLine) →
    ∃ as bs, ReadsAll s.heap us ds as ∧ ReadAtMost s.heap (PyData.depthAll ds) bs ∧ ∀ (P : Program) (w : World), ReprAllK P w bs s.heap (PyData.depthAll ds) us (PyData.shownAll ds)
  | [], _, _, h, r, _, _ => by
    cases h
    cases r
    exact ⟨_, [], .nil, (fun _ z => nomatch z), by simp only [PyData.shownAll]; exact fun _ _ => .nil⟩
  | d :: ds, _, _, h, r, sh, sz => by
    cases h with
    | cons h1 h2 =>
      cases r with
      | cons r1 r2 =>
        have sh' : d.showable = true ∧ PyData.showableAll ds = true := by simpa [PyData.showableAll] using sh
        obtain ⟨as1, bs1, ra1, mo1, rp1⟩ := Du.told I d _ _ h1 r1 sh'.1 (sz _ (by simp only [PyData.shownAll]; exact .head _))
        obtain ⟨as2, bs2, ra2, mo2, rp2⟩ := DuAll.told I ds _ _ h2 r2 sh'.2 fun t ht => sz t (by simp only [PyData.shownAll]; exact .tail _ ht)
        refine ⟨as1 ++ as2, bs1 ++ bs2, .cons ra1 ra2, ?_, ?_⟩
        · simp only [PyData.depthAll]
          exact (mo1.mono (Nat.le_max_left _ _)).append (mo2.mono (Nat.le_max_right _ _))
        · simp only [PyData.depthAll, PyData.shownAll]
          exact fun P w => .cons (((rp1 P w).more fun b hb => List.mem_append_left _ hb).level_le (Nat.le_max_left _ _)) ((rp2 P w).more_le (fun b hb => List.mem_append_right _ hb) (Nat.le_max_right _ _))
end
end
/-- str(a list) -/
def rStrL : List V → Hp → VK → Prop := fun xs H Q => ∃ (a : Addr) (ds : List PyData), xs = [.ref a] ∧ Du H (.ref a) (.list ds) ∧ ds ≠ [] ∧ (PyData.list ds).showable = true ∧ (PyData.list ds).shown.length ≤ sizeLine ∧ (PyData.list ds).depth ≤ 40 ∧ Q (.str (PyData.list ds).shown) H
theorem strLK {X : Cx} {k : Nat} (hr : Room k X.A) (gd : X.A.guards = some []) : CallR X (.type "str") rStrL := by
  intro pins s σ H xs us Q I r h
  obtain ⟨a, ds, rfl, du, ne, sh, sz, dp, q⟩ := h
  obtain ⟨u, rfl, ru⟩ := vals1 r
  cases ru
  have un := hu64 hr
  cases du with
  | @lst _ xs _ e t =>
    have o : ObjOk X.prog X.w H s.heap a (.lst xs) := I.hok a _ e
    obtain ⟨_, its, n, vr, g⟩ := o
    have sz' : (listText (PyData.shownAll ds)).length ≤ sizeLine := by simpa only [PyData.shown] using sz
    obtain ⟨as, bs, ra, mo, rp⟩ := DuAll.told I ds xs its t vr (by simpa [PyData.showable] using sh) fun t ht => Nat.le_trans (listText_mem_le ht) sz'
    have rd : Reads s.heap (.ref a) (.list ds) (a :: as) := .list g rfl rfl (by simpa using ra)
    have na : a ∉ bs := not_mem_of_deeper rd (by simp only [PyData.depth]; omega) mo
    have dp' : PyData.depthAll ds + 1 ≤ 40 := by simpa only [PyData.depth] using dp
    cases its with
    | nil =>
      cases ra
      exact absurd rfl ne
    | cons x l =>
      have kq : ∀ h' tk, (∀ b o, s.heap.get? b = some o → h'.get? b = some o) → ∀ u2, EP X pins σ Q (.str (PyData.list ds).shown u2) { s with heap := h', toks := tk } :=
        fun h' tk kept u2 => ⟨.str _, H, I.kept (t' := tk) kept, ⟨u2, rfl⟩, q⟩
      refine callType_new F.called_str (by decide) (F.typeCall_str_1 _) (F.newCall_str_1 _) (fun ob => F.args_object_init_2 ob _) F.entry_str_new
        (meets_str_new (S := fun B R s2 => B.guards = some [] ∧ B.units + 60 < cLine ∧ (∀ b o, s.heap.get? b = some o → s2.heap.get? b = some o) ∧
          ∀ h' u2 tk, (∀ b o, s2.heap.get? b = some o → h'.get? b = some o) → R (.ok (.ret (.str (PyData.list ds).shown u2))) { s2 with heap := h', toks := tk }) ?_)
        ⟨gd, by show X.A.units + 1 + 60 < cLine; omega, fun _ _ z => z, fun h' u2 tk kept => ⟨typeIs_str _ _ _, kq h' tk kept u2⟩⟩
      intro P w B R s2 hh
      obtain ⟨h1, h2, h3, h4⟩ := hh
      refine wpAny_strOf_slot rfl (by show B.units + 1 + 1 < cLine; omega) ⟨_, h3 _ _ g, rfl⟩ F.slot_list_str F.slot_list_repr.toG ?_
      refine call_list_reprK g rfl rfl na (by simpa using (rp P w).length_eq) (fun i y z => (rp P w).item i y (by simpa using z)) h1 (fun b _ => Clear.nil b) (by show B.units + 1 + 1 + (PyData.depthAll ds + 1) < cLine; omega) h3
        (fun h' u2 tk kept => ⟨_, _, rfl, ?_⟩) sz'
      have z := h4 h' u2 tk kept
      simpa only [PyData.shown] using z
end L2
set_option Elab.async false
set_option linter.all false
set_option maxRecDepth 100000
set_option maxHeartbeats 4000000
namespace L2
open PySem PySem.Spec PyProof.Rows TL

/-! ### calls by name -/
def pick {α : Type} (ix : List Nat) (l : List α) : List α := ix.filterMap (l[·]?)
theorem vals_at : ∀ {zs : List V} {ws : List Value}, Vals zs ws → ∀ i : Nat, (zs[i]? = none ∧ ws[i]? = none) ∨ ∃ v u, zs[i]? = some v ∧ ws[i]? = some u ∧ RelV v u
  | _, _, .nil, i => .inl ⟨by simp, by simp⟩
  | _, _, .cons r _, 0 => .inr ⟨_, _, rfl, rfl, r⟩
  | _, _, .cons _ t, i + 1 => by simpa using vals_at t i
theorem vals_pick {zs : List V} {ws : List Value} (r : Vals zs ws) : ∀ ix : List Nat, Vals (pick ix zs) (pick ix ws)
  | [] => .nil
  | i :: ix => by
    have ih := vals_pick r ix
    unfold pick at ih ⊢
    rcases vals_at r i with ⟨e1, e2⟩ | ⟨v, u, e1, e2, rv⟩
    · rw [List.filterMap_cons_none e1, List.filterMap_cons_none e2]
      exact ih
    · rw [List.filterMap_cons_some e1, List.filterMap_cons_some e2]
      exact .cons rv ih
theorem Fun.kbn {K : PySem.W.Frag} {x qual : Str} {st : Stmt} {f : Addr} {fd : FuncData} {ps ks : List Str} {n : Nat} {ix : List Nat} (F : Fun K x qual st f fd)
    (h : ∀ (kV doc pm : Value) (an : Option Addr) (cdv ct : Value) (us ws : List Value), us.length = n → ws.length = ks.length →
      bindArgs (PySem.W.fnOf x qual (defArgs st) (defBody st) (defScope st) .none kV doc pm an cdv ct) ⟨us, ks.zip ws⟩ = pure (ps.zip (us ++ pick ix ws))) :
    KBn K fd ps n ks (fun us ws => us ++ pick ix ws) (fun vs zs => vs ++ pick ix zs) := by
  obtain ⟨oc, od, kV, doc, pm, an, cdv, ct, osl, rfl, lk, code⟩ := F.ex
  exact { to := fun s us ws _ l1 l2 => .of_eq (h kV doc pm an cdv ct us ws l1 l2), rel := fun r1 r2 => r1.append (vals_pick r2 ix) }
section
variable {X : Cx} {CX : CXT} {k : Nat} {f : Addr} {fd : FuncData} {ps ks : List Str} {sp : Sp} {E : XK} {x : Str} {p pos : Pos} {kws : List Keyword} {tk : TA} {g : List Value → List Value → List Value} {gV : List V → List V → List V}
/-- f(k = v, ..), all by name -/
theorem pe_callK0 (F : FnOk X.prog X.w X.K X.mg X.base CX k f fd ps sp) (hr : Room k X.A) (hg : Gl X x) (hm : X.mg x = some (.ref f)) (hk : PySem.W.keepIn X.K (.ref f) = true) (hb : KBn X.K fd ps 0 ks g gV) (hx : Passes CX X E) (hkw : PK X kws tk)
    (hall : (backToKw pos (keywordEach kws X.env)).all (·.1.isSome) = true := by rfl) (hks : (backToKw pos (keywordEach kws X.env)).filterMap (·.1) = ks := by rfl) (hdb : (x == ("__debug__" : Str)) = false := by decide)
    (hpl : ((backTo pos (starEach [] X.env)).any (·.1) || (backToKw pos (keywordEach kws X.env)).any (·.1.isNone)) = false := by rfl) :
    PE X (.Call (.Name x p) [] kws pos) (tCallN 0 ks.length sp gV E tNil tk) := by
  refine ⟨fun pins s σ H Q I h => wpAny_Call_Name_kw (ld_glob I hg hm (PySem.W.callWith_KW0 (h₀ := X.base) I.ok.mod.kin hk hall ?_ hpl) hdb)⟩
  refine thn (hkw.run pos pins s σ H _ I h) fun ws s2 got => ?_
  obtain ⟨zs, H2, I2, rz, _, l2, q⟩ := got
  rw [hks]
  exact ⟨I2.kIn, run_fnN (us := []) (vs := []) F hr hb hx I2 .nil rz rfl l2 q⟩
end
section
variable {σ : St} {H : Hp} {sp : Sp} {E : XK} {t tk : TA} {Q : VK} {n m : Nat} {gV : List V → List V → List V}
theorem k_callN (k : t σ H fun vs H1 => tk σ H1 fun zs H2 => vs.length = n ∧ zs.length = m ∧ sp (gV vs zs) H2 Q E) : tCallN n m sp gV E t tk σ H Q := k
end

/-! ### written things -/
/-- te writes d, whatever stands already -/
def Lit (S : List Addr) (te : TE) (d : PyData) : Prop := ∀ (σ : St) (H : Hp) (Q : VK), Live S H → (∀ v H1, Same H H1 → Du (Hd S H1) v d → Q v H1) → te σ H Q
def LitA (S : List Addr) (ta : TA) (ds : List PyData) : Prop := ∀ (σ : St) (H : Hp) (Q : List V → Hp → Prop), Live S H → (∀ vs H1, Same H H1 → DuAll (Hd S H1) vs ds → Q vs H1) → ta σ H Q
theorem Live.same {S : List Addr} {H H1 : Hp} (l : Live S H) (s : Same H H1) : Live S H1 := l.up fun a o e => ⟨o, s a o e⟩
theorem Same.hid {H H1 : Hp} (s : Same H H1) (S : List Addr) : Same (Hd S H) (Hd S H1) := (Gr.of s).hd
section
variable {S : List Addr} {te : TE} {ta : TA} {d : PyData} {ds : List PyData}
theorem lit_str {x : Str} : Lit S (tC (.str x)) (.str x) := fun _ H _ _ k => k _ H (Same.refl H) (.str x)
theorem lit_int {x : Int} : Lit S (tC (.int x)) (.int x) := fun _ H _ _ k => k _ H (Same.refl H) (.int x)
theorem lit_bl {x : Bool} : Lit S (tC (.bl x)) (.bool x) := fun _ H _ _ k => k _ H (Same.refl H) (.bl x)
theorem lit_non : Lit S (tC .non) .none := fun _ H _ _ k => k _ H (Same.refl H) .non
theorem lit_neg {x : Int} : Lit S (tUn rNeg (tC (.int x))) (.int (-x)) := fun _ H _ _ k => ⟨x, rfl, k _ H (Same.refl H) (.int (-x))⟩
theorem lit_nil : LitA S tNil [] := fun _ H _ _ k => k _ H (Same.refl H) .nil
theorem lit_cons (h : Lit S te d) (r : LitA S ta ds) : LitA S (tCons te ta) (d :: ds) := fun σ H Q l k =>
  h σ H _ l fun v H1 s1 d1 => r σ H1 _ (l.same s1) fun vs H2 s2 d2 => k (v :: vs) H2 (s1.trans s2) (.cons (d1.up (s2.hid S)) d2)
theorem lit_tup (r : LitA S ta ds) (hl : ds.length ≤ 100000) : Lit S (tTup ta) (.tuple ds) := fun σ H Q l k =>
  r σ H _ l fun vs H1 s1 d1 => ⟨Evl.sz_of (by rw [d1.len]; exact hl), fun p hp => by
    have np : p ∉ S := (l.same s1).nin hp
    exact k _ _ (s1.trans (same_new hp)) (.tup (by rw [hd_out np, upd_same]) (d1.up ((same_new hp).hid S)))⟩
theorem lit_lst (r : LitA S ta ds) (hl : ds.length ≤ 100000) : Lit S (tLst ta) (.list ds) := fun σ H Q l k =>
  r σ H _ l fun vs H1 s1 d1 => ⟨Evl.sz_of (by rw [d1.len]; exact hl), fun p hp => by
    have np : p ∉ S := (l.same s1).nin hp
    exact k _ _ (s1.trans (same_new hp)) (.lst (by rw [hd_out np, upd_same]) (d1.up ((same_new hp).hid S)))⟩
theorem lit_dic : Lit S tDNewK (.dict []) := fun σ H Q l k => fun p hp => by
  have np : p ∉ S := l.nin hp
  exact k _ _ (same_new hp) (.dic (by rw [hd_out np, upd_same]))
theorem k_lit {σ : St} {H : Hp} {Q : VK} (h : Lit S te d) (l : Live S H) (k : ∀ v H1, Same H H1 → Du (Hd S H1) v d → Q v H1) : te σ H Q := h σ H Q l k
theorem Du.lstAt {H : Hp} {v : V} (h : Du (Hd S H) v (.list ds)) : ∃ a xs, v = .ref a ∧ a ∉ S ∧ H a = some (.lst xs) ∧ DuAll (Hd S H) xs ds := by
  cases h with
  | @lst a xs _ e t =>
    by_cases m : a ∈ S
    · rw [hd_in m] at e
      cases e
    · rw [hd_out m] at e
      exact ⟨a, xs, rfl, m, e, t⟩
end
end L2
set_option Elab.async false
set_option linter.all false
set_option maxRecDepth 100000
set_option maxHeartbeats 4000000
namespace L2
open PySem PySem.Spec PyProof.Rows TL
section
variable {K : PySem.W.Frag} {S : List Addr} {σ : St} {H : Hp} {ta : TA} {ds es : List PyData} {xs : List V} {a : Addr} {i : Nat} {R : VK}
/-- l + [..] -/
theorem k_more (h : Lit S (tLst ta) (.list es)) (l : Live S H) (v : σ[i]? = some (some (.ref a))) (e : H a = some (.lst xs)) (na : a ∉ S) (d : DuAll (Hd S H) xs ds) (sz : ds.length + es.length ≤ 100000)
    (k : ∀ c H2 ys, Same H H2 → c ∉ S → H2 c = some (.lst ys) → DuAll (Hd S H2) ys (ds ++ es) → R (.ref c) H2) : tOp (rAddA K) (tVar i) (tLst ta) σ H R := by
  refine ⟨.ref a, v, h σ H _ l fun w H1 s1 d1 => ?_⟩
  obtain ⟨b, ys, rfl, nb, e1, d1⟩ := d1.lstAt
  refine k_cat (s1 _ _ e) e1 (by rw [d.len, d1.len]; exact sz) fun c hc => ?_
  have nc : c ∉ S := (l.same s1).nin hc
  exact k c _ (xs ++ ys) (s1.trans (same_new hc)) nc upd_same (((d.up (s1.hid S)).append d1).up ((same_new hc).hid S))
end
theorem DuAll.pick {H : Hp} {vs : List V} {ds : List PyData} (h : DuAll H vs ds) (f : PyData → Bool) (all : ds.all f = true) {i : Nat} (hi : i < ds.length) : ∃ v d, vs[i]? = some v ∧ Du H v d ∧ f d = true := by
  obtain ⟨v, e, du⟩ := h.get (List.getElem?_eq_getElem hi)
  exact ⟨v, _, e, du, List.all_eq_true.mp all _ (List.getElem_mem hi)⟩
section
variable {K : PySem.W.Frag} {H : Hp} {σ : St}
/-- a, b = a list -/
theorem k_unp2L {a : Addr} {x y : V} {i j : Nat} {Qs : St → Hp → Prop} (h : SqL K H a [x, y]) (k : Qs ((σ.set i (some x)).set j (some y)) H) : gLst K 2 (gCons (gName i) (gCons (gName j) gNil)) (.ref a) σ H Qs :=
  ⟨a, [x, y], rfl, h, rfl, x, [y], rfl, y, [], rfl, rfl, k⟩
end
section
variable {X : Cx} (K : PySem.W.Frag)
theorem listUK {es : List Expr} {k : Nat} {t : TGs} {n : Nat} {pos : Pos} (hc : X.calm = true) (h : PGs X es t) (hK : X.K = K := by rfl)
    (hn : (assignEach es X.env).length = n := by rfl) (hst : (assignEach es X.env).findIdx? (·.1) = none := by rfl) : PG X (.Tuple es k pos) (gLst K n t) := by
  subst hK
  exact pg_lst hc h hn hst
end
end L2
set_option Elab.async false
set_option linter.all false
set_option maxRecDepth 100000
set_option maxHeartbeats 4000000
namespace L2
open PySem PySem.Spec PyProof.Rows TL
theorem lay_bools : ∀ bs : List Bool, PyData.canLayAll0 (bs.map .bool) = true
  | [] => rfl
  | b :: bs => by
    show (true && PyData.canLayAll0 (bs.map .bool)) = true
    rw [lay_bools bs]
    rfl
theorem depth_bools : ∀ bs : List Bool, PyData.depthAll (bs.map .bool) = 0
  | [] => rfl
  | b :: bs => by
    show max 0 (PyData.depthAll (bs.map .bool)) = 0
    rw [depth_bools bs]
    rfl
theorem shaped_bools (bs : List Bool) : SeqAt.shaped (.list (bs.map .bool)) = true := by
  unfold SeqAt.shaped
  show (PyData.canLayAll0 (bs.map .bool) && decide (PyData.depthAll (bs.map .bool) + 1 ≤ 64)) = true
  rw [lay_bools, depth_bools]
  rfl
theorem eqv_bools : ∀ bs cs : List Bool, PyData.eqvAll (bs.map .bool) (cs.map .bool) = decide (bs = cs)
  | [], [] => rfl
  | [], _ :: _ => rfl
  | _ :: _, [] => rfl
  | b :: bs, c :: cs => by
    show ((b == c) && PyData.eqvAll (bs.map .bool) (cs.map .bool)) = _
    rw [eqv_bools bs cs]
    by_cases h : b = c
    · subst h
      by_cases h2 : bs = cs
      · subst h2
        simp
      · simp [h2]
    · simp [h]
section
variable {K : PySem.W.Frag} {H : Hp}
theorem dp_bools : ∀ bs : List Bool, DpAll K H (bs.map .bl) (bs.map .bool)
  | [] => .nil
  | b :: bs => .cons (.bl b) (dp_bools bs)
/-- bools != bools -/
theorem k_neBools {a b : Addr} {bs cs : List Bool} {Q : VK} (h1 : SqL K H a (bs.map .bl)) (h2 : SqL K H b (cs.map .bl)) (k : Q (.bl (!decide (bs = cs))) H) : rNeA K (.ref a) (.ref b) H Q := by
  have h := rv_neD (Q := Q) (Dp.lst h1 (dp_bools bs)) (Dp.lst h2 (dp_bools cs)) (shaped_bools bs) (shaped_bools cs)
  refine h ?_
  rw [← eqv_bools bs cs] at k
  exact k
variable {σ : St} {te : TE} {vs : List Nat} {j : Nat} {Q : VK} {α : Type} {a : Addr} {xs : List V}
/-- [e for x in ..], over things that stand for ks -/
theorem lc_keysT (ks : List α) (d0 : α) (Rl : V → α → Prop) (F : α → V) (hx : SqT K H a xs) (hl : xs.length = ks.length) (rel : ∀ i, i < ks.length → Rl (xs.getD i .non) (ks.getD i d0)) (hn : ks.length ≤ 50000)
    (hw : ∀ x, wipe ((wipe σ vs).set j (some x)) vs = wipe σ vs) (hf : ∀ v c H1, c ∈ ks → Rl v c → Same H H1 → EvS te ((wipe σ vs).set j (some v)) H1 (F c))
    (hd : ∀ D H', H D = none → Same H H' → H' D = some (.lst (ks.map F)) → Q (.ref D) H') : lcOn (gName j) tYes te vs σ Q (Itt K a) H :=
  lc_map _ walk_T (fun i => F (ks.getD i d0)) (by omega) (fun _ s => Evl.ex_t s hx) hw (fun i H1 hi s => hf _ _ H1 (getD_mem (by omega)) (rel i (by omega)) s) fun D H' h1 h2 h3 => hd D H' h1 h2 (by rw [h3, hl, range_getD])
theorem lc_keysL (ks : List α) (d0 : α) (Rl : V → α → Prop) (F : α → V) (hx : SqL K H a xs) (hl : xs.length = ks.length) (rel : ∀ i, i < ks.length → Rl (xs.getD i .non) (ks.getD i d0)) (hn : ks.length ≤ 50000)
    (hw : ∀ x, wipe ((wipe σ vs).set j (some x)) vs = wipe σ vs) (hf : ∀ v c H1, c ∈ ks → Rl v c → Same H H1 → EvS te ((wipe σ vs).set j (some v)) H1 (F c))
    (hd : ∀ D H', H D = none → Same H H' → H' D = some (.lst (ks.map F)) → Q (.ref D) H') : lcOn (gName j) tYes te vs σ Q (Itl K a) H :=
  lc_map _ walk_L (fun i => F (ks.getD i d0)) (by omega) (fun _ s => s.seq hx) hw (fun i H1 hi s => hf _ _ H1 (getD_mem (by omega)) (rel i (by omega)) s) fun D H' h1 h2 h3 => hd D H' h1 h2 (by rw [h3, hl, range_getD])
theorem rel_strs (ts : List Str) : ∀ i, i < ts.length → (ts.map V.str).getD i .non = .str (ts.getD i "") := fun i h => by
  rw [List.getD_eq_getElem?_getD, List.getElem?_map, List.getElem?_eq_getElem h, List.getD_eq_getElem?_getD, List.getElem?_eq_getElem h]
  rfl
theorem Du.tupAt {S : List Addr} {v : V} {ds : List PyData} (h : Du (Hd S H) v (.tuple ds)) : ∃ a xs, v = .ref a ∧ H a = some (.tup xs) ∧ DuAll (Hd S H) xs ds := by
  cases h with
  | @tup a xs _ e t =>
    by_cases m : a ∈ S
    · rw [hd_in m] at e
      cases e
    · rw [hd_out m] at e
      exact ⟨a, xs, rfl, e, t⟩
theorem live_nil : Live [] H := fun _ h => nomatch h
end
end L2
set_option Elab.async false
set_option linter.all false
set_option maxRecDepth 100000
set_option maxHeartbeats 4000000
namespace K01
open PySem PySem.Spec PyProof.Rows L2
def topS (i : Nat) : Stmt := PySem.Challenge.pw_stemsteps_k01_conditions.main.body.getD i (.Pass ⟨0, 0, 0, 0⟩)
abbrev s_is_number : Stmt := topS 5
theorem sc_is_number : FnScope ["thing"] ["thing"] (defScope s_is_number) := ⟨rfl, rfl, rfl, by decide +kernel, rfl, by decide +kernel, by decide +kernel⟩
abbrev s_is_text_of : Stmt := topS 6
theorem sc_is_text_of : FnScope ["thing", "letters", "letter"] ["thing", "letters"] (defScope s_is_text_of) := ⟨rfl, rfl, rfl, by decide +kernel, rfl, by decide +kernel, by decide +kernel⟩
abbrev s_is_condition : Stmt := topS 8
theorem sc_is_condition : FnScope ["thing"] ["thing"] (defScope s_is_condition) := ⟨rfl, rfl, rfl, by decide +kernel, rfl, by decide +kernel, by decide +kernel⟩
abbrev s_holds : Stmt := topS 9
theorem sc_holds : FnScope ["condition", "rest", "vowels"] ["condition", "rest", "vowels"] (defScope s_holds) := ⟨rfl, rfl, rfl, by decide +kernel, rfl, by decide +kernel, by decide +kernel⟩
abbrev s_is_met : Stmt := topS 10
theorem sc_is_met : FnScope ["condition", "rest", "vowels"] ["condition", "rest", "vowels"] (defScope s_is_met) := ⟨rfl, rfl, rfl, by decide +kernel, rfl, by decide +kernel, by decide +kernel⟩
abbrev s_has_vowel : Stmt := topS 11
theorem sc_has_vowel : FnScope ["text", "vowels", "vowel"] ["text", "vowels"] (defScope s_has_vowel) := ⟨rfl, rfl, rfl, by decide +kernel, rfl, by decide +kernel, by decide +kernel⟩
abbrev s_count_runs : Stmt := topS 12
theorem sc_count_runs : FnScope ["text", "vowels", "count", "at"] ["text", "vowels"] (defScope s_count_runs) := ⟨rfl, rfl, rfl, by decide +kernel, rfl, by decide +kernel, by decide +kernel⟩
abbrev s_is_plain : Stmt := topS 13
theorem sc_is_plain : FnScope ["thing", "kind", "value", "text"] ["thing"] (defScope s_is_plain) := ⟨rfl, rfl, rfl, by decide +kernel, rfl, by decide +kernel, by decide +kernel⟩
abbrev s_is_plain_met : Stmt := topS 14
theorem sc_is_plain_met : FnScope ["condition", "rest", "vowels", "kind", "value", "text"] ["condition", "rest", "vowels"] (defScope s_is_plain_met) := ⟨rfl, rfl, rfl, by decide +kernel, rfl, by decide +kernel, by decide +kernel⟩
abbrev s_ends_double : Stmt := topS 15
theorem sc_ends_double : FnScope ["rest", "vowels"] ["rest", "vowels"] (defScope s_ends_double) := ⟨rfl, rfl, rfl, by decide +kernel, rfl, by decide +kernel, by decide +kernel⟩
abbrev s_has_shape : Stmt := topS 16
theorem sc_has_shape : FnScope ["rest", "shape", "vowels", "last", "letter", "sign"] ["rest", "shape", "vowels"] (defScope s_has_shape) := ⟨rfl, rfl, rfl, by decide +kernel, rfl, by decide +kernel, by decide +kernel⟩
abbrev s_law_mixed : Stmt := topS 18
theorem sc_law_mixed : FnScope ["cell", "k", "stirred"] ["cell", "k"] (defScope s_law_mixed) := ⟨rfl, rfl, rfl, by decide +kernel, rfl, by decide +kernel, by decide +kernel⟩
abbrev s_law_purse : Stmt := topS 19
theorem sc_law_purse : FnScope ["cells", "at", "cell"] ["cells", "at"] (defScope s_law_purse) := ⟨rfl, rfl, rfl, by decide +kernel, rfl, by decide +kernel, by decide +kernel⟩
abbrev s_law_draw : Stmt := topS 20
theorem sc_law_draw : FnScope ["purse", "out_of", "drawn"] ["purse", "out_of"] (defScope s_law_draw) := ⟨rfl, rfl, rfl, by decide +kernel, rfl, by decide +kernel, by decide +kernel⟩
abbrev s_law_letters : Stmt := topS 22
theorem sc_law_letters : FnScope ["purse", "signs", "one"] ["purse"] (defScope s_law_letters) := ⟨rfl, rfl, rfl, by decide +kernel, rfl, by decide +kernel, by decide +kernel⟩
abbrev s_law_text : Stmt := topS 23
theorem sc_law_text : FnScope ["purse", "signs", "least", "top", "many", "turn"] ["purse", "signs", "least", "top"] (defScope s_law_text) := ⟨rfl, rfl, rfl, by decide +kernel, rfl, by decide +kernel, by decide +kernel⟩
abbrev s_law_condition : Stmt := topS 24
theorem sc_law_condition : FnScope ["purse", "signs", "texts", "shape", "some", "found", "turn"] ["purse", "signs"] (defScope s_law_condition) := ⟨rfl, rfl, rfl, by decide +kernel, rfl, by decide +kernel, by decide +kernel⟩
abbrev s_law_runs : Stmt := topS 25
theorem sc_law_runs : FnScope ["text", "soft", "found", "at"] ["text", "soft"] (defScope s_law_runs) := ⟨rfl, rfl, rfl, by decide +kernel, rfl, by decide +kernel, by decide +kernel⟩
abbrev s_law_holds : Stmt := topS 26
theorem sc_law_holds : FnScope ["wish", "ahead", "soft", "kind", "kinds", "one", "text"] ["wish", "ahead", "soft"] (defScope s_law_holds) := ⟨rfl, rfl, rfl, by decide +kernel, rfl, by decide +kernel, by decide +kernel⟩
abbrev s_law_caught : Stmt := topS 27
theorem sc_law_caught : FnScope ["wish", "ahead", "soft", "caught", "error"] ["wish", "ahead", "soft"] (defScope s_law_caught) := ⟨rfl, rfl, rfl, by decide +kernel, rfl, by decide +kernel, by decide +kernel⟩
abbrev s_law_doors_right : Stmt := topS 28
theorem sc_law_doors_right : FnScope ["purse", "odd", "item", "bad", "wrong", "told", "turn"] ["purse"] (defScope s_law_doors_right) := ⟨rfl, rfl, rfl, by decide +kernel, rfl, by decide +kernel, by decide +kernel⟩
abbrev s_law_right : Stmt := topS 29
theorem sc_law_right : FnScope ["purse", "signs", "soft", "wish", "turn", "ahead", "due"] ["purse"] (defScope s_law_right) := ⟨rfl, rfl, rfl, by decide +kernel, rfl, by decide +kernel, by decide +kernel⟩
abbrev s_law : Stmt := topS 30
theorem sc_law : FnScope ["script", "at", "purse", "turn", "some", "told", "one"] ["script"] (defScope s_law) := ⟨rfl, rfl, rfl, by decide +kernel, rfl, by decide +kernel, by decide +kernel⟩
abbrev s_InvalidText_init : Stmt := inClass (topS 2) 0
theorem sc_InvalidText_init : FnScope ["self", "thing"] ["self", "thing"] (defScope s_InvalidText_init) := ⟨rfl, rfl, rfl, by decide +kernel, rfl, by decide +kernel, by decide +kernel⟩
abbrev s_InvalidConditions_init : Stmt := inClass (topS 3) 0
theorem sc_InvalidConditions_init : FnScope ["self", "place"] ["self", "place"] (defScope s_InvalidConditions_init) := ⟨rfl, rfl, rfl, by decide +kernel, rfl, by decide +kernel, by decide +kernel⟩
structure Txt (K : PySem.W.Frag) (mg : Str → Option Value) where
  a_is_number : Addr
  fd_is_number : FuncData
  F_is_number : Fun K "is_number" "is_number" s_is_number a_is_number fd_is_number
  m_is_number : mg "is_number" = some (.ref a_is_number)
  b_is_number : Binds K fd_is_number ["thing"] []
  a_is_text_of : Addr
  fd_is_text_of : FuncData
  F_is_text_of : Fun K "is_text_of" "is_text_of" s_is_text_of a_is_text_of fd_is_text_of
  m_is_text_of : mg "is_text_of" = some (.ref a_is_text_of)
  b_is_text_of : Binds K fd_is_text_of ["thing", "letters"] []
  a_is_condition : Addr
  fd_is_condition : FuncData
  F_is_condition : Fun K "is_condition" "is_condition" s_is_condition a_is_condition fd_is_condition
  m_is_condition : mg "is_condition" = some (.ref a_is_condition)
  b_is_condition : Binds K fd_is_condition ["thing"] []
  a_holds : Addr
  fd_holds : FuncData
  F_holds : Fun K "holds" "holds" s_holds a_holds fd_holds
  m_holds : mg "holds" = some (.ref a_holds)
  b_holds : Binds K fd_holds ["condition", "rest", "vowels"] []
  a_is_met : Addr
  fd_is_met : FuncData
  F_is_met : Fun K "is_met" "is_met" s_is_met a_is_met fd_is_met
  m_is_met : mg "is_met" = some (.ref a_is_met)
  b_is_met : Binds K fd_is_met ["condition", "rest", "vowels"] []
  a_has_vowel : Addr
  fd_has_vowel : FuncData
  F_has_vowel : Fun K "has_vowel" "has_vowel" s_has_vowel a_has_vowel fd_has_vowel
  m_has_vowel : mg "has_vowel" = some (.ref a_has_vowel)
  b_has_vowel : Binds K fd_has_vowel ["text", "vowels"] []
  a_count_runs : Addr
  fd_count_runs : FuncData
  F_count_runs : Fun K "count_runs" "count_runs" s_count_runs a_count_runs fd_count_runs
  m_count_runs : mg "count_runs" = some (.ref a_count_runs)
  b_count_runs : Binds K fd_count_runs ["text", "vowels"] []
  a_is_plain : Addr
  fd_is_plain : FuncData
  F_is_plain : Fun K "_is_plain" "_is_plain" s_is_plain a_is_plain fd_is_plain
  m_is_plain : mg "_is_plain" = some (.ref a_is_plain)
  b_is_plain : Binds K fd_is_plain ["thing"] []
  a_is_plain_met : Addr
  fd_is_plain_met : FuncData
  F_is_plain_met : Fun K "_is_plain_met" "_is_plain_met" s_is_plain_met a_is_plain_met fd_is_plain_met
  m_is_plain_met : mg "_is_plain_met" = some (.ref a_is_plain_met)
  b_is_plain_met : Binds K fd_is_plain_met ["condition", "rest", "vowels"] []
  a_ends_double : Addr
  fd_ends_double : FuncData
  F_ends_double : Fun K "_ends_double" "_ends_double" s_ends_double a_ends_double fd_ends_double
  m_ends_double : mg "_ends_double" = some (.ref a_ends_double)
  b_ends_double : Binds K fd_ends_double ["rest", "vowels"] []
  a_has_shape : Addr
  fd_has_shape : FuncData
  F_has_shape : Fun K "_has_shape" "_has_shape" s_has_shape a_has_shape fd_has_shape
  m_has_shape : mg "_has_shape" = some (.ref a_has_shape)
  b_has_shape : Binds K fd_has_shape ["rest", "shape", "vowels"] []
  a_law_mixed : Addr
  fd_law_mixed : FuncData
  F_law_mixed : Fun K "_law_mixed" "_law_mixed" s_law_mixed a_law_mixed fd_law_mixed
  m_law_mixed : mg "_law_mixed" = some (.ref a_law_mixed)
  b_law_mixed : Binds K fd_law_mixed ["cell", "k"] []
  a_law_purse : Addr
  fd_law_purse : FuncData
  F_law_purse : Fun K "_law_purse" "_law_purse" s_law_purse a_law_purse fd_law_purse
  m_law_purse : mg "_law_purse" = some (.ref a_law_purse)
  b_law_purse : Binds K fd_law_purse ["cells", "at"] []
  a_law_draw : Addr
  fd_law_draw : FuncData
  F_law_draw : Fun K "_law_draw" "_law_draw" s_law_draw a_law_draw fd_law_draw
  m_law_draw : mg "_law_draw" = some (.ref a_law_draw)
  b_law_draw : Binds K fd_law_draw ["purse", "out_of"] []
  a_law_letters : Addr
  fd_law_letters : FuncData
  F_law_letters : Fun K "_law_letters" "_law_letters" s_law_letters a_law_letters fd_law_letters
  m_law_letters : mg "_law_letters" = some (.ref a_law_letters)
  b_law_letters : Binds K fd_law_letters ["purse"] []
  a_law_text : Addr
  fd_law_text : FuncData
  F_law_text : Fun K "_law_text" "_law_text" s_law_text a_law_text fd_law_text
  m_law_text : mg "_law_text" = some (.ref a_law_text)
  b_law_text : Binds K fd_law_text ["purse", "signs", "least", "top"] []
  a_law_condition : Addr
  fd_law_condition : FuncData
  F_law_condition : Fun K "_law_condition" "_law_condition" s_law_condition a_law_condition fd_law_condition
  m_law_condition : mg "_law_condition" = some (.ref a_law_condition)
  b_law_condition : Binds K fd_law_condition ["purse", "signs"] []
  a_law_runs : Addr
  fd_law_runs : FuncData
  F_law_runs : Fun K "_law_runs" "_law_runs" s_law_runs a_law_runs fd_law_runs
  m_law_runs : mg "_law_runs" = some (.ref a_law_runs)
  b_law_runs : Binds K fd_law_runs ["text", "soft"] []
  a_law_holds : Addr
  fd_law_holds : FuncData
  F_law_holds : Fun K "_law_holds" "_law_holds" s_law_holds a_law_holds fd_law_holds
  m_law_holds : mg "_law_holds" = some (.ref a_law_holds)
  b_law_holds : Binds K fd_law_holds ["wish", "ahead", "soft"] []
  a_law_caught : Addr
  fd_law_caught : FuncData
  F_law_caught : Fun K "_law_caught" "_law_caught" s_law_caught a_law_caught fd_law_caught
  m_law_caught : mg "_law_caught" = some (.ref a_law_caught)
  b_law_caught : Binds K fd_law_caught ["wish", "ahead", "soft"] []
  a_law_doors_right : Addr
  fd_law_doors_right : FuncData
  F_law_doors_right : Fun K "_law_doors_right" "_law_doors_right" s_law_doors_right a_law_doors_right fd_law_doors_right
  m_law_doors_right : mg "_law_doors_right" = some (.ref a_law_doors_right)
  b_law_doors_right : Binds K fd_law_doors_right ["purse"] []
  a_law_right : Addr
  fd_law_right : FuncData
  F_law_right : Fun K "_law_right" "_law_right" s_law_right a_law_right fd_law_right
  m_law_right : mg "_law_right" = some (.ref a_law_right)
  b_law_right : Binds K fd_law_right ["purse"] []
  a_law : Addr
  fd_law : FuncData
  F_law : Fun K "law" "law" s_law a_law fd_law
  m_law : mg "law" = some (.ref a_law)
  b_law : Binds K fd_law ["script"] []
  kb_is_condition_0_thing : KBn K fd_is_condition ["thing"] 0 ["thing"] (fun us ws => us ++ pick [0] ws) (fun vs zs => vs ++ pick [0] zs)
  kb_holds_0_vowels_rest_condition : KBn K fd_holds ["condition", "rest", "vowels"] 0 ["vowels", "rest", "condition"] (fun us ws => us ++ pick [2, 1, 0] ws) (fun vs zs => vs ++ pick [2, 1, 0] zs)
  z_all : mg "all" = none
  z_any : mg "any" = none
  z_bool : mg "bool" = none
  z_int : mg "int" = none
  z_isinstance : mg "isinstance" = none
  z_len : mg "len" = none
  z_max : mg "max" = none
  z_min : mg "min" = none
  z_range : mg "range" = none
  z_str : mg "str" = none
  z_tuple : mg "tuple" = none
  z_zip : mg "zip" = none
  C_StemError : Addr
  mc_StemError : mg "StemError" = some (.ref C_StemError)
  C_InvalidText : Addr
  mc_InvalidText : mg "InvalidText" = some (.ref C_InvalidText)
  x_InvalidText : OexC K C_InvalidText
  xf_InvalidText : XfC K C_InvalidText
  aI_InvalidText : Addr
  fdI_InvalidText : FuncData
  FI_InvalidText : Fun K "__init__" "InvalidText.__init__" s_InvalidText_init aI_InvalidText fdI_InvalidText
  bI_InvalidText : Binds K fdI_InvalidText ["self", "thing"] []
  i_InvalidText : PySem.W.findIn K (.ref C_InvalidText) "__init__" = some (some (.ref aI_InvalidText))
  t_InvalidText : PySem.W.typeIn K (.ref aI_InvalidText) = some (.type "function")
  n_InvalidText_thing : PySem.W.findIn K (.ref C_InvalidText) "thing" = some none
  C_InvalidConditions : Addr
  mc_InvalidConditions : mg "InvalidConditions" = some (.ref C_InvalidConditions)
  x_InvalidConditions : OexC K C_InvalidConditions
  xf_InvalidConditions : XfC K C_InvalidConditions
  aI_InvalidConditions : Addr
  fdI_InvalidConditions : FuncData
  FI_InvalidConditions : Fun K "__init__" "InvalidConditions.__init__" s_InvalidConditions_init aI_InvalidConditions fdI_InvalidConditions
  bI_InvalidConditions : Binds K fdI_InvalidConditions ["self", "place"] []
  i_InvalidConditions : PySem.W.findIn K (.ref C_InvalidConditions) "__init__" = some (some (.ref aI_InvalidConditions))
  t_InvalidConditions : PySem.W.typeIn K (.ref aI_InvalidConditions) = some (.type "function")
  n_InvalidConditions_place : PySem.W.findIn K (.ref C_InvalidConditions) "place" = some none
  e_InvalidText_StemError : PySem.W.exmOne K (.ref C_InvalidText) (.ref C_StemError) = some true
  e_InvalidText_InvalidText : PySem.W.exmOne K (.ref C_InvalidText) (.ref C_InvalidText) = some true
  e_InvalidText_InvalidConditions : PySem.W.exmOne K (.ref C_InvalidText) (.ref C_InvalidConditions) = some false
  e_InvalidConditions_StemError : PySem.W.exmOne K (.ref C_InvalidConditions) (.ref C_StemError) = some true
  e_InvalidConditions_InvalidText : PySem.W.exmOne K (.ref C_InvalidConditions) (.ref C_InvalidText) = some false
  e_InvalidConditions_InvalidConditions : PySem.W.exmOne K (.ref C_InvalidConditions) (.ref C_InvalidConditions) = some true

end K01

set_option Elab.async false
set_option linter.all false
set_option maxRecDepth 100000
set_option maxHeartbeats 4000000
namespace K01
open PySem PySem.Spec PyProof.Rows L2
/-! ### short words -/
local macro_rules | `(tactic| walk_at "idx") => `(tactic| first | assumption | exact Evl.sq_of (by assumption) | exact Evl.st_of (by assumption) | exact Evl.sq_of upd_same | exact Evl.st_of upd_same)
local macro_rules | `(tactic| walk_at "side") => `(tactic| first | omega | exact Or.inl ⟨by omega, by omega⟩ | exact Or.inr ⟨by omega, by omega⟩ | exact ⟨by omega, by omega⟩ | decide +kernel)
local macro_rules | `(tactic| walk_at "div") => `(tactic| exact wide_div (b := 30) (by omega) (by omega) (by decide) (by decide))
local macro_rules | `(tactic| walk_at "pow") => `(tactic| exact ⟨by decide +kernel, by decide +kernel, by decide +kernel⟩)
local macro_rules | `(tactic| walk_at "rv") => `(tactic| first
  | with_reducible exact rv_addI | with_reducible exact rv_sub | with_reducible exact rv_lt | with_reducible exact rv_le | with_reducible exact rv_gt | with_reducible exact rv_ge
  | with_reducible exact rv_inC | with_reducible exact rv_notInC | with_reducible exact rv_isB
  | (with_reducible apply rv_mul
     walk_at "side")
  | (with_reducible apply rv_mod
     walk_at "side")
  | (with_reducible apply rv_div
     walk_at "div")
  | (with_reducible apply rv_pow
     walk_at "pow")
  | (with_reducible apply rv_eq
     exact rfl)
  | (with_reducible apply rv_ne
     exact rfl)
  | (with_reducible apply rv_ixL
     · walk_at "idx"
     · exact rfl)
  | (with_reducible apply rv_ixT
     · walk_at "idx"
     · exact rfl)
  | (with_reducible apply rv_ixS
     · walk_at "side"
     · exact rfl)
  | (with_reducible apply rv_addS
     walk_at "side"))
local macro_rules | `(tactic| walk_at "val") => `(tactic| first
  | with_reducible exact val_c | exact val_c
  | (with_reducible apply val_var
     exact rfl)
  | (with_reducible apply val_bin
     · walk_at "val"
     · walk_at "val"
     · walk_at "rv")
  | (with_reducible apply val_int1
     walk_at "val")
  | (with_reducible apply val_max2
     · walk_at "val"
     · walk_at "val")
  | (with_reducible apply val_min2
     · walk_at "val"
     · walk_at "val")
  | (with_reducible apply val_endsw
     · walk_at "val"
     · walk_at "val")
  | (with_reducible apply val_lenS
     · walk_at "val"
     · walk_at "side")
  | (with_reducible apply val_lenL
     · walk_at "val"
     · walk_at "idx")
  | (with_reducible apply val_lenT
     · walk_at "val"
     · walk_at "idx")
  | (with_reducible apply val_notV
     walk_at "val"))
local macro_rules | `(tactic| walk_at "ans") => `(tactic| first
  | (with_reducible apply ans_T
     walk_at "val")
  | (with_reducible apply ans_B
     walk_at "val")
  | (with_reducible apply ans_not
     walk_at "ans"))
local macro_rules | `(tactic| walk_at "ifp") => `(tactic| first
  | (with_reducible refine Eq.mpr (if_pos ?_) ?_
     · decide +kernel)
  | (with_reducible refine Eq.mpr (if_neg ?_) ?_
     · decide +kernel))
local macro_rules | `(tactic| walk_at "k") => `(tactic| first
  | with_reducible apply k_seq | with_reducible apply k_asg | with_reducible apply k_ret | with_reducible apply k_ifS | with_reducible apply k_drop | with_reducible apply k_name
  | (with_reducible apply k_var
     · exact rfl)
  | with_reducible apply k_c
  | with_reducible apply k_op | with_reducible apply k_cb | with_reducible apply k_call | with_reducible apply k_cons | with_reducible apply k_nil | with_reducible apply k_tup | with_reducible apply k_lst
  | with_reducible apply k_ifE | with_reducible apply k_test | with_reducible apply k_tb | with_reducible apply k_not | with_reducible apply k_and | with_reducible apply k_or | with_reducible apply k_bl
  | with_reducible apply k_sl | with_reducible apply k_part | with_reducible apply k_isI | with_reducible apply k_nopart
  | with_reducible apply k_lcZS | with_reducible apply k_onZS | with_reducible apply k_un | with_reducible apply k_neg
  | with_reducible apply k_lcS | with_reducible apply k_lcR | with_reducible apply k_lcL | with_reducible apply k_lcT | with_reducible apply k_forS | with_reducible apply k_forR | with_reducible apply k_forL | with_reducible apply k_forT | with_reducible apply k_onS | with_reducible apply k_yes
  | (with_reducible apply k_augC
     · exact rfl)
  | with_reducible apply k_next | with_reducible apply k_eqInt | with_reducible apply k_neInt | with_reducible apply k_eqStr | with_reducible apply k_neStr
  | with_reducible apply k_andV | with_reducible apply k_orV | with_reducible apply k_notV
  | with_reducible apply k_m1 | with_reducible apply k_onStr | with_reducible apply k_endsw
  | (with_reducible apply k_slS
     · walk_at "side")
  | (with_reducible apply k_newT
     · walk_at "len")
  | (with_reducible apply k_newL
     · walk_at "len")
  | with_reducible apply k_int1 | with_reducible apply k_max2 | with_reducible apply k_min2
  | (with_reducible apply k_lenS
     · walk_at "side")
  | (with_reducible apply k_lenL
     · walk_at "idx")
  | (with_reducible apply k_lenT
     · walk_at "idx")
  | (with_reducible apply k_rv
     · walk_at "rv")
  | walk_at "ifp")
local macro_rules | `(tactic| walk_at "kk") => `(tactic| (repeat (walk_at "k")))
local macro_rules | `(tactic| walk_at "len") => `(tactic| first | exact (by decide : (1:Nat) ≤ 100000) | exact (by decide : (2:Nat) ≤ 100000) | exact (by decide : (3:Nat) ≤ 100000) | exact (by decide : (4:Nat) ≤ 100000) | exact (by decide : (7:Nat) ≤ 100000) | (simp only [List.length_cons, List.length_nil]; omega) | omega)
local macro_rules | `(tactic| walk_at "up") => `(tactic| first
  | assumption
  | (refine Dq.up ?_ (Gr.new (by assumption))
     walk_at "up")
  | (refine Dq.up ?_ (by assumption)
     walk_at "up"))

section
variable {P : Program} {w : World} {K : PySem.W.Frag} {mg : Str → Option Value} {base : Heap}
/-! ### the law's draws -/
def Pu (H : Hp) (p : Addr) (n : Nat) : Prop := ∃ a b k : Int, H p = some (.lst [.int a, .int b, .int k]) ∧ 0 ≤ a ∧ 0 ≤ b ∧ b < 2147483648 ∧ 0 ≤ k ∧ k ≤ n
def spMixed : Sp := fun vs H Q _ => ∃ c k : Int, vs = [.int c, .int k] ∧ 0 ≤ c ∧ c < 2147483648 ∧ 0 ≤ k ∧ k < 2 ^ 41 ∧ ∀ r : Int, 0 ≤ r → Q (.int r) H
theorem ok_law_mixed (T : Txt K mg) : FnOk P w K mg base CX0 1 T.a_law_mixed T.fd_law_mixed ["cell", "k"] spMixed := by
  refine T.F_law_mixed.ok sc_law_mixed (fun vs H Q E h => ?_) (fun cdv A outer s H vs Q E hr h => ?_)
  · obtain ⟨c, k, rfl, _⟩ := h
    rfl
  · obtain ⟨c, k, rfl, h1, h2, h3, h4, q⟩ := h
    refine ⟨_, (pss_cons (ps_set (i := 2) sc_law_mixed.nd rfl (Or.inl rfl) (pe_op op_modA (pe_callTy call_intA (by rfl) T.z_int B_int (pa_cons (pe_op (addK K) (pe_op (addK K) (pe_op (addK K) (pe_op op_mulI (pv 0) pe_int) (pe_op op_mulI (pe_op op_mulI pe_int (pv 1)) (pv 1))) (pe_op op_mulI pe_int (pv 1))) pe_int) pa_nil)) pe_int))
      (pss_one (ps_ret (pe_op op_divA (pe_op op_modA (pe_callTy call_intA (by rfl) T.z_int B_int (pa_cons (pe_op (addK K) (pe_op (addK K) (pe_op op_mulI (pv 2) (pv 2)) (pe_op op_mulI pe_int (pv 2))) pe_int) pa_nil)) pe_int) pe_int)))), ?_⟩
    apply q_set
    · walk_at "val"
    apply q_ret
    · walk_at "val"
    exact q _ (by omega)
def spDraw : Sp := fun vs H Q _ => ∃ (p : Addr) (m : Int) (n : Nat), vs = [.ref p, .int m] ∧ 0 < m ∧ m < 2 ^ 29 ∧ Pu H p n ∧ n < 2 ^ 40 ∧ ∀ (H' : Hp) (d : Int), Gr [p] H H' → Pu H' p (n + 1) → 0 ≤ d → d < m → Q (.int d) H'
theorem ok_law_draw (T : Txt K mg) : FnOk P w K mg base CX0 2 T.a_law_draw T.fd_law_draw ["purse", "out_of"] spDraw := by
  refine T.F_law_draw.ok sc_law_draw (fun vs H Q E h => ?_) (fun cdv A outer s H vs Q E hr h => ?_)
  · obtain ⟨p, m, n, rfl, _⟩ := h
    rfl
  · obtain ⟨p, m, n, rfl, h1, h2, ⟨a, b, k, hp, ha, hb, hb2, hk, hk2⟩, hn, q⟩ := h
    refine ⟨_, (pss_cons (ps_if (pt_cmpR op_gtA (pe_ix (ixK K) (pv 0) pe_int (fun _ _ => rfl)) pe_int (nomark _)) (pss_cons (ps_set (i := 2) sc_law_draw.nd rfl (Or.inl rfl) (pe_op op_modA (pe_callTy call_intA (by rfl) T.z_int B_int (pa_cons (pe_ix (ixK K) (pv 0) pe_int (fun _ _ => rfl)) pa_nil)) (pv 1)))
      (pss_cons (ps_asg (pe_op op_divA (pe_ix (ixK K) (pv 0) pe_int (fun _ _ => rfl)) (pv 1)) (pg_sub (pv 0) pe_int set_list))
      (pss_one (ps_ret (pv 2))))) pss_nil)
      (pss_cons (ps_asg (pe_op (addK K) (pe_ix (ixK K) (pv 0) pe_int (fun _ _ => rfl)) pe_int) (pg_sub (pv 0) pe_int set_list))
      (pss_one (ps_ret (pe_op op_modA (pe_callTy call_intA (by rfl) T.z_int B_int (pa_cons (pe_call (ok_law_mixed T) (hr.mono (by decide)) (by rfl) T.m_law_mixed T.F_law_mixed.kp T.b_law_mixed .nil pass0 (pa_cons (pe_ix (ixK K) (pv 0) pe_int (fun _ _ => rfl)) (pa_cons (pe_ix (ixK K) (pv 0) pe_int (fun _ _ => rfl)) pa_nil))) pa_nil)) (pv 1)))))), ?_⟩
    have hm : 0 ≤ a % m := Int.emod_nonneg _ (by omega)
    have hm2 : a % m < m := Int.emod_lt_of_pos _ h1
    apply q_when
    · walk_at "ans"
    · intro hb0
      apply q_set
      · walk_at "val"
      apply q_setL (j := 0)
      · apply val_bin
        · walk_at "val"
        · walk_at "val"
        · refine rv_div ?_
          exact wide_div h1 (b := 30) (by omega) (by decide) (by decide)
      · walk_at "val"
      · walk_at "val"
      · exact hp
      · exact (by decide : (0:Nat) < 3)
      apply q_ret
      · walk_at "val"
      refine q _ _ (Gr.mut (by simp)) ⟨a / m, b, k, upd_same, ?_, hb, hb2, hk, by omega⟩ hm hm2
      exact Int.ediv_nonneg ha (by omega)
    · intro hb0
      apply q_setL (j := 2)
      · walk_at "val"
      · walk_at "val"
      · walk_at "val"
      · exact hp
      · exact (by decide : (2:Nat) < 3)
      walk_at "kk"
      refine ⟨b, k + 1, rfl, hb, hb2, by omega, by omega, fun r hr0 => ?_⟩
      walk_at "kk"
      refine q _ _ (Gr.mut (by simp)) ⟨a, b, k + 1, upd_same, ha, hb, hb2, by omega, by omega⟩ (Int.emod_nonneg _ (by omega)) (Int.emod_lt_of_pos _ h1)
def spPurse (K : PySem.W.Frag) : Sp := fun vs H Q _ => ∃ (p : Addr) (ns : List Int) (j : Nat), vs = [.ref p, .int j] ∧ SqL K H p (ns.map V.int) ∧ ns.length ≤ 63 ∧ j ≤ 63 ∧ ∀ (H' : Hp) (u : Addr), Same H H' → H u = none → Pu H' u (1000 * j) → Q (.ref u) H'
theorem ok_law_purse (T : Txt K mg) : FnOk P w K mg base CX0 1 T.a_law_purse T.fd_law_purse ["cells", "at"] (spPurse K) := by
  refine T.F_law_purse.ok sc_law_purse (fun vs H Q E h => ?_) (fun cdv A outer s H vs Q E hr h => ?_)
  · obtain ⟨p, ns, j, rfl, _⟩ := h
    rfl
  · obtain ⟨p, ns, j, rfl, hs, hl, hj, q⟩ := h
    refine ⟨_, (pss_cons (ps_set (i := 2) sc_law_purse.nd rfl (Or.inl rfl) pe_int)
      (pss_cons (ps_if (pt_cmpR op_ltA (pv 1) (pe_callB (lenK K) (by rfl) T.z_len B_len (pa_cons (pv 0) pa_nil)) (nomark _)) (pss_one (ps_set (i := 2) sc_law_purse.nd rfl (Or.inl rfl) (pe_ix (ixK K) (pv 0) (pv 1) (fun _ _ => rfl)))) pss_nil)
      (pss_one (ps_ret (pe_lst (pa_cons (pe_op op_modA (pe_callTy call_intA (by rfl) T.z_int B_int (pa_cons (pe_callB (call_maxA rfl) (by rfl) T.z_max B_max (pa_cons (pe_op op_subA (pv 2) (pe_op op_powA pe_int pe_int)) (pa_cons pe_int pa_nil))) pa_nil)) (pe_op op_powA (pe_op op_powA pe_int pe_int) pe_int)) (pa_cons (pe_op op_modA (pe_callTy call_intA (by rfl) T.z_int B_int (pa_cons (pv 2) pa_nil)) pe_int) (pa_cons (pe_op op_mulI pe_int (pv 1)) pa_nil)))))))), ?_⟩
    walk_at "kk"
    refine k_ite (fun hb => ?_) (fun hb => ?_)
    · have hb' : j < ns.length := by
        have := of_decide_eq_true hb
        rw [List.length_map] at this
        omega
      walk_at "kk"
      apply k_rv
      · exact rv_ixL hs (atI_nat (j := j) (by rw [List.getElem?_map, List.getElem?_eq_getElem hb']; rfl))
      walk_at "kk"
      intro u hu
      exact q _ _ (fun b o e => by rw [upd_ne (ne_of_none e hu)]; exact e) hu ⟨_, _, _, upd_same, Int.emod_nonneg _ (by decide +kernel), by omega, by omega, by omega, by omega⟩
    · have hb' : ¬ j < ns.length := by
        have := of_decide_eq_false hb
        rw [List.length_map] at this
        omega
      walk_at "kk"
      intro u hu
      exact q _ _ (fun b o e => by rw [upd_ne (ne_of_none e hu)]; exact e) hu ⟨_, _, _, upd_same, Int.emod_nonneg _ (by decide +kernel), by omega, by omega, by omega, by omega⟩
end
end K01


set_option Elab.async false
set_option linter.all false
set_option maxRecDepth 100000
set_option maxHeartbeats 4000000
namespace K01
open PySem PySem.Spec PyProof.Rows L2 TL
/-! ### short words -/
local macro_rules | `(tactic| walk_at "idx") => `(tactic| first | assumption | exact Evl.sq_of (by assumption) | exact Evl.st_of (by assumption) | exact Evl.sq_of upd_same | exact Evl.st_of upd_same)
local macro_rules | `(tactic| walk_at "side") => `(tactic| first | omega | exact Or.inl ⟨by omega, by omega⟩ | exact Or.inr ⟨by omega, by omega⟩ | exact ⟨by omega, by omega⟩ | decide +kernel)
local macro_rules | `(tactic| walk_at "div") => `(tactic| exact wide_div (b := 30) (by omega) (by omega) (by decide) (by decide))
local macro_rules | `(tactic| walk_at "pow") => `(tactic| exact ⟨by decide +kernel, by decide +kernel, by decide +kernel⟩)
local macro_rules | `(tactic| walk_at "rv") => `(tactic| first
  | with_reducible exact rv_addI | with_reducible exact rv_sub | with_reducible exact rv_lt | with_reducible exact rv_le | with_reducible exact rv_gt | with_reducible exact rv_ge
  | with_reducible exact rv_inC | with_reducible exact rv_notInC | with_reducible exact rv_isB
  | (with_reducible apply rv_mul
     walk_at "side")
  | (with_reducible apply rv_mod
     walk_at "side")
  | (with_reducible apply rv_div
     walk_at "div")
  | (with_reducible apply rv_pow
     walk_at "pow")
  | (with_reducible apply rv_eq
     exact rfl)
  | (with_reducible apply rv_ne
     exact rfl)
  | (with_reducible apply rv_ixL
     · walk_at "idx"
     · exact rfl)
  | (with_reducible apply rv_ixT
     · walk_at "idx"
     · exact rfl)
  | (with_reducible apply rv_ixS
     · walk_at "side"
     · exact rfl)
  | (with_reducible apply rv_addS
     walk_at "side"))
local macro_rules | `(tactic| walk_at "val") => `(tactic| first
  | with_reducible exact val_c | exact val_c
  | (with_reducible apply val_var
     exact rfl)
  | (with_reducible apply val_bin
     · walk_at "val"
     · walk_at "val"
     · walk_at "rv")
  | (with_reducible apply val_int1
     walk_at "val")
  | (with_reducible apply val_max2
     · walk_at "val"
     · walk_at "val")
  | (with_reducible apply val_min2
     · walk_at "val"
     · walk_at "val")
  | (with_reducible apply val_endsw
     · walk_at "val"
     · walk_at "val")
  | (with_reducible apply val_lenS
     · walk_at "val"
     · walk_at "side")
  | (with_reducible apply val_lenL
     · walk_at "val"
     · walk_at "idx")
  | (with_reducible apply val_lenT
     · walk_at "val"
     · walk_at "idx")
  | (with_reducible apply val_notV
     walk_at "val"))
local macro_rules | `(tactic| walk_at "ans") => `(tactic| first
  | (with_reducible apply ans_T
     walk_at "val")
  | (with_reducible apply ans_B
     walk_at "val")
  | (with_reducible apply ans_not
     walk_at "ans"))
local macro_rules | `(tactic| walk_at "ifp") => `(tactic| first
  | (with_reducible refine Eq.mpr (if_pos ?_) ?_
     · decide +kernel)
  | (with_reducible refine Eq.mpr (if_neg ?_) ?_
     · decide +kernel))
local macro_rules | `(tactic| walk_at "k") => `(tactic| first
  | with_reducible apply k_seq | with_reducible apply k_asg | with_reducible apply k_ret | with_reducible apply k_ifS | with_reducible apply k_drop | with_reducible apply k_name
  | (with_reducible apply k_var
     · exact rfl)
  | with_reducible apply k_c
  | with_reducible apply k_op | with_reducible apply k_cb | with_reducible apply k_call | with_reducible apply k_cons | with_reducible apply k_nil | with_reducible apply k_tup | with_reducible apply k_lst
  | with_reducible apply k_ifE | with_reducible apply k_test | with_reducible apply k_tb | with_reducible apply k_not | with_reducible apply k_and | with_reducible apply k_or | with_reducible apply k_bl
  | with_reducible apply k_sl | with_reducible apply k_part | with_reducible apply k_isI | with_reducible apply k_nopart
  | with_reducible apply k_lcZS | with_reducible apply k_onZS | with_reducible apply k_un | with_reducible apply k_neg
  | with_reducible apply k_lcS | with_reducible apply k_lcR | with_reducible apply k_lcL | with_reducible apply k_lcT | with_reducible apply k_forS | with_reducible apply k_forR | with_reducible apply k_forL | with_reducible apply k_forT | with_reducible apply k_onS | with_reducible apply k_yes
  | (with_reducible apply k_augC
     · exact rfl)
  | with_reducible apply k_next | with_reducible apply k_eqInt | with_reducible apply k_neInt | with_reducible apply k_eqStr | with_reducible apply k_neStr
  | with_reducible apply k_andV | with_reducible apply k_orV | with_reducible apply k_notV
  | with_reducible apply k_m1 | with_reducible apply k_onStr | with_reducible apply k_endsw
  | (with_reducible apply k_slS
     · walk_at "side")
  | (with_reducible apply k_newT
     · walk_at "len")
  | (with_reducible apply k_newL
     · walk_at "len")
  | with_reducible apply k_int1 | with_reducible apply k_max2 | with_reducible apply k_min2
  | (with_reducible apply k_lenS
     · walk_at "side")
  | (with_reducible apply k_lenL
     · walk_at "idx")
  | (with_reducible apply k_lenT
     · walk_at "idx")
  | (with_reducible apply k_rv
     · walk_at "rv")
  | walk_at "ifp")
local macro_rules | `(tactic| walk_at "kk") => `(tactic| (repeat (walk_at "k")))
local macro_rules | `(tactic| walk_at "len") => `(tactic| first | exact (by decide : (1:Nat) ≤ 100000) | exact (by decide : (2:Nat) ≤ 100000) | exact (by decide : (3:Nat) ≤ 100000) | exact (by decide : (4:Nat) ≤ 100000) | exact (by decide : (7:Nat) ≤ 100000) | (simp only [List.length_cons, List.length_nil]; omega) | omega)
local macro_rules | `(tactic| walk_at "up") => `(tactic| first
  | assumption
  | (refine Dq.up ?_ (Gr.new (by assumption))
     walk_at "up")
  | (refine Dq.up ?_ (by assumption)
     walk_at "up"))

section
variable {P : Program} {w : World} {K : PySem.W.Frag} {mg : Str → Option Value} {base : Heap}
theorem Pu.up {H H' : Hp} {p : Addr} {n m : Nat} (h : Pu H p n) (e : H' p = H p) (l : n ≤ m) : Pu H' p m := by
  obtain ⟨a, b, k, h1, h2, h3, h4, h5, h6⟩ := h
  exact ⟨a, b, k, e.trans h1, h2, h3, h4, h5, by omega⟩
theorem Pu.ne {H : Hp} {p q : Addr} {n : Nat} (h : Pu H p n) (hq : H q = none) : p ≠ q := by
  obtain ⟨a, b, k, h1, _⟩ := h
  exact ne_of_none h1 hq
theorem Pu.live {H : Hp} {p : Addr} {n : Nat} (h : Pu H p n) : Live [p] H := fun a ha => by
  obtain ⟨x, b, k, h1, _⟩ := h
  have e : a = p := by simpa using ha
  rw [e, h1]
  exact fun z => by cases z
/-- a text of the signs -/
def spText : Sp := fun vs H Q _ => ∃ (p : Addr) (z : Str) (lo hi : Int) (n : Nat), vs = [.ref p, .str z, .int lo, .int hi] ∧ 0 ≤ lo ∧ lo ≤ hi ∧ hi ≤ 1000 ∧ 0 < z.length ∧ z.length ≤ 100 ∧ Pu H p n ∧ n < 2 ^ 39 ∧
  ∀ (H' : Hp) (x : Str), Gr [p] H H' → Pu H' p (n + 1001) → (∀ c ∈ tl x, c ∈ tl z) → lo ≤ x.length → x.length ≤ hi → Q (.str x) H'
theorem ok_law_text (T : Txt K mg) : FnOk P w K mg base CX0 3 T.a_law_text T.fd_law_text ["purse", "signs", "least", "top"] spText := by
  refine T.F_law_text.ok sc_law_text (fun vs H Q E h => ?_) (fun cdv A outer s H vs Q E hr h => ?_)
  · obtain ⟨p, z, lo, hi, n, rfl, _⟩ := h
    rfl
  · obtain ⟨p, z, lo, hi, n, rfl, h1, h2, h3, h4, h4', hp, hn, q⟩ := h
    refine ⟨_, (pss_cons (ps_set (i := 4) sc_law_text.nd rfl (Or.inl rfl) (pe_op (addK K) (pv 2) (pe_call (ok_law_draw T) (hr.mono (by decide)) (by rfl) T.m_law_draw T.F_law_draw.kp T.b_law_draw .nil pass0 (pa_cons (pv 0) (pa_cons (pe_op op_subA (pe_op (addK K) pe_int (pv 3)) (pv 2)) pa_nil)))))
      (pss_one (ps_ret (joinK K pe_str (pe_lc (own := [("turn", 5)]) (by rfl) sc_law_text.nd (pi_range1 (by rfl) T.z_range (pa_cons (pv 4) pa_nil)) (blkOk_by (N := ["purse", "signs", "least", "top", "many", "turn"]) (sc := defScope s_law_text) (by decide +kernel)) (fun _ _ _ _ _ => (pg_name (i := 5) sc_law_text.nd rfl (Or.inl rfl))) (fun _ _ _ _ _ => pts_nil) (fun _ _ _ _ _ => (pe_ix (ixK K) (pv 1) (pe_call (ok_law_draw T) (hr.mono (by decide)) (by rfl) T.m_law_draw T.F_law_draw.kp T.b_law_draw .nil pass0 (pa_cons (pv 0) (pa_cons (pe_callB (lenK K) (by rfl) T.z_len B_len (pa_cons (pv 1) pa_nil)) pa_nil))) (fun _ _ => rfl)))))))), ?_⟩
    walk_at "kk"
    refine ⟨p, 1 + hi - lo, n, rfl, by omega, by omega, hp, by omega, fun H1 d g1 p1 d1 d2 => ?_⟩
    walk_at "kk"
    refine k_onR1 (by omega) (lc_go (walk_range (lo := 0) (n := (lo + d).toNat)) (fun D i H' => p ≠ D ∧ H D = none ∧ Gr [D, p] H H' ∧ Pu H' p (n + 1 + i) ∧ ∃ cs : List Nat, H' D = some (.lst ((singles cs).map V.str)) ∧ cs.length = i ∧ ∀ c ∈ cs, c ∈ tl z) (by intro _; rfl) (fun D hD => ?_) (fun _ _ _ _ _ => trivial) (fun D i x Ha Hb hi iv hy => ?_) (fun D H' iv => ?_))
    · have hpD := p1.ne hD
      exact ⟨hpD, g1.free hD (by simpa using hpD.symm), (g1.more (by simp)).trans (Gr.mut (by simp)), p1.up (upd_ne hpD) (by omega), [], upd_same, rfl, by simp⟩
    · obtain ⟨hpD, hD0, g2, p2, cs, e2, l2, m2⟩ := iv
      obtain ⟨rfl, rfl⟩ := hy
      walk_at "kk"
      refine ⟨p, z.length, n + 1 + i, rfl, by omega, by omega, p2, by omega, fun H3 d3 g3 p3 d31 d32 => ?_⟩
      have hc : d3.toNat < (tl z).length := by rw [← len_tl]; omega
      dsimp only
      apply k_rv
      · exact rv_ixS (c := (tl z)[d3.toNat]) (by omega) (at_int (by omega) (List.getElem?_eq_getElem hc))
      have e3 : H3 D = some (.lst ((singles cs).map V.str)) := g3 D _ (by simpa using hpD.symm) e2
      refine k_add e3 (by rw [List.length_map, singles_len]; omega) ⟨hpD, hD0, (g2.trans (g3.more (by simp))).trans (Gr.mut (by simp)), p3.up (upd_ne hpD) (by omega), cs ++ [(tl z)[d3.toNat]], ?_, by simp [l2], fun c hc' => ?_⟩
      · rw [upd_same]; simp [singles]
      · rcases List.mem_append.mp hc' with h | h
        · exact m2 c h
        · rw [List.mem_singleton.mp h]; exact List.getElem_mem hc
    · obtain ⟨hpD, hD0, g2, p2, cs, e2, l2, m2⟩ := iv
      refine k_joinL (Evl.sq_of e2) (join_cost cs (by omega)) ?_
      rw [join_singles]
      refine q _ _ (g2.less hD0) (p2.up rfl (by omega)) (by rw [tl_mk']; exact m2) ?_ ?_
      · rw [len_mk]; omega
      · rw [len_mk]; omega
end
end K01
set_option Elab.async false
set_option linter.all false
set_option maxRecDepth 100000
set_option maxHeartbeats 4000000
namespace K01
open PySem PySem.Spec PyProof.Rows L2 TL
/-! ### short words -/
local macro_rules | `(tactic| walk_at "idx") => `(tactic| first | assumption | exact Evl.sq_of (by assumption) | exact Evl.st_of (by assumption) | exact Evl.sq_of upd_same | exact Evl.st_of upd_same)
local macro_rules | `(tactic| walk_at "side") => `(tactic| first | omega | exact Or.inl ⟨by omega, by omega⟩ | exact Or.inr ⟨by omega, by omega⟩ | exact ⟨by omega, by omega⟩ | decide +kernel)
local macro_rules | `(tactic| walk_at "div") => `(tactic| exact wide_div (b := 30) (by omega) (by omega) (by decide) (by decide))
local macro_rules | `(tactic| walk_at "pow") => `(tactic| exact ⟨by decide +kernel, by decide +kernel, by decide +kernel⟩)
local macro_rules | `(tactic| walk_at "rv") => `(tactic| first
  | with_reducible exact rv_addI | with_reducible exact rv_sub | with_reducible exact rv_lt | with_reducible exact rv_le | with_reducible exact rv_gt | with_reducible exact rv_ge
  | with_reducible exact rv_inC | with_reducible exact rv_notInC | with_reducible exact rv_isB
  | (with_reducible apply rv_mul
     walk_at "side")
  | (with_reducible apply rv_mod
     walk_at "side")
  | (with_reducible apply rv_div
     walk_at "div")
  | (with_reducible apply rv_pow
     walk_at "pow")
  | (with_reducible apply rv_eq
     exact rfl)
  | (with_reducible apply rv_ne
     exact rfl)
  | (with_reducible apply rv_ixL
     · walk_at "idx"
     · exact rfl)
  | (with_reducible apply rv_ixT
     · walk_at "idx"
     · exact rfl)
  | (with_reducible apply rv_ixS
     · walk_at "side"
     · exact rfl)
  | (with_reducible apply rv_addS
     walk_at "side"))
local macro_rules | `(tactic| walk_at "val") => `(tactic| first
  | with_reducible exact val_c | exact val_c
  | (with_reducible apply val_var
     exact rfl)
  | (with_reducible apply val_bin
     · walk_at "val"
     · walk_at "val"
     · walk_at "rv")
  | (with_reducible apply val_int1
     walk_at "val")
  | (with_reducible apply val_max2
     · walk_at "val"
     · walk_at "val")
  | (with_reducible apply val_min2
     · walk_at "val"
     · walk_at "val")
  | (with_reducible apply val_endsw
     · walk_at "val"
     · walk_at "val")
  | (with_reducible apply val_lenS
     · walk_at "val"
     · walk_at "side")
  | (with_reducible apply val_lenL
     · walk_at "val"
     · walk_at "idx")
  | (with_reducible apply val_lenT
     · walk_at "val"
     · walk_at "idx")
  | (with_reducible apply val_notV
     walk_at "val"))
local macro_rules | `(tactic| walk_at "ans") => `(tactic| first
  | (with_reducible apply ans_T
     walk_at "val")
  | (with_reducible apply ans_B
     walk_at "val")
  | (with_reducible apply ans_not
     walk_at "ans"))
local macro_rules | `(tactic| walk_at "ifp") => `(tactic| first
  | (with_reducible refine Eq.mpr (if_pos ?_) ?_
     · decide +kernel)
  | (with_reducible refine Eq.mpr (if_neg ?_) ?_
     · decide +kernel))
local macro_rules | `(tactic| walk_at "k") => `(tactic| first
  | with_reducible apply k_seq | with_reducible apply k_asg | with_reducible apply k_ret | with_reducible apply k_ifS | with_reducible apply k_drop | with_reducible apply k_name
  | (with_reducible apply k_var
     · exact rfl)
  | with_reducible apply k_c
  | with_reducible apply k_op | with_reducible apply k_cb | with_reducible apply k_call | with_reducible apply k_cons | with_reducible apply k_nil | with_reducible apply k_tup | with_reducible apply k_lst
  | with_reducible apply k_ifE | with_reducible apply k_test | with_reducible apply k_tb | with_reducible apply k_not | with_reducible apply k_and | with_reducible apply k_or | with_reducible apply k_bl
  | with_reducible apply k_sl | with_reducible apply k_part | with_reducible apply k_isI | with_reducible apply k_nopart
  | with_reducible apply k_lcZS | with_reducible apply k_onZS | with_reducible apply k_un | with_reducible apply k_neg
  | with_reducible apply k_lcS | with_reducible apply k_lcR | with_reducible apply k_lcL | with_reducible apply k_lcT | with_reducible apply k_forS | with_reducible apply k_forR | with_reducible apply k_forL | with_reducible apply k_forT | with_reducible apply k_onS | with_reducible apply k_yes
  | (with_reducible apply k_augC
     · exact rfl)
  | with_reducible apply k_next | with_reducible apply k_eqInt | with_reducible apply k_neInt | with_reducible apply k_eqStr | with_reducible apply k_neStr
  | with_reducible apply k_andV | with_reducible apply k_orV | with_reducible apply k_notV
  | with_reducible apply k_m1 | with_reducible apply k_onStr | with_reducible apply k_endsw
  | (with_reducible apply k_slS
     · walk_at "side")
  | (with_reducible apply k_newT
     · walk_at "len")
  | (with_reducible apply k_newL
     · walk_at "len")
  | with_reducible apply k_int1 | with_reducible apply k_max2 | with_reducible apply k_min2
  | (with_reducible apply k_lenS
     · walk_at "side")
  | (with_reducible apply k_lenL
     · walk_at "idx")
  | (with_reducible apply k_lenT
     · walk_at "idx")
  | (with_reducible apply k_rv
     · walk_at "rv")
  | walk_at "ifp")
local macro_rules | `(tactic| walk_at "kk") => `(tactic| (repeat (walk_at "k")))
local macro_rules | `(tactic| walk_at "len") => `(tactic| first | exact (by decide : (1:Nat) ≤ 100000) | exact (by decide : (2:Nat) ≤ 100000) | exact (by decide : (3:Nat) ≤ 100000) | exact (by decide : (4:Nat) ≤ 100000) | exact (by decide : (7:Nat) ≤ 100000) | (simp only [List.length_cons, List.length_nil]; omega) | omega)
local macro_rules | `(tactic| walk_at "up") => `(tactic| first
  | assumption
  | (refine Dq.up ?_ (Gr.new (by assumption))
     walk_at "up")
  | (refine Dq.up ?_ (by assumption)
     walk_at "up"))

section
variable {P : Program} {w : World} {K : PySem.W.Frag} {mg : Str → Option Value} {base : Heap}
def menu : List Str := ["ab", "abc", "ba", "cab", "abcd", "a", "voz"]
theorem menu_len : ∀ s ∈ menu, 0 < s.length ∧ s.length ≤ 4 := by decide +kernel
theorem menu_at {d : Int} (h : 0 ≤ d) (h2 : d < 7) : ∃ s ∈ menu, (menu.map V.str)[d.toNat]? = some (.str s) := by
  have hl : d.toNat < menu.length := by show d.toNat < 7; omega
  exact ⟨menu[d.toNat], List.getElem_mem hl, by rw [List.getElem?_map, List.getElem?_eq_getElem hl]; rfl⟩
def spLetters : Sp := fun vs H Q _ => ∃ (p : Addr) (n : Nat), vs = [.ref p] ∧ Pu H p n ∧ n < 2 ^ 38 ∧
  ∀ (H' : Hp) (t : Addr) (s v : Str), Gr [p] H H' → Pu H' p (n + 10) → t ≠ p → H' t = some (.tup [.str s, .str v]) → s ∈ menu → (tl v).Sublist (tl s) → Q (.ref t) H'
theorem ok_law_letters (T : Txt K mg) : FnOk P w K mg base CX0 3 T.a_law_letters T.fd_law_letters ["purse"] spLetters := by
  refine T.F_law_letters.ok sc_law_letters (fun vs H Q E h => ?_) (fun cdv A outer s H vs Q E hr h => ?_)
  · obtain ⟨p, n, rfl, _⟩ := h
    rfl
  · obtain ⟨p, n, rfl, hp, hn, q⟩ := h
    refine ⟨_, (pss_cons (ps_set (i := 1) sc_law_letters.nd rfl (Or.inl rfl) (pe_ix (ixK K) (pe_lst (pa_cons pe_str (pa_cons pe_str (pa_cons pe_str (pa_cons pe_str (pa_cons pe_str (pa_cons pe_str (pa_cons pe_str pa_nil)))))))) (pe_call (ok_law_draw T) (hr.mono (by decide)) (by rfl) T.m_law_draw T.F_law_draw.kp T.b_law_draw .nil pass0 (pa_cons (pv 0) (pa_cons pe_int pa_nil))) (fun _ _ => rfl)))
      (pss_one (ps_ret (pe_tup (pa_cons (pv 1) (pa_cons (joinK K pe_str (pe_lc (own := [("one", 2)]) (by rfl) sc_law_letters.nd (pi_str (pv 1)) (blkOk_by (N := ["purse", "signs", "one"]) (sc := defScope s_law_letters) (by decide +kernel)) (fun _ _ _ _ _ => (pg_name (i := 2) sc_law_letters.nd rfl (Or.inl rfl))) (fun _ _ _ _ _ => (pts_one (pt_cmpR (eqK K hr) (pe_call (ok_law_draw T) (hr.mono (by decide)) (by rfl) T.m_law_draw T.F_law_draw.kp T.b_law_draw .nil pass0 (pa_cons (pv 0) (pa_cons pe_int pa_nil))) pe_int (nomark _)))) (fun _ _ _ _ _ => (pv 2)))) pa_nil)))))), ?_⟩
    walk_at "kk"
    intro l hl
    have hpl := hp.ne hl
    walk_at "kk"
    refine ⟨p, 7, n, rfl, by omega, by omega, hp.up (upd_ne hpl) (Nat.le_refl _), by omega, fun H1 d g1 p1 d1 d2 => ?_⟩
    walk_at "kk"
    obtain ⟨s, hs, es⟩ := menu_at d1 d2
    have hsl := menu_len s hs
    dsimp only
    apply k_rv
    · exact rv_ixL (Evl.sq_of (g1 l _ (by simpa using hpl.symm) upd_same)) (at_int d1 es)
    walk_at "kk"
    have g1' : Gr [p] H H1 := (Gr.new hl).trans g1

    refine lc_go (walk_str (z := s)) (fun D i H' => p ≠ D ∧ H D = none ∧ Gr [D, p] H H' ∧ Pu H' p (n + 1 + i) ∧ ∃ cs : List Nat, H' D = some (.lst ((singles cs).map V.str)) ∧ cs.Sublist ((tl s).take i)) (by intro _; rfl) (fun D hD => ?_) (fun _ _ _ _ _ => trivial) (fun D i x Ha Hb hi iv hy => ?_) (fun D H' iv => ?_)
    · have hpD := p1.ne hD
      exact ⟨hpD, g1'.free hD (by simpa using hpD.symm), (g1'.more (by simp)).trans (Gr.mut (by simp)), p1.up (upd_ne hpD) (by omega), [], upd_same, by simp⟩
    · obtain ⟨hpD, hD0, g2, p2, cs, e2, m2⟩ := iv
      obtain ⟨rfl, c, hc, rfl⟩ := hy
      have hc' : (tl s)[i]? = some c := by simpa [tl] using hc
      have hi4 : i < 4 := by
        have h5 := hsl.2
        simp [Str.length] at h5
        omega
      walk_at "kk"
      refine ⟨p, 2, n + 1 + i, rfl, by omega, by omega, p2, by omega, fun H3 d3 g3 p3 d31 d32 => ?_⟩
      have e3 : H3 D = some (.lst ((singles cs).map V.str)) := g3 D _ (by simpa using hpD.symm) e2
      have ht : (tl s).take (i + 1) = (tl s).take i ++ [c] := by rw [List.take_add_one, hc']; rfl
      walk_at "kk"
      refine k_ite (fun hb => ?_) (fun hb => ?_)
      · walk_at "kk"
        have hcl : cs.length ≤ 4 := by
          have := m2.length_le
          have h5 := hsl.2
          rw [len_tl] at h5
          rw [List.length_take] at this
          omega
        refine k_add e3 (by rw [List.length_map, singles_len]; omega) ⟨hpD, hD0, (g2.trans (g3.more (by simp))).trans (Gr.mut (by simp)), p3.up (upd_ne hpD) (by omega), cs ++ [c], ?_, ?_⟩
        · rw [upd_same]; simp [singles]
        · rw [ht]; exact m2.append (List.Sublist.refl _)
      · exact ⟨hpD, hD0, g2.trans (g3.more (by simp)), p3.up rfl (by omega), cs, e3, by rw [ht]; exact m2.trans (List.sublist_append_left _ _)⟩
    · obtain ⟨hpD, hD0, g2, p2, cs, e2, m2⟩ := iv
      have h5 := hsl.2
      have m3 : cs.Sublist (tl s) := m2.trans (List.take_sublist _ _)
      have hcl := m3.length_le
      rw [len_tl] at h5
      refine k_joinL (Evl.sq_of e2) (join_cost cs (by omega)) ?_
      rw [join_singles]
      walk_at "kk"
      intro t ht
      have hpt := p2.ne ht
      exact q _ t s (mk cs) ((g2.less hD0).trans (Gr.new ht)) (p2.up (upd_ne hpt) (by simp [tl] at h5; omega)) hpt.symm upd_same hs (by rw [tl_mk']; exact m3)
end
end K01
set_option Elab.async false
set_option linter.all false
set_option maxRecDepth 100000
set_option maxHeartbeats 4000000
namespace K01
open PySem PySem.Spec PyProof.Rows L2 TL Mi
/-! ### short words -/
local macro_rules | `(tactic| walk_at "idx") => `(tactic| first | assumption | exact Evl.sq_of (by assumption) | exact Evl.st_of (by assumption) | exact Evl.sq_of upd_same | exact Evl.st_of upd_same)
local macro_rules | `(tactic| walk_at "side") => `(tactic| first | omega | exact Or.inl ⟨by omega, by omega⟩ | exact Or.inr ⟨by omega, by omega⟩ | exact ⟨by omega, by omega⟩ | decide +kernel)
local macro_rules | `(tactic| walk_at "div") => `(tactic| exact wide_div (b := 30) (by omega) (by omega) (by decide) (by decide))
local macro_rules | `(tactic| walk_at "pow") => `(tactic| exact ⟨by decide +kernel, by decide +kernel, by decide +kernel⟩)
local macro_rules | `(tactic| walk_at "rv") => `(tactic| first
  | with_reducible exact rv_addI | with_reducible exact rv_sub | with_reducible exact rv_lt | with_reducible exact rv_le | with_reducible exact rv_gt | with_reducible exact rv_ge
  | with_reducible exact rv_inC | with_reducible exact rv_notInC | with_reducible exact rv_isB
  | (with_reducible apply rv_mul
     walk_at "side")
  | (with_reducible apply rv_mod
     walk_at "side")
  | (with_reducible apply rv_div
     walk_at "div")
  | (with_reducible apply rv_pow
     walk_at "pow")
  | (with_reducible apply rv_eq
     exact rfl)
  | (with_reducible apply rv_ne
     exact rfl)
  | (with_reducible apply rv_ixL
     · walk_at "idx"
     · exact rfl)
  | (with_reducible apply rv_ixT
     · walk_at "idx"
     · exact rfl)
  | (with_reducible apply rv_ixS
     · walk_at "side"
     · exact rfl)
  | (with_reducible apply rv_addS
     walk_at "side"))
local macro_rules | `(tactic| walk_at "val") => `(tactic| first
  | with_reducible exact val_c | exact val_c
  | (with_reducible apply val_var
     exact rfl)
  | (with_reducible apply val_bin
     · walk_at "val"
     · walk_at "val"
     · walk_at "rv")
  | (with_reducible apply val_int1
     walk_at "val")
  | (with_reducible apply val_max2
     · walk_at "val"
     · walk_at "val")
  | (with_reducible apply val_min2
     · walk_at "val"
     · walk_at "val")
  | (with_reducible apply val_endsw
     · walk_at "val"
     · walk_at "val")
  | (with_reducible apply val_lenS
     · walk_at "val"
     · walk_at "side")
  | (with_reducible apply val_lenL
     · walk_at "val"
     · walk_at "idx")
  | (with_reducible apply val_lenT
     · walk_at "val"
     · walk_at "idx")
  | (with_reducible apply val_notV
     walk_at "val"))
local macro_rules | `(tactic| walk_at "ans") => `(tactic| first
  | (with_reducible apply ans_T
     walk_at "val")
  | (with_reducible apply ans_B
     walk_at "val")
  | (with_reducible apply ans_not
     walk_at "ans"))
local macro_rules | `(tactic| walk_at "ifp") => `(tactic| first
  | (with_reducible refine Eq.mpr (if_pos ?_) ?_
     · decide +kernel)
  | (with_reducible refine Eq.mpr (if_neg ?_) ?_
     · decide +kernel))
local macro_rules | `(tactic| walk_at "k") => `(tactic| first
  | with_reducible apply k_seq | with_reducible apply k_asg | with_reducible apply k_ret | with_reducible apply k_ifS | with_reducible apply k_drop | with_reducible apply k_name
  | (with_reducible apply k_var
     · exact rfl)
  | with_reducible apply k_c
  | with_reducible apply k_op | with_reducible apply k_cb | with_reducible apply k_call | with_reducible apply k_cons | with_reducible apply k_nil | with_reducible apply k_tup | with_reducible apply k_lst
  | with_reducible apply k_ifE | with_reducible apply k_test | with_reducible apply k_tb | with_reducible apply k_not | with_reducible apply k_and | with_reducible apply k_or | with_reducible apply k_bl
  | with_reducible apply k_sl | with_reducible apply k_part | with_reducible apply k_isI | with_reducible apply k_nopart
  | with_reducible apply k_lcZS | with_reducible apply k_onZS | with_reducible apply k_un | with_reducible apply k_neg
  | with_reducible apply k_lcS | with_reducible apply k_lcR | with_reducible apply k_lcL | with_reducible apply k_lcT | with_reducible apply k_forS | with_reducible apply k_forR | with_reducible apply k_forL | with_reducible apply k_forT | with_reducible apply k_onS | with_reducible apply k_yes
  | (with_reducible apply k_augC
     · exact rfl)
  | with_reducible apply k_next | with_reducible apply k_eqInt | with_reducible apply k_neInt | with_reducible apply k_eqStr | with_reducible apply k_neStr
  | with_reducible apply k_andV | with_reducible apply k_orV | with_reducible apply k_notV
  | with_reducible apply k_m1 | with_reducible apply k_onStr | with_reducible apply k_endsw
  | (with_reducible apply k_slS
     · walk_at "side")
  | (with_reducible apply k_newT
     · walk_at "len")
  | (with_reducible apply k_newL
     · walk_at "len")
  | with_reducible apply k_int1 | with_reducible apply k_max2 | with_reducible apply k_min2
  | (with_reducible apply k_lenS
     · walk_at "side")
  | (with_reducible apply k_lenL
     · walk_at "idx")
  | (with_reducible apply k_lenT
     · walk_at "idx")
  | (with_reducible apply k_rv
     · walk_at "rv")
  | walk_at "ifp")
local macro_rules | `(tactic| walk_at "kk") => `(tactic| (repeat (walk_at "k")))
local macro_rules | `(tactic| walk_at "len") => `(tactic| first | exact (by decide : (1:Nat) ≤ 100000) | exact (by decide : (2:Nat) ≤ 100000) | exact (by decide : (3:Nat) ≤ 100000) | exact (by decide : (4:Nat) ≤ 100000) | exact (by decide : (7:Nat) ≤ 100000) | (simp only [List.length_cons, List.length_nil]; omega) | omega)
local macro_rules | `(tactic| walk_at "up") => `(tactic| first
  | assumption
  | (refine Dq.up ?_ (Gr.new (by assumption))
     walk_at "up")
  | (refine Dq.up ?_ (by assumption)
     walk_at "up"))

section
variable {P : Program} {w : World} {K : PySem.W.Frag} {mg : Str → Option Value} {base : Heap}
theorem Pu.new {H : Hp} {p a : Addr} {n : Nat} {o : HO} (h : Pu H p n) (ha : H a = none) : Pu (upd H a o) p n := h.up (upd_ne (h.ne ha)) (Nat.le_refl _)
def sm0 (z : Str) : C0 → Prop
  | .runs m => 0 ≤ m ∧ m ≤ 2
  | .ends ts => ts.length ≤ 2 ∧ ∀ t ∈ ts, t.length ≤ 2 ∧ ∀ c ∈ tl t, c ∈ tl z
  | .least k => 0 ≤ k ∧ k ≤ 3
  | .shape s => s.length ≤ 4 ∧ ∀ c ∈ tl s, c = 118 ∨ c = 111
  | _ => True
def smc (z : Str) : Cond → Prop
  | .pos c => sm0 z c
  | .neg c => sm0 z c
def spCond (K : PySem.W.Frag) : Sp := fun vs H Q _ => ∃ (p : Addr) (z : Str) (n : Nat), vs = [.ref p, .str z] ∧ 0 < z.length ∧ z.length ≤ 100 ∧ Pu H p n ∧ n < 2 ^ 38 ∧
  ∀ (H' : Hp) (v : V) (c : Cond), Gr [p] H H' → Pu H' p (n + 10000) → Dq K [p] H' v (enc c) → smc z c → Q v H'
theorem vo_letters : ∀ c ∈ tl ("vo" : Str), c = 118 ∨ c = 111 := by decide +kernel
theorem vo_len : ("vo" : Str).length = 2 := by decide +kernel
theorem ok_law_condition (T : Txt K mg) : FnOk P w K mg base CX0 4 T.a_law_condition T.fd_law_condition ["purse", "signs"] (spCond K) := by
  refine T.F_law_condition.ok sc_law_condition (fun vs H Q E h => ?_) (fun cdv A outer s H vs Q E hr h => ?_)
  · obtain ⟨p, z, n, rfl, _⟩ := h
    rfl
  · obtain ⟨p, z, n, rfl, hz, hz2, hp, hn, q⟩ := h
    refine ⟨_, (pss_cons (ps_set (i := 2) sc_law_condition.nd rfl (Or.inl rfl) (pe_callTy (tupK K) (by rfl) T.z_tuple B_tuple (pa_cons (pe_lc (own := [("turn", 6)]) (by rfl) sc_law_condition.nd (pi_range1 (by rfl) T.z_range (pa_cons (pe_call (ok_law_draw T) (hr.mono (by decide)) (by rfl) T.m_law_draw T.F_law_draw.kp T.b_law_draw .nil pass0 (pa_cons (pv 0) (pa_cons pe_int pa_nil))) pa_nil)) (blkOk_by (N := ["purse", "signs", "texts", "shape", "some", "found", "turn"]) (sc := defScope s_law_condition) (by decide +kernel)) (fun _ _ _ _ _ => (pg_name (i := 6) sc_law_condition.nd rfl (Or.inl rfl))) (fun _ _ _ _ _ => pts_nil) (fun _ _ _ _ _ => (pe_call (ok_law_text T) (hr.mono (by decide)) (by rfl) T.m_law_text T.F_law_text.kp T.b_law_text .nil pass0 (pa_cons (pv 0) (pa_cons (pv 1) (pa_cons pe_int (pa_cons pe_int pa_nil))))))) pa_nil)))
      (pss_cons (ps_set (i := 3) sc_law_condition.nd rfl (Or.inl rfl) (pe_call (ok_law_text T) (hr.mono (by decide)) (by rfl) T.m_law_text T.F_law_text.kp T.b_law_text .nil pass0 (pa_cons (pv 0) (pa_cons pe_str (pa_cons pe_int (pa_cons pe_int pa_nil))))))
      (pss_cons (ps_set (i := 4) sc_law_condition.nd rfl (Or.inl rfl) (pe_lst (pa_cons (pe_tup (pa_cons pe_str pa_nil)) (pa_cons (pe_tup (pa_cons pe_str (pa_cons (pe_call (ok_law_draw T) (hr.mono (by decide)) (by rfl) T.m_law_draw T.F_law_draw.kp T.b_law_draw .nil pass0 (pa_cons (pv 0) (pa_cons pe_int pa_nil))) pa_nil))) (pa_cons (pe_tup (pa_cons pe_str (pa_cons (pv 2) pa_nil))) (pa_cons (pe_tup (pa_cons pe_str pa_nil)) (pa_cons (pe_tup (pa_cons pe_str (pa_cons (pe_call (ok_law_draw T) (hr.mono (by decide)) (by rfl) T.m_law_draw T.F_law_draw.kp T.b_law_draw .nil pass0 (pa_cons (pv 0) (pa_cons pe_int pa_nil))) pa_nil))) pa_nil)))))))
      (pss_cons (ps_set (i := 5) sc_law_condition.nd rfl (Or.inl rfl) (pe_ix (ixK K) (pe_op (addK K) (pv 4) (pe_lst (pa_cons (pe_tup (pa_cons pe_str (pa_cons (pv 3) pa_nil))) pa_nil))) (pe_call (ok_law_draw T) (hr.mono (by decide)) (by rfl) T.m_law_draw T.F_law_draw.kp T.b_law_draw .nil pass0 (pa_cons (pv 0) (pa_cons pe_int pa_nil))) (fun _ _ => rfl)))
      (pss_one (ps_ret (pe_ifExp (pt_cmpR (eqK K hr) (pe_call (ok_law_draw T) (hr.mono (by decide)) (by rfl) T.m_law_draw T.F_law_draw.kp T.b_law_draw .nil pass0 (pa_cons (pv 0) (pa_cons pe_int pa_nil))) pe_int (nomark _)) (pe_tup (pa_cons pe_str (pa_cons (pv 5) pa_nil))) (pv 5)))))))), ?_⟩
    walk_at "kk"
    refine ⟨p, 3, n, rfl, by omega, by omega, hp, by omega, fun H1 d g1 p1 d1 d2 => ?_⟩
    walk_at "kk"
    refine k_onR1 (by omega) (lc_go (walk_range (lo := 0) (n := d.toNat)) (fun D i H' => p ≠ D ∧ H D = none ∧ Gr [D, p] H H' ∧ Pu H' p (n + 1 + i * 1001) ∧ ∃ ts : List Str, H' D = some (.lst (ts.map V.str)) ∧ ts.length = i ∧ ∀ t ∈ ts, t.length ≤ 2 ∧ ∀ c ∈ tl t, c ∈ tl z) (by intro _; rfl) (fun D hD => ?_) (fun _ _ _ _ _ => trivial) (fun D i x Ha Hb hi iv hy => ?_) (fun D H2 iv => ?_))
    · have hpD := p1.ne hD
      exact ⟨hpD, g1.free hD (by simpa using hpD.symm), (g1.more (by simp)).trans (Gr.mut (by simp)), p1.up (upd_ne hpD) (by omega), [], upd_same, rfl, by simp⟩
    · obtain ⟨hpD, hD0, g2, p2, ts, e2, l2, m2⟩ := iv
      obtain ⟨rfl, rfl⟩ := hy
      walk_at "kk"
      refine ⟨p, z, 0, 2, n + 1 + i * 1001, rfl, by omega, by omega, by omega, hz, hz2, p2, by omega, fun H3 x g3 p3 mx lx1 lx2 => ?_⟩
      have e3 : H3 D = some (.lst (ts.map V.str)) := g3 D _ (by simpa using hpD.symm) e2
      refine k_add e3 (by rw [List.length_map]; omega) ⟨hpD, hD0, (g2.trans (g3.more (by simp))).trans (Gr.mut (by simp)), p3.up (upd_ne hpD) (by omega), ts ++ [x], ?_, by simp [l2], fun t ht => ?_⟩
      · rw [upd_same]; simp
      · rcases List.mem_append.mp ht with h | h
        · exact m2 t h
        · rw [List.mem_singleton.mp h]; exact ⟨by omega, mx⟩
    · obtain ⟨hpD, hD0, g2, p2, ts, e2, l2, m2⟩ := iv
      have g2' := g2.less hD0
      walk_at "kk"
      refine k_tupOfL (Evl.sq_of e2) fun t1 ht1 => ?_
      have q1 : Dq K [p] _ (.ref t1) (.tuple (ts.map .str)) := Dq.newT (p2.live) ht1 (DqAll.strs ts)
      have p3 := p2.new (o := .tup (ts.map V.str)) ht1
      walk_at "kk"
      refine ⟨p, "vo", 0, 4, n + 1 + d.toNat * 1001, rfl, by omega, by omega, by omega, by rw [vo_len]; omega, by rw [vo_len]; omega, p3, by omega, fun H4 sh g4 p4 msh ls1 ls2 => ?_⟩
      walk_at "kk"
      intro a1 h1
      have p5 := p4.new (o := .tup [.str "vowel"]) h1
      have e1 : Dq K [p] _ (.ref a1) (enc0 .vowel) := Dq.newT p4.live h1 (.cons (Dq.str "vowel") .nil)
      walk_at "kk"
      refine ⟨p, 3, _, rfl, by omega, by omega, p5, by omega, fun H5 m g5 p6 m1 m2' => ?_⟩
      walk_at "kk"
      intro a2 h2
      have p7 := p6.new (o := .tup [.str "runs", .int m]) h2
      have e2 : Dq K [p] _ (.ref a2) (enc0 (.runs m)) := Dq.newT p6.live h2 (.cons (Dq.str "runs") (.cons (Dq.int m) .nil))
      walk_at "kk"
      intro a3 h3
      have p8 := p7.new (o := .tup [.str "ends", .ref t1]) h3
      have q2 : Dq K [p] (upd H5 a2 (.tup [.str "runs", .int m])) (.ref t1) (.tuple (ts.map .str)) := by walk_at "up"
      have e3 : Dq K [p] _ (.ref a3) (enc0 (.ends ts)) := Dq.newT p7.live h3 (.cons (Dq.str "ends") (.cons q2 .nil))
      walk_at "kk"
      intro a4 h4
      have p9 := p8.new (o := .tup [.str "double"]) h4
      have e4 : Dq K [p] _ (.ref a4) (enc0 .double) := Dq.newT p8.live h4 (.cons (Dq.str "double") .nil)
      walk_at "kk"
      refine ⟨p, 4, _, rfl, by omega, by omega, p9, by omega, fun H6 k g6 p10 k1 k2 => ?_⟩
      walk_at "kk"
      intro a5 h5
      have p11 := p10.new (o := .tup [.str "least", .int k]) h5
      have e5 : Dq K [p] _ (.ref a5) (enc0 (.least k)) := Dq.newT p10.live h5 (.cons (Dq.str "least") (.cons (Dq.int k) .nil))
      walk_at "kk"
      intro l1 hl1
      have p12 := p11.new (o := .lst [.ref a1, .ref a2, .ref a3, .ref a4, .ref a5]) hl1
      have hpl1 := p11.ne hl1
      walk_at "kk"
      intro a6 h6
      have p13 := p12.new (o := .tup [.str "shape", .str sh]) h6
      have e6 : Dq K [p] _ (.ref a6) (enc0 (.shape sh)) := Dq.newT p12.live h6 (.cons (Dq.str "shape") (.cons (Dq.str sh) .nil))
      have hl1' : (upd (upd (upd H6 a5 (.tup [.str "least", .int k])) l1 (.lst [.ref a1, .ref a2, .ref a3, .ref a4, .ref a5])) a6 (.tup [.str "shape", .str sh])) l1 = some (.lst [.ref a1, .ref a2, .ref a3, .ref a4, .ref a5]) := by
        rw [upd_ne (ne_of_none upd_same h6)]; exact upd_same
      walk_at "kk"
      intro l2' hl2
      have p14 := p13.new (o := .lst [.ref a6]) hl2
      walk_at "kk"
      dsimp only
      refine k_cat ((Gr.new (S := [p]) hl2) l1 _ (by simpa using hpl1.symm) hl1') upd_same (by simp) fun l3 hl3 => ?_
      have p15 := p14.new (o := .lst [.ref a1, .ref a2, .ref a3, .ref a4, .ref a5, .ref a6]) hl3
      have hpl3 := p14.ne hl3
      walk_at "kk"
      refine ⟨p, 6, _, rfl, by omega, by omega, p15, by omega, fun H7 d6 g7 p16 d61 d62 => ?_⟩
      have el3 : H7 l3 = some (.lst [.ref a1, .ref a2, .ref a3, .ref a4, .ref a5, .ref a6]) := g7 l3 _ (by simpa using hpl3.symm) upd_same
      let cs : List C0 := [.vowel, .runs m, .ends ts, .double, .least k, .shape sh]
      have hall : DqAll K [p] H7 [.ref a1, .ref a2, .ref a3, .ref a4, .ref a5, .ref a6] (cs.map enc0) :=
        .cons (by walk_at "up") (.cons (by walk_at "up") (.cons (by walk_at "up") (.cons (by walk_at "up") (.cons (by walk_at "up") (.cons (by walk_at "up") .nil)))))
      have hlt : d6.toNat < cs.length := by show d6.toNat < 6; omega
      obtain ⟨v, hv, qv⟩ := DpAll.get hall (i := d6.toNat) (d := enc0 cs[d6.toNat]) (by rw [List.getElem?_map, List.getElem?_eq_getElem hlt]; rfl)
      have qv : Dq K [p] H7 v (enc0 cs[d6.toNat]) := qv
      have hsm : sm0 z cs[d6.toNat] := by
        have hmem : cs[d6.toNat] ∈ cs := List.getElem_mem hlt
        have hallc : ∀ c ∈ cs, sm0 z c := by
          intro c hc
          simp only [cs, List.mem_cons, List.not_mem_nil, or_false] at hc
          rcases hc with h | h | h | h | h | h
          · rw [h]; trivial
          · rw [h]; exact ⟨m1, by omega⟩
          · rw [h]; exact ⟨by omega, m2⟩
          · rw [h]; trivial
          · rw [h]; exact ⟨k1, by omega⟩
          · rw [h]; exact ⟨by omega, fun c hc => vo_letters c (msh c hc)⟩
        exact hallc _ hmem
      dsimp only
      apply k_rv
      · exact rv_ixL (Evl.sq_of el3) (at_int d61 hv)
      walk_at "kk"
      have gAll : Gr [p] H H7 := g2'.trans ((Gr.new ht1).trans (g4.trans ((Gr.new h1).trans (g5.trans ((Gr.new h2).trans ((Gr.new h3).trans ((Gr.new h4).trans (g6.trans ((Gr.new h5).trans ((Gr.new hl1).trans ((Gr.new h6).trans ((Gr.new hl2).trans ((Gr.new hl3).trans g7)))))))))))))
      refine ⟨p, 3, _, rfl, by omega, by omega, p16, by omega, fun H8 d8 g8 p17 d81 d82 => ?_⟩
      walk_at "kk"
      refine k_ite (fun hb => ?_) (fun hb => ?_)
      · walk_at "kk"
        intro a7 h7
        exact q _ _ (.neg cs[d6.toNat]) (gAll.trans (g8.trans (Gr.new h7))) ((p17.new h7).up rfl (by omega)) (Dq.newT p17.live h7 (.cons (Dq.str "not") (.cons (qv.up g8) .nil))) hsm
      · walk_at "kk"
        exact q _ _ (.pos cs[d6.toNat]) (gAll.trans g8) (p17.up rfl (by omega)) (qv.up g8) hsm
end
end K01
set_option Elab.async false
set_option linter.all false
set_option maxRecDepth 100000
set_option maxHeartbeats 4000000
namespace K01
open PySem PySem.Spec PyProof.Rows L2 TL Mi
/-! ### short words -/
local macro_rules | `(tactic| walk_at "idx") => `(tactic| first | assumption | exact Evl.sq_of (by assumption) | exact Evl.st_of (by assumption) | exact Evl.sq_of upd_same | exact Evl.st_of upd_same)
local macro_rules | `(tactic| walk_at "side") => `(tactic| first | omega | exact Or.inl ⟨by omega, by omega⟩ | exact Or.inr ⟨by omega, by omega⟩ | exact ⟨by omega, by omega⟩ | decide +kernel)
local macro_rules | `(tactic| walk_at "div") => `(tactic| exact wide_div (b := 30) (by omega) (by omega) (by decide) (by decide))
local macro_rules | `(tactic| walk_at "pow") => `(tactic| exact ⟨by decide +kernel, by decide +kernel, by decide +kernel⟩)
local macro_rules | `(tactic| walk_at "rv") => `(tactic| first
  | with_reducible exact rv_addI | with_reducible exact rv_sub | with_reducible exact rv_lt | with_reducible exact rv_le | with_reducible exact rv_gt | with_reducible exact rv_ge
  | with_reducible exact rv_inC | with_reducible exact rv_notInC | with_reducible exact rv_isB
  | (with_reducible apply rv_mul
     walk_at "side")
  | (with_reducible apply rv_mod
     walk_at "side")
  | (with_reducible apply rv_div
     walk_at "div")
  | (with_reducible apply rv_pow
     walk_at "pow")
  | (with_reducible apply rv_eq
     exact rfl)
  | (with_reducible apply rv_ne
     exact rfl)
  | (with_reducible apply rv_ixL
     · walk_at "idx"
     · exact rfl)
  | (with_reducible apply rv_ixT
     · walk_at "idx"
     · exact rfl)
  | (with_reducible apply rv_ixS
     · walk_at "side"
     · exact rfl)
  | (with_reducible apply rv_addS
     walk_at "side"))
local macro_rules | `(tactic| walk_at "val") => `(tactic| first
  | with_reducible exact val_c | exact val_c
  | (with_reducible apply val_var
     exact rfl)
  | (with_reducible apply val_bin
     · walk_at "val"
     · walk_at "val"
     · walk_at "rv")
  | (with_reducible apply val_int1
     walk_at "val")
  | (with_reducible apply val_max2
     · walk_at "val"
     · walk_at "val")
  | (with_reducible apply val_min2
     · walk_at "val"
     · walk_at "val")
  | (with_reducible apply val_endsw
     · walk_at "val"
     · walk_at "val")
  | (with_reducible apply val_lenS
     · walk_at "val"
     · walk_at "side")
  | (with_reducible apply val_lenL
     · walk_at "val"
     · walk_at "idx")
  | (with_reducible apply val_lenT
     · walk_at "val"
     · walk_at "idx")
  | (with_reducible apply val_notV
     walk_at "val"))
local macro_rules | `(tactic| walk_at "ans") => `(tactic| first
  | (with_reducible apply ans_T
     walk_at "val")
  | (with_reducible apply ans_B
     walk_at "val")
  | (with_reducible apply ans_not
     walk_at "ans"))
local macro_rules | `(tactic| walk_at "ifp") => `(tactic| first
  | (with_reducible refine Eq.mpr (if_pos ?_) ?_
     · decide +kernel)
  | (with_reducible refine Eq.mpr (if_neg ?_) ?_
     · decide +kernel))
local macro_rules | `(tactic| walk_at "k") => `(tactic| first
  | with_reducible apply k_seq | with_reducible apply k_asg | with_reducible apply k_ret | with_reducible apply k_ifS | with_reducible apply k_drop | with_reducible apply k_name
  | (with_reducible apply k_var
     · exact rfl)
  | with_reducible apply k_c
  | with_reducible apply k_op | with_reducible apply k_cb | with_reducible apply k_call | with_reducible apply k_cons | with_reducible apply k_nil | with_reducible apply k_tup | with_reducible apply k_lst
  | with_reducible apply k_ifE | with_reducible apply k_test | with_reducible apply k_tb | with_reducible apply k_not | with_reducible apply k_and | with_reducible apply k_or | with_reducible apply k_bl
  | with_reducible apply k_sl | with_reducible apply k_part | with_reducible apply k_isI | with_reducible apply k_nopart
  | with_reducible apply k_lcZS | with_reducible apply k_onZS | with_reducible apply k_un | with_reducible apply k_neg
  | with_reducible apply k_lcS | with_reducible apply k_lcR | with_reducible apply k_lcL | with_reducible apply k_lcT | with_reducible apply k_forS | with_reducible apply k_forR | with_reducible apply k_forL | with_reducible apply k_forT | with_reducible apply k_onS | with_reducible apply k_yes
  | (with_reducible apply k_augC
     · exact rfl)
  | with_reducible apply k_next | with_reducible apply k_eqInt | with_reducible apply k_neInt | with_reducible apply k_eqStr | with_reducible apply k_neStr
  | with_reducible apply k_andV | with_reducible apply k_orV | with_reducible apply k_notV
  | with_reducible apply k_m1 | with_reducible apply k_onStr | with_reducible apply k_endsw
  | (with_reducible apply k_slS
     · walk_at "side")
  | (with_reducible apply k_newT
     · walk_at "len")
  | (with_reducible apply k_newL
     · walk_at "len")
  | with_reducible apply k_int1 | with_reducible apply k_max2 | with_reducible apply k_min2
  | (with_reducible apply k_lenS
     · walk_at "side")
  | (with_reducible apply k_lenL
     · walk_at "idx")
  | (with_reducible apply k_lenT
     · walk_at "idx")
  | (with_reducible apply k_rv
     · walk_at "rv")
  | walk_at "ifp")
local macro_rules | `(tactic| walk_at "kk") => `(tactic| (repeat (walk_at "k")))
local macro_rules | `(tactic| walk_at "len") => `(tactic| first | exact (by decide : (1:Nat) ≤ 100000) | exact (by decide : (2:Nat) ≤ 100000) | exact (by decide : (3:Nat) ≤ 100000) | exact (by decide : (4:Nat) ≤ 100000) | exact (by decide : (7:Nat) ≤ 100000) | (simp only [List.length_cons, List.length_nil]; omega) | omega)
local macro_rules | `(tactic| walk_at "up") => `(tactic| first
  | assumption
  | (refine Dq.up ?_ (Gr.new (by assumption))
     walk_at "up")
  | (refine Dq.up ?_ (by assumption)
     walk_at "up"))

section
variable {P : Program} {w : World} {K : PySem.W.Frag} {mg : Str → Option Value} {base : Heap}
/-- the runs of a text -/
def spRuns : Sp := fun vs H Q _ => ∃ x y : Str, vs = [.str x, .str y] ∧ x.length ≤ 50000 ∧ Q (.int (runs (tl y) (tl x) : Nat)) H
theorem sign_at {x : Str} {i : Nat} (h : i < x.length) : x.cps.toList[i]? = some ((tl x).getD i 0) := by
  have h' : i < (tl x).length := by rw [← len_tl]; exact h
  show (tl x)[i]? = _
  rw [List.getD_eq_getElem?_getD, List.getElem?_eq_getElem h']
  rfl
theorem ok_law_runs (T : Txt K mg) : FnOk P w K mg base CX0 1 T.a_law_runs T.fd_law_runs ["text", "soft"] spRuns := by
  refine T.F_law_runs.ok sc_law_runs (fun vs H Q E h => ?_) (fun cdv A outer s H vs Q E hr h => ?_)
  · obtain ⟨x, y, rfl, _⟩ := h
    rfl
  · obtain ⟨x, y, rfl, hx, q⟩ := h
    refine ⟨_, (pss_cons (ps_set (i := 2) sc_law_runs.nd rfl (Or.inl rfl) pe_int)
      (pss_cons (ps_for PassesOwn.never rfl (pi_range1 (by rfl) T.z_range (pa_cons (pe_op op_subA (pe_callB (lenK K) (by rfl) T.z_len B_len (pa_cons (pv 0) pa_nil)) pe_int) pa_nil)) (pg_name (i := 3) sc_law_runs.nd rfl (Or.inl rfl)) (pss_one (ps_if (PW.pt (pw_and (pt_cmpR op_inC (pe_ix (ixK K) (pv 0) (pv 3) (fun _ _ => rfl)) (pv 1) (by rfl)) (pw_and1 (pt_cmpR op_notInC (pe_ix (ixK K) (pv 0) (pe_op (addK K) (pv 3) pe_int) (fun _ _ => rfl)) (pv 1) (by rfl))))) (pss_one (ps_set (i := 2) sc_law_runs.nd rfl (Or.inl rfl) (pe_op (addK K) (pv 2) pe_int))) pss_nil)))
      (pss_one (ps_ret (pv 2))))), ?_⟩
    walk_at "kk"
    have hxl := len_tl x
    refine k_onR1 (by omega) (for_go (walk_rng (n := ((x.length : Int) - 1).toNat)) (fun i σ H' => H' = H ∧ ∃ y3, σ = [some (.str x), some (.str y), some (.int (runs (tl y) ((tl x).take (i + 1)) : Nat)), y3]) ?_ (fun _ _ _ _ _ => trivial) (fun i v σ Ha Hb hi iv hy => ?_) (fun σ H' iv => ?_))
    · exact ⟨rfl, none, by rw [runs_zero]; rfl⟩
    · obtain ⟨rfl, y3, rfl⟩ := iv
      obtain ⟨rfl, rfl⟩ := hy
      have st := runs_step (tl y) (tl x) i (by omega)
      have s0 := sign_at (x := x) (i := i) (by omega)
      have s1 := sign_at (x := x) (i := i + 1) (by omega)
      walk_at "kk"
      apply k_rv
      · exact rv_ixS (by omega) (at_int (by omega) s0)
      walk_at "kk"
      refine k_ite (fun hb => ?_) (fun hb => ?_)
      · have b0 := of_decide_eq_true hb
        walk_at "kk"
        apply k_rv
        · exact rv_ixS (by omega) (at_int (by omega) s1)
        walk_at "kk"
        refine k_ite (fun hb2 => ?_) (fun hb2 => ?_)
        · walk_at "kk"
          refine ⟨rfl, some (.int (i : Nat)), ?_⟩
          have b1 : (tl x).getD (i + 1) 0 ∉ tl y := by simpa using hb2
          have e : runs (tl y) ((tl x).take (i + 1 + 1)) = runs (tl y) ((tl x).take (i + 1)) + 1 := by rw [show i + 1 + 1 = i + 2 from rfl, st, if_pos ⟨b0, b1⟩]
          rw [e]
          rfl
        · walk_at "kk"
          refine ⟨rfl, some (.int (i : Nat)), ?_⟩
          have b1 : ¬ (tl x).getD (i + 1) 0 ∉ tl y := by simpa using hb2
          have e : runs (tl y) ((tl x).take (i + 1 + 1)) = runs (tl y) ((tl x).take (i + 1)) := by rw [show i + 1 + 1 = i + 2 from rfl, st, if_neg (fun h => b1 h.2)]; rfl
          rw [e]
          rfl
      · refine k_ite (fun h => by cases h) (fun _ => ?_)
        have b0 : ¬ (tl x).getD i 0 ∈ tl y := of_decide_eq_false hb
        walk_at "kk"
        refine ⟨rfl, some (.int (i : Nat)), ?_⟩
        have e : runs (tl y) ((tl x).take (i + 1 + 1)) = runs (tl y) ((tl x).take (i + 1)) := by rw [show i + 1 + 1 = i + 2 from rfl, st, if_neg (fun h => b0 h.1)]; rfl
        rw [e]
        rfl
    · obtain ⟨rfl, y3, rfl⟩ := iv
      walk_at "kk"
      have e : (tl x).take (((x.length : Int) - 1).toNat + 1) = tl x := List.take_of_length_le (by omega)
      rw [e]
      exact q
theorem ok_count_runs (T : Txt K mg) : FnOk P w K mg base CX0 1 T.a_count_runs T.fd_count_runs ["text", "vowels"] spRuns := by
  refine T.F_count_runs.ok sc_count_runs (fun vs H Q E h => ?_) (fun cdv A outer s H vs Q E hr h => ?_)
  · obtain ⟨x, y, rfl, _⟩ := h
    rfl
  · obtain ⟨x, y, rfl, hx, q⟩ := h
    refine ⟨_, (pss_cons (ps_set (i := 2) sc_count_runs.nd rfl (Or.inl rfl) pe_int)
      (pss_cons (ps_for PassesOwn.never rfl (pi_range1 (by rfl) T.z_range (pa_cons (pe_op op_subA (pe_callB (lenK K) (by rfl) T.z_len B_len (pa_cons (pv 0) pa_nil)) pe_int) pa_nil)) (pg_name (i := 3) sc_count_runs.nd rfl (Or.inl rfl)) (pss_one (ps_if (PW.pt (pw_and (pt_cmpR op_inC (pe_ix (ixK K) (pv 0) (pv 3) (fun _ _ => rfl)) (pv 1) (by rfl)) (pw_and1 (pt_cmpR op_notInC (pe_ix (ixK K) (pv 0) (pe_op (addK K) (pv 3) pe_int) (fun _ _ => rfl)) (pv 1) (by rfl))))) (pss_one (ps_aug (i := 2) sc_count_runs.nd rfl (Or.inl rfl) pe_int ip_add)) pss_nil)))
      (pss_one (ps_ret (pv 2))))), ?_⟩
    walk_at "kk"
    have hxl := len_tl x
    refine k_onR1 (by omega) (for_go (walk_rng (n := ((x.length : Int) - 1).toNat)) (fun i σ H' => H' = H ∧ ∃ y3, σ = [some (.str x), some (.str y), some (.int (runs (tl y) ((tl x).take (i + 1)) : Nat)), y3]) ?_ (fun _ _ _ _ _ => trivial) (fun i v σ Ha Hb hi iv hy => ?_) (fun σ H' iv => ?_))
    · exact ⟨rfl, none, by rw [runs_zero]; rfl⟩
    · obtain ⟨rfl, y3, rfl⟩ := iv
      obtain ⟨rfl, rfl⟩ := hy
      have st := runs_step (tl y) (tl x) i (by omega)
      have s0 := sign_at (x := x) (i := i) (by omega)
      have s1 := sign_at (x := x) (i := i + 1) (by omega)
      walk_at "kk"
      apply k_rv
      · exact rv_ixS (by omega) (at_int (by omega) s0)
      walk_at "kk"
      refine k_ite (fun hb => ?_) (fun hb => ?_)
      · have b0 := of_decide_eq_true hb
        walk_at "kk"
        apply k_rv
        · exact rv_ixS (by omega) (at_int (by omega) s1)
        walk_at "kk"
        refine k_ite (fun hb2 => ?_) (fun hb2 => ?_)
        · walk_at "kk"
          refine ⟨rfl, some (.int (i : Nat)), ?_⟩
          have b1 : (tl x).getD (i + 1) 0 ∉ tl y := by simpa using hb2
          have e : runs (tl y) ((tl x).take (i + 1 + 1)) = runs (tl y) ((tl x).take (i + 1)) + 1 := by rw [show i + 1 + 1 = i + 2 from rfl, st, if_pos ⟨b0, b1⟩]
          rw [e]
          rfl
        · walk_at "kk"
          refine ⟨rfl, some (.int (i : Nat)), ?_⟩
          have b1 : ¬ (tl x).getD (i + 1) 0 ∉ tl y := by simpa using hb2
          have e : runs (tl y) ((tl x).take (i + 1 + 1)) = runs (tl y) ((tl x).take (i + 1)) := by rw [show i + 1 + 1 = i + 2 from rfl, st, if_neg (fun h => b1 h.2)]; rfl
          rw [e]
          rfl
      · refine k_ite (fun h => by cases h) (fun _ => ?_)
        have b0 : ¬ (tl x).getD i 0 ∈ tl y := of_decide_eq_false hb
        walk_at "kk"
        refine ⟨rfl, some (.int (i : Nat)), ?_⟩
        have e : runs (tl y) ((tl x).take (i + 1 + 1)) = runs (tl y) ((tl x).take (i + 1)) := by rw [show i + 1 + 1 = i + 2 from rfl, st, if_neg (fun h => b0 h.1)]; rfl
        rw [e]
        rfl
    · obtain ⟨rfl, y3, rfl⟩ := iv
      walk_at "kk"
      have e : (tl x).take (((x.length : Int) - 1).toNat + 1) = tl x := List.take_of_length_le (by omega)
      rw [e]
      exact q
end
end K01

set_option Elab.async false
set_option linter.all false
set_option maxRecDepth 100000
set_option maxHeartbeats 4000000
namespace K01
open PySem PySem.Spec PyProof.Rows L2 TL Mi
/-! ### short words -/
local macro_rules | `(tactic| walk_at "idx") => `(tactic| first | assumption | exact Evl.sq_of (by assumption) | exact Evl.st_of (by assumption) | exact Evl.sq_of upd_same | exact Evl.st_of upd_same)
local macro_rules | `(tactic| walk_at "side") => `(tactic| first | omega | exact Or.inl ⟨by omega, by omega⟩ | exact Or.inr ⟨by omega, by omega⟩ | exact ⟨by omega, by omega⟩ | decide +kernel)
local macro_rules | `(tactic| walk_at "div") => `(tactic| exact wide_div (b := 30) (by omega) (by omega) (by decide) (by decide))
local macro_rules | `(tactic| walk_at "pow") => `(tactic| exact ⟨by decide +kernel, by decide +kernel, by decide +kernel⟩)
local macro_rules | `(tactic| walk_at "rv") => `(tactic| first
  | with_reducible exact rv_addI | with_reducible exact rv_sub | with_reducible exact rv_lt | with_reducible exact rv_le | with_reducible exact rv_gt | with_reducible exact rv_ge
  | with_reducible exact rv_inC | with_reducible exact rv_notInC | with_reducible exact rv_isB
  | (with_reducible apply rv_mul
     walk_at "side")
  | (with_reducible apply rv_mod
     walk_at "side")
  | (with_reducible apply rv_div
     walk_at "div")
  | (with_reducible apply rv_pow
     walk_at "pow")
  | (with_reducible apply rv_eq
     exact rfl)
  | (with_reducible apply rv_ne
     exact rfl)
  | (with_reducible apply rv_ixL
     · walk_at "idx"
     · exact rfl)
  | (with_reducible apply rv_ixT
     · walk_at "idx"
     · exact rfl)
  | (with_reducible apply rv_ixS
     · walk_at "side"
     · exact rfl)
  | (with_reducible apply rv_addS
     walk_at "side"))
local macro_rules | `(tactic| walk_at "val") => `(tactic| first
  | with_reducible exact val_c | exact val_c
  | (with_reducible apply val_var
     exact rfl)
  | (with_reducible apply val_bin
     · walk_at "val"
     · walk_at "val"
     · walk_at "rv")
  | (with_reducible apply val_int1
     walk_at "val")
  | (with_reducible apply val_max2
     · walk_at "val"
     · walk_at "val")
  | (with_reducible apply val_min2
     · walk_at "val"
     · walk_at "val")
  | (with_reducible apply val_endsw
     · walk_at "val"
     · walk_at "val")
  | (with_reducible apply val_lenS
     · walk_at "val"
     · walk_at "side")
  | (with_reducible apply val_lenL
     · walk_at "val"
     · walk_at "idx")
  | (with_reducible apply val_lenT
     · walk_at "val"
     · walk_at "idx")
  | (with_reducible apply val_notV
     walk_at "val"))
local macro_rules | `(tactic| walk_at "ans") => `(tactic| first
  | (with_reducible apply ans_T
     walk_at "val")
  | (with_reducible apply ans_B
     walk_at "val")
  | (with_reducible apply ans_not
     walk_at "ans"))
local macro_rules | `(tactic| walk_at "ifp") => `(tactic| first
  | (with_reducible refine Eq.mpr (if_pos ?_) ?_
     · decide +kernel)
  | (with_reducible refine Eq.mpr (if_neg ?_) ?_
     · decide +kernel))
local macro_rules | `(tactic| walk_at "k") => `(tactic| first
  | with_reducible apply k_seq | with_reducible apply k_asg | with_reducible apply k_ret | with_reducible apply k_ifS | with_reducible apply k_drop | with_reducible apply k_name
  | (with_reducible apply k_var
     · exact rfl)
  | with_reducible apply k_c
  | with_reducible apply k_op | with_reducible apply k_cb | with_reducible apply k_call | with_reducible apply k_cons | with_reducible apply k_nil | with_reducible apply k_tup | with_reducible apply k_lst
  | with_reducible apply k_ifE | with_reducible apply k_test | with_reducible apply k_tb | with_reducible apply k_not | with_reducible apply k_and | with_reducible apply k_or | with_reducible apply k_bl
  | with_reducible apply k_sl | with_reducible apply k_part | with_reducible apply k_isI | with_reducible apply k_nopart
  | with_reducible apply k_lcZS | with_reducible apply k_onZS | with_reducible apply k_un | with_reducible apply k_neg
  | with_reducible apply k_lcS | with_reducible apply k_lcR | with_reducible apply k_lcL | with_reducible apply k_lcT | with_reducible apply k_forS | with_reducible apply k_forR | with_reducible apply k_forL | with_reducible apply k_forT | with_reducible apply k_onS | with_reducible apply k_yes
  | (with_reducible apply k_augC
     · exact rfl)
  | with_reducible apply k_next | with_reducible apply k_eqInt | with_reducible apply k_neInt | with_reducible apply k_eqStr | with_reducible apply k_neStr
  | with_reducible apply k_andV | with_reducible apply k_orV | with_reducible apply k_notV
  | with_reducible apply k_m1 | with_reducible apply k_onStr | with_reducible apply k_endsw
  | (with_reducible apply k_slS
     · walk_at "side")
  | (with_reducible apply k_newT
     · walk_at "len")
  | (with_reducible apply k_newL
     · walk_at "len")
  | with_reducible apply k_int1 | with_reducible apply k_max2 | with_reducible apply k_min2
  | (with_reducible apply k_lenS
     · walk_at "side")
  | (with_reducible apply k_lenL
     · walk_at "idx")
  | (with_reducible apply k_lenT
     · walk_at "idx")
  | (with_reducible apply k_rv
     · walk_at "rv")
  | walk_at "ifp")
local macro_rules | `(tactic| walk_at "kk") => `(tactic| (repeat (walk_at "k")))
local macro_rules | `(tactic| walk_at "len") => `(tactic| first | exact (by decide : (1:Nat) ≤ 100000) | exact (by decide : (2:Nat) ≤ 100000) | exact (by decide : (3:Nat) ≤ 100000) | exact (by decide : (4:Nat) ≤ 100000) | exact (by decide : (7:Nat) ≤ 100000) | (simp only [List.length_cons, List.length_nil]; omega) | omega)
local macro_rules | `(tactic| walk_at "up") => `(tactic| first
  | assumption
  | (refine Dq.up ?_ (Gr.new (by assumption))
     walk_at "up")
  | (refine Dq.up ?_ (by assumption)
     walk_at "up"))

section
variable {P : Program} {w : World} {K : PySem.W.Frag} {mg : Str → Option Value} {base : Heap}
theorem any_mem_swap (r v : List Nat) : (r.any fun c => decide (c ∈ v)) = v.any fun c => decide (c ∈ r) := by
  rw [Bool.eq_iff_iff, List.any_eq_true, List.any_eq_true]
  constructor
  · rintro ⟨c, h1, h2⟩
    exact ⟨c, of_decide_eq_true h2, decide_eq_true h1⟩
  · rintro ⟨c, h1, h2⟩
    exact ⟨c, of_decide_eq_true h2, decide_eq_true h1⟩
def spVow : Sp := fun vs H Q _ => ∃ x y : Str, vs = [.str x, .str y] ∧ y.length ≤ 50000 ∧ ∀ H', Same H H' → Q (.bl ((tl x).any fun c => decide (c ∈ tl y))) H'
theorem ok_has_vowel (T : Txt K mg) : FnOk P w K mg base CX0 1 T.a_has_vowel T.fd_has_vowel ["text", "vowels"] spVow := by
  refine T.F_has_vowel.ok sc_has_vowel (fun vs H Q E h => ?_) (fun cdv A outer s H vs Q E hr h => ?_)
  · obtain ⟨x, y, rfl, _⟩ := h
    rfl
  · obtain ⟨x, y, rfl, hx, q⟩ := h
    refine ⟨_, (pss_one (ps_ret (pe_callB (anyK K) (by rfl) T.z_any B_any (pa_cons (pe_lc (own := [("vowel", 2)]) (by rfl) sc_has_vowel.nd (pi_str (pv 1)) (blkOk_by (N := ["text", "vowels", "vowel"]) (sc := defScope s_has_vowel) (by decide +kernel)) (fun _ _ _ _ _ => (pg_name (i := 2) sc_has_vowel.nd rfl (Or.inl rfl))) (fun _ _ _ _ _ => pts_nil) (fun _ _ _ _ _ => (pe_cmpR op_inC (pv 2) (pv 0) (by rfl)))) pa_nil)))), ?_⟩
    walk_at "kk"
    refine lc_mapS (fun c => .bl (decide (c ∈ tl x))) hx (by intro _; rfl) (fun c H1 hc s1 => EvS.of (by walk_at "val")) (fun D H' h1 h2 h3 => ?_)
    walk_at "kk"
    refine k_any (bs := (tl y).map fun c => decide (c ∈ tl x)) (Evl.sq_of (by rw [h3, List.map_map]; rfl)) ?_
    rw [List.any_map]
    have e : ((tl x).any fun c => decide (c ∈ tl y)) = (tl y).any (id ∘ fun c => decide (c ∈ tl x)) := any_mem_swap _ _
    rw [← e]
    exact q H' h2
def spNum (K : PySem.W.Frag) : Sp := fun vs H Q _ => ∃ (v : V) (d : PyData), vs = [v] ∧ Th K H v d ∧ Q (.bl (isNum d)) H
theorem ok_is_number (T : Txt K mg) : FnOk P w K mg base CX0 1 T.a_is_number T.fd_is_number ["thing"] (spNum K) := by
  refine T.F_is_number.ok sc_is_number (fun vs H Q E h => ?_) (fun cdv A outer s H vs Q E hr h => ?_)
  · obtain ⟨x, d, rfl, _⟩ := h
    rfl
  · obtain ⟨v, d, rfl, ht, q⟩ := h
    refine ⟨_, (pss_one (ps_ret (pe_and (pe_callB (isiK K) (by rfl) T.z_isinstance B_isinstance (pa_cons (pv 0) (pa_cons (pe_bltn (v := .ty "int") (by rfl) T.z_int B_int (by rfl)) pa_nil))) (pe_and (pe_not (pe_callB (isiK K) (by rfl) T.z_isinstance B_isinstance (pa_cons (pv 0) (pa_cons (pe_bltn (v := .ty "bool") (by rfl) T.z_bool B_bool (by rfl)) pa_nil)))) (pe_one (pe_cmpR op_geA (pv 0) pe_int (nomark _))))))), ?_⟩
    walk_at "kk"
    refine k_isiD ht (kit_int d) ?_
    walk_at "kk"
    refine k_ite (fun hb => ?_) (fun hb => ?_)
    · walk_at "kk"
      refine k_isiD ht (kit_bool d) ?_
      walk_at "kk"
      refine k_ite (fun hb2 => ?_) (fun hb2 => ?_)
      · cases d <;> simp [isIntD, isBoolD] at hb hb2
        rcases ht with ht | ⟨a, kvs, _, _, e⟩
        · cases ht
          walk_at "kk"
          exact q
        · cases e
      · have e : isNum d = false := by cases d <;> simp [isIntD, isBoolD] at hb hb2 <;> rfl
        rw [e] at q
        exact q
    · have e : isNum d = false := by cases d <;> simp [isIntD] at hb <;> rfl
      rw [e] at q
      exact q
/-- whether a thing is a text of the letters -/
def spTextOf (K : PySem.W.Frag) : Sp := fun vs H Q _ => ∃ (v : V) (d : PyData) (y : Str), vs = [v, .str y] ∧ Th K H v d ∧ szd d ∧ ∀ H', Same H H' → Q (.bl (isTextOf d y)) H'
theorem ok_is_text_of (T : Txt K mg) : FnOk P w K mg base CX0 1 T.a_is_text_of T.fd_is_text_of ["thing", "letters"] (spTextOf K) := by
  refine T.F_is_text_of.ok sc_is_text_of (fun vs H Q E h => ?_) (fun cdv A outer s H vs Q E hr h => ?_)
  · obtain ⟨x, d, y, rfl, _⟩ := h
    rfl
  · obtain ⟨v, d, y, rfl, ht, hz, q⟩ := h
    refine ⟨_, (pss_one (ps_ret (pe_and (pe_callB (isiK K) (by rfl) T.z_isinstance B_isinstance (pa_cons (pv 0) (pa_cons (pe_bltn (v := .ty "str") (by rfl) T.z_str B_str (by rfl)) pa_nil))) (pe_one (pe_callB (allK K) (by rfl) T.z_all B_all (pa_cons (pe_lc (own := [("letter", 2)]) (by rfl) sc_is_text_of.nd (pi_str (pv 0)) (blkOk_by (N := ["thing", "letters", "letter"]) (sc := defScope s_is_text_of) (by decide +kernel)) (fun _ _ _ _ _ => (pg_name (i := 2) sc_is_text_of.nd rfl (Or.inl rfl))) (fun _ _ _ _ _ => pts_nil) (fun _ _ _ _ _ => (pe_cmpR op_inC (pv 2) (pv 1) (by rfl)))) pa_nil)))))), ?_⟩
    walk_at "kk"
    refine k_isiD ht (kit_str d) ?_
    walk_at "kk"
    refine k_ite (fun hb => ?_) (fun hb => ?_)
    · cases d <;> simp [isStrD] at hb
      rename_i x
      rcases ht with ht | ⟨a, kvs, _, _, e⟩
      · cases ht
        walk_at "kk"
        refine lc_mapS (fun c => .bl (decide (c ∈ tl y))) hz (by intro _; rfl) (fun c H1 hc s1 => EvS.of (by walk_at "val")) (fun D H' h1 h2 h3 => ?_)
        walk_at "kk"
        refine k_all (bs := (tl x).map fun c => decide (c ∈ tl y)) (Evl.sq_of (by rw [h3, List.map_map]; rfl)) ?_
        rw [List.all_map]
        exact q H' h2
      · cases e
    · have e : isTextOf d y = false := by cases d <;> simp [isStrD] at hb <;> rfl
      rw [e] at q
      exact q H (Same.refl H)
/-- a tuple is not nested too deep, and its texts are texts -/
def shT (d : PyData) : Prop := ∀ ds, d = .tuple ds → SeqAt.shaped (.tuple ds) = true
def spPlain (K : PySem.W.Frag) : Sp := fun vs H Q _ => ∃ (v : V) (d : PyData), vs = [v] ∧ Th K H v d ∧ shT d ∧ (∀ ds, d = .tuple ds → ∀ e ∈ ds, szd e) ∧ ∀ H', Same H H' → Q (.bl (isPl d)) H'
theorem ok_is_plain (T : Txt K mg) : FnOk P w K mg base CX0 2 T.a_is_plain T.fd_is_plain ["thing"] (spPlain K) := by
  refine T.F_is_plain.ok sc_is_plain (fun vs H Q E h => ?_) (fun cdv A outer s H vs Q E hr h => ?_)
  · obtain ⟨x, d, rfl, _⟩ := h
    rfl
  · obtain ⟨v, d, rfl, ht, hs, hz, q⟩ := h
    refine ⟨_, (pss_cons (ps_if (pt_not (pt_val (pe_callB (isiK K) (by rfl) T.z_isinstance B_isinstance (pa_cons (pv 0) (pa_cons (pe_bltn (v := .ty "tuple") (by rfl) T.z_tuple B_tuple (by rfl)) pa_nil))))) (pss_one (ps_ret pe_bl)) pss_nil)
      (pss_cons (ps_if (pt_cmpR (eqK K hr) (pe_callB (lenK K) (by rfl) T.z_len B_len (pa_cons (pv 0) pa_nil)) pe_int (nomark _)) (pss_one (ps_ret (pe_cmpR (inTK K hr) (pe_ix (ixK K) (pv 0) pe_int (fun _ _ => rfl)) (pe_tup (pa_cons pe_str (pa_cons pe_str pa_nil))) (by rfl)))) pss_nil)
      (pss_cons (ps_if (pt_cmpR (neK K hr) (pe_callB (lenK K) (by rfl) T.z_len B_len (pa_cons (pv 0) pa_nil)) pe_int (nomark _)) (pss_one (ps_ret pe_bl)) pss_nil)
      (pss_cons (ps_asg (pv 0) (tupleK K (n := 2) rfl (pgs_cons (pg_name (i := 1) sc_is_plain.nd rfl (Or.inl rfl)) (pgs_cons (pg_name (i := 2) sc_is_plain.nd rfl (Or.inl rfl)) pgs_nil))))
      (pss_cons (ps_if (pt_cmpR (inTK K hr) (pv 1) (pe_tup (pa_cons pe_str (pa_cons pe_str pa_nil))) (by rfl)) (pss_one (ps_ret (pe_call (ok_is_number T) (hr.mono (by decide)) (by rfl) T.m_is_number T.F_is_number.kp T.b_is_number .nil pass0 (pa_cons (pv 2) pa_nil)))) pss_nil)
      (pss_cons (ps_if (pt_cmpR (eqK K hr) (pv 1) pe_str (nomark _)) (pss_one (ps_ret (pe_and (pe_callB (isiK K) (by rfl) T.z_isinstance B_isinstance (pa_cons (pv 2) (pa_cons (pe_bltn (v := .ty "tuple") (by rfl) T.z_tuple B_tuple (by rfl)) pa_nil))) (pe_one (pe_callB (allK K) (by rfl) T.z_all B_all (pa_cons (pe_lc (own := [("text", 3)]) (by rfl) sc_is_plain.nd (tupIK K (pv 2)) (blkOk_by (N := ["thing", "kind", "value", "text"]) (sc := defScope s_is_plain) (by decide +kernel)) (fun _ _ _ _ _ => (pg_name (i := 3) sc_is_plain.nd rfl (Or.inl rfl))) (fun _ _ _ _ _ => pts_nil) (fun _ _ _ _ _ => (pe_callB (isiK K) (by rfl) T.z_isinstance B_isinstance (pa_cons (pv 3) (pa_cons (pe_bltn (v := .ty "str") (by rfl) T.z_str B_str (by rfl)) pa_nil))))) pa_nil)))))) pss_nil)
      (pss_one (ps_ret (pe_and (pe_cmpR (eqK K hr) (pv 1) pe_str (nomark _)) (pe_one (pe_call (ok_is_text_of T) (hr.mono (by decide)) (by rfl) T.m_is_text_of T.F_is_text_of.kp T.b_is_text_of .nil pass0 (pa_cons (pv 2) (pa_cons pe_str pa_nil))))))))))))), ?_⟩
    walk_at "kk"
    refine k_isiD ht (kit_tup d) ?_
    walk_at "kk"
    by_cases htup : ∃ ds, d = .tuple ds
    · obtain ⟨ds, rfl⟩ := htup
      refine k_ite (fun hb => by cases hb) (fun _ => ?_)
      rcases ht with ht | ⟨_, _, _, _, e⟩
      rotate_left
      · cases e
      cases ht with
      | @tup a xs _ hx ha =>
        have hz := hz ds rfl
        walk_at "kk"
        cases ha with
        | nil =>
          walk_at "kk"
          exact q H (Same.refl H)
        | @cons x xr e er h1 hr1 =>
          have hsc := shaped_cons (hs _ rfl)
          cases hr1 with
          | nil =>
            refine k_ite (fun _ => ?_) (fun hb => by simp at hb)
            walk_at "kk"
            intro t ht
            dsimp only
            apply k_rv
            · exact rv_inTD (h1.up (same_new ht)) (.tup (Evl.st_of upd_same) (.cons (.str _) (.cons (.str _) .nil))) hsc.1 (by decide +kernel)
            exact q _ (same_new ht)
          | @cons y yr e2 er2 h2 hr2 =>
            have hsc2 := shaped_cons hsc.2
            cases hr2 with
            | nil =>
              refine k_ite (fun hb => by simp at hb) (fun _ => ?_)
              walk_at "kk"
              refine k_ite (fun hb => by simp at hb) (fun _ => ?_)
              walk_at "kk"
              refine k_unp2 hx ?_
              walk_at "kk"
              intro t ht
              have s1 : Same H (upd H t (.tup [.str "runs", .str "least"])) := same_new ht
              dsimp only
              apply k_rv
              · exact rv_inTD (h1.up s1) (.tup (Evl.st_of upd_same) (.cons (.str _) (.cons (.str _) .nil))) hsc.1 (by decide +kernel)
              walk_at "kk"
              refine k_ite (fun hb => ?_) (fun hb => ?_)
              · walk_at "kk"
                have hb : inT ["runs", "least"] e = true := hb
                have e : isPl (.tuple [e, e2]) = isNum e2 := by show (if inT ["runs", "least"] e then isNum e2 else _) = _; rw [if_pos hb]
                rw [e] at q
                exact ⟨_, _, rfl, .inl (h2.up s1), q _ s1⟩
              · walk_at "kk"
                dsimp only
                apply k_rv
                · exact rv_eqD (h1.up s1) (.str _) hsc.1 (by decide +kernel)
                walk_at "kk"
                have hb' : inT ["runs", "least"] e = false := hb
                refine k_ite (fun hb2 => ?_) (fun hb2 => ?_)
                · have ee : isPl (.tuple [e, e2]) = isTexts e2 := by show (if inT ["runs", "least"] e = true then isNum e2 else if PyData.eqv e (.str "ends") = true then isTexts e2 else _) = _; rw [hb', if_neg (by decide), if_pos hb2]
                  rw [ee] at q
                  walk_at "kk"
                  refine k_isiD (.inl (h2.up s1)) (kit_tup e2) ?_
                  walk_at "kk"
                  refine k_ite (fun hb4 => ?_) (fun hb4 => ?_)
                  · obtain ⟨ts, rfl⟩ : ∃ ts, e2 = .tuple ts := by cases e2 <;> first | exact ⟨_, rfl⟩ | cases hb4
                    cases h2.up s1 with
                    | @tup a2 xs2 _ hx2 ha2 =>
                      walk_at "kk"
                      refine k_onT hx2 (lc_mapTD (fun d => .bl (isStrD d)) hx2 ha2 (show ts.length ≤ 50000 from hz (.tuple ts) (by simp)) (by intro _; rfl) (fun v d H1 hd hv s2 Q2 k2 => ?_) (fun D H' n1 s2 e3 => ?_))
                      · walk_at "kk"
                        exact k_isiD (.inl hv) (kit_str d) (k2 _ (Same.refl _))
                      · walk_at "kk"
                        refine k_all (bs := ts.map isStrD) (Evl.sq_of (by rw [e3, List.map_map]; rfl)) ?_
                        rw [List.all_map]
                        exact q H' (s1.trans s2)
                  · have e3 : isTexts e2 = false := by cases e2 <;> simp [isTupD] at hb4 <;> rfl
                    rw [e3] at q
                    exact q _ s1
                · have ee : isPl (.tuple [e, e2]) = (PyData.eqv e (.str "shape") && isTextOf e2 "vo") := by show (if inT ["runs", "least"] e = true then isNum e2 else if PyData.eqv e (.str "ends") = true then isTexts e2 else _) = _; rw [hb', if_neg (by decide), hb2, if_neg (by decide)]
                  rw [ee] at q
                  walk_at "kk"
                  dsimp only
                  apply k_rv
                  · exact rv_eqD (h1.up s1) (.str _) hsc.1 (by decide +kernel)
                  walk_at "kk"
                  refine k_ite (fun hb3 => ?_) (fun hb3 => ?_)
                  · walk_at "kk"
                    rw [hb3, Bool.true_and] at q
                    exact ⟨_, _, _, rfl, .inl (h2.up s1), hz _ (by simp), fun H' s2 => q H' (s1.trans s2)⟩
                  · rw [hb3, Bool.false_and] at q
                    exact q _ s1
            | @cons z zr e3 er3 h3 hr3 =>
              refine k_ite (fun hb => by simp at hb; omega) (fun _ => ?_)
              walk_at "kk"
              refine k_ite (fun hb => ?_) (fun hb => by simp at hb; omega)
              walk_at "kk"
              exact q H (Same.refl H)
    · have e : isPl d = false := by
        cases d <;> first | rfl | exact absurd ⟨_, rfl⟩ htup
      have e2 : isTupD d = false := by
        cases d <;> first | rfl | exact absurd ⟨_, rfl⟩ htup
      rw [e2]
      refine k_ite (fun _ => ?_) (fun hb => by cases hb)
      walk_at "kk"
      rw [e] at q
      exact q H (Same.refl H)
end
end K01

set_option Elab.async false
set_option linter.all false
set_option maxRecDepth 100000
set_option maxHeartbeats 4000000
namespace K01
open PySem PySem.Spec PyProof.Rows L2 TL Mi
/-! ### short words -/
local macro_rules | `(tactic| walk_at "idx") => `(tactic| first | assumption | exact Evl.sq_of (by assumption) | exact Evl.st_of (by assumption) | exact Evl.sq_of upd_same | exact Evl.st_of upd_same)
local macro_rules | `(tactic| walk_at "side") => `(tactic| first | omega | exact Or.inl ⟨by omega, by omega⟩ | exact Or.inr ⟨by omega, by omega⟩ | exact ⟨by omega, by omega⟩ | decide +kernel)
local macro_rules | `(tactic| walk_at "div") => `(tactic| exact wide_div (b := 30) (by omega) (by omega) (by decide) (by decide))
local macro_rules | `(tactic| walk_at "pow") => `(tactic| exact ⟨by decide +kernel, by decide +kernel, by decide +kernel⟩)
local macro_rules | `(tactic| walk_at "rv") => `(tactic| first
  | with_reducible exact rv_addI | with_reducible exact rv_sub | with_reducible exact rv_lt | with_reducible exact rv_le | with_reducible exact rv_gt | with_reducible exact rv_ge
  | with_reducible exact rv_inC | with_reducible exact rv_notInC | with_reducible exact rv_isB
  | (with_reducible apply rv_mul
     walk_at "side")
  | (with_reducible apply rv_mod
     walk_at "side")
  | (with_reducible apply rv_div
     walk_at "div")
  | (with_reducible apply rv_pow
     walk_at "pow")
  | (with_reducible apply rv_eq
     exact rfl)
  | (with_reducible apply rv_ne
     exact rfl)
  | (with_reducible apply rv_ixL
     · walk_at "idx"
     · exact rfl)
  | (with_reducible apply rv_ixT
     · walk_at "idx"
     · exact rfl)
  | (with_reducible apply rv_ixS
     · walk_at "side"
     · exact rfl)
  | (with_reducible apply rv_addS
     walk_at "side"))
local macro_rules | `(tactic| walk_at "val") => `(tactic| first
  | with_reducible exact val_c | exact val_c
  | (with_reducible apply val_var
     exact rfl)
  | (with_reducible apply val_bin
     · walk_at "val"
     · walk_at "val"
     · walk_at "rv")
  | (with_reducible apply val_int1
     walk_at "val")
  | (with_reducible apply val_max2
     · walk_at "val"
     · walk_at "val")
  | (with_reducible apply val_min2
     · walk_at "val"
     · walk_at "val")
  | (with_reducible apply val_endsw
     · walk_at "val"
     · walk_at "val")
  | (with_reducible apply val_lenS
     · walk_at "val"
     · walk_at "side")
  | (with_reducible apply val_lenL
     · walk_at "val"
     · walk_at "idx")
  | (with_reducible apply val_lenT
     · walk_at "val"
     · walk_at "idx")
  | (with_reducible apply val_notV
     walk_at "val"))
local macro_rules | `(tactic| walk_at "ans") => `(tactic| first
  | (with_reducible apply ans_T
     walk_at "val")
  | (with_reducible apply ans_B
     walk_at "val")
  | (with_reducible apply ans_not
     walk_at "ans"))
local macro_rules | `(tactic| walk_at "ifp") => `(tactic| first
  | (with_reducible refine Eq.mpr (if_pos ?_) ?_
     · decide +kernel)
  | (with_reducible refine Eq.mpr (if_neg ?_) ?_
     · decide +kernel))
local macro_rules | `(tactic| walk_at "k") => `(tactic| first
  | with_reducible apply k_seq | with_reducible apply k_asg | with_reducible apply k_ret | with_reducible apply k_ifS | with_reducible apply k_drop | with_reducible apply k_name
  | (with_reducible apply k_var
     · exact rfl)
  | with_reducible apply k_c
  | with_reducible apply k_op | with_reducible apply k_cb | with_reducible apply k_call | with_reducible apply k_cons | with_reducible apply k_nil | with_reducible apply k_tup | with_reducible apply k_lst
  | with_reducible apply k_ifE | with_reducible apply k_test | with_reducible apply k_tb | with_reducible apply k_not | with_reducible apply k_and | with_reducible apply k_or | with_reducible apply k_bl
  | with_reducible apply k_sl | with_reducible apply k_part | with_reducible apply k_isI | with_reducible apply k_nopart
  | with_reducible apply k_lcZS | with_reducible apply k_onZS | with_reducible apply k_un | with_reducible apply k_neg
  | with_reducible apply k_lcS | with_reducible apply k_lcR | with_reducible apply k_lcL | with_reducible apply k_lcT | with_reducible apply k_forS | with_reducible apply k_forR | with_reducible apply k_forL | with_reducible apply k_forT | with_reducible apply k_onS | with_reducible apply k_yes
  | (with_reducible apply k_augC
     · exact rfl)
  | with_reducible apply k_next | with_reducible apply k_eqInt | with_reducible apply k_neInt | with_reducible apply k_eqStr | with_reducible apply k_neStr
  | with_reducible apply k_andV | with_reducible apply k_orV | with_reducible apply k_notV
  | with_reducible apply k_m1 | with_reducible apply k_onStr | with_reducible apply k_endsw
  | (with_reducible apply k_slS
     · walk_at "side")
  | (with_reducible apply k_newT
     · walk_at "len")
  | (with_reducible apply k_newL
     · walk_at "len")
  | with_reducible apply k_int1 | with_reducible apply k_max2 | with_reducible apply k_min2
  | (with_reducible apply k_lenS
     · walk_at "side")
  | (with_reducible apply k_lenL
     · walk_at "idx")
  | (with_reducible apply k_lenT
     · walk_at "idx")
  | (with_reducible apply k_rv
     · walk_at "rv")
  | walk_at "ifp")
local macro_rules | `(tactic| walk_at "kk") => `(tactic| (repeat (walk_at "k")))
local macro_rules | `(tactic| walk_at "len") => `(tactic| first | exact (by decide : (1:Nat) ≤ 100000) | exact (by decide : (2:Nat) ≤ 100000) | exact (by decide : (3:Nat) ≤ 100000) | exact (by decide : (4:Nat) ≤ 100000) | exact (by decide : (7:Nat) ≤ 100000) | (simp only [List.length_cons, List.length_nil]; omega) | omega)
local macro_rules | `(tactic| walk_at "up") => `(tactic| first
  | assumption
  | (refine Dq.up ?_ (Gr.new (by assumption))
     walk_at "up")
  | (refine Dq.up ?_ (by assumption)
     walk_at "up"))

section
variable {P : Program} {w : World} {K : PySem.W.Frag} {mg : Str → Option Value} {base : Heap}
def spDbl : Sp := fun vs H Q _ => ∃ x y : Str, vs = [.str x, .str y] ∧ x.length ≤ 50000 ∧ Q (.bl (dbl (tl y) (tl x))) H
theorem dbl_short {vs r : List Nat} (h : r.length < 2) : dbl vs r = false := by
  unfold dbl
  have hl : r.reverse.length < 2 := by rw [List.length_reverse]; exact h
  cases e : r.reverse with
  | nil => rfl
  | cons a t =>
    cases t with
    | nil => rfl
    | cons b t => rw [e] at hl; simp at hl; omega
theorem dbl_long {vs r : List Nat} (h : 2 ≤ r.length) : dbl vs r = (decide (r.getD (r.length - 1) 0 = r.getD (r.length - 2) 0) && decide (r.getD (r.length - 1) 0 ∉ vs)) := by
  unfold dbl
  have hl : r.reverse.length = r.length := List.length_reverse
  cases e : r.reverse with
  | nil => rw [e] at hl; simp at hl; omega
  | cons a t =>
    cases t with
    | nil => rw [e] at hl; simp at hl; omega
    | cons b t =>
      have er : r = t.reverse ++ [b, a] := by
        have := congrArg List.reverse e
        rw [List.reverse_reverse] at this
        rw [this]
        simp
      have h1 : r.getD (r.length - 1) 0 = a := by rw [er]; simp [List.getD_eq_getElem?_getD]
      have h2 : r.getD (r.length - 2) 0 = b := by rw [er]; simp [List.getD_eq_getElem?_getD]
      rw [h1, h2]
theorem last_sign {x : Str} {k : Nat} (h0 : 0 < k) (h : k ≤ x.length) : atI x.cps.toList (-(k : Int)) = some ((tl x).getD ((tl x).length - k) 0) := by
  have hl := len_tl x
  refine at_neg h0 (by show k ≤ (tl x).length; omega) ?_
  show (tl x)[(tl x).length - k]? = _
  rw [List.getD_eq_getElem?_getD, List.getElem?_eq_getElem (by omega)]
  rfl
theorem ok_ends_double (T : Txt K mg) : FnOk P w K mg base CX0 1 T.a_ends_double T.fd_ends_double ["rest", "vowels"] spDbl := by
  refine T.F_ends_double.ok sc_ends_double (fun vs H Q E h => ?_) (fun cdv A outer s H vs Q E hr h => ?_)
  · obtain ⟨x, y, rfl, _⟩ := h
    rfl
  · obtain ⟨x, y, rfl, hx, q⟩ := h
    refine ⟨_, (pss_one (ps_ret (pe_and (pe_cmpR op_geA (pe_callB (lenK K) (by rfl) T.z_len B_len (pa_cons (pv 0) pa_nil)) pe_int (nomark _)) (pe_and (pe_cmpR (eqK K hr) (pe_ix (ixK K) (pv 0) (pe_un un_negA pe_int) (fun _ _ => rfl)) (pe_ix (ixK K) (pv 0) (pe_un un_negA pe_int) (fun _ _ => rfl)) (nomark _)) (pe_one (pe_cmpR op_notInC (pe_ix (ixK K) (pv 0) (pe_un un_negA pe_int) (fun _ _ => rfl)) (pv 1) (by rfl))))))), ?_⟩
    have hl := len_tl x
    walk_at "kk"
    refine k_ite (fun hb => ?_) (fun hb => ?_)
    · have hb := of_decide_eq_true hb
      rw [dbl_long (by omega)] at q
      have s1 := last_sign (x := x) (k := 1) (by omega) (by omega)
      have s2 := last_sign (x := x) (k := 2) (by omega) (by omega)
      walk_at "kk"
      apply k_rv
      · exact rv_ixS (by omega) s1
      walk_at "kk"
      apply k_rv
      · exact rv_ixS (by omega) s2
      walk_at "kk"
      rw [sign_eq]
      refine k_ite (fun hb2 => ?_) (fun hb2 => ?_)
      · rw [hb2, Bool.true_and] at q
        walk_at "kk"
        apply k_rv
        · exact rv_ixS (by omega) s1
        walk_at "kk"
        have e : (!decide ((tl x).getD ((tl x).length - 1) 0 ∈ y.cps.toList)) = decide ((tl x).getD ((tl x).length - 1) 0 ∉ tl y) := by simp [tl]
        rw [e]
        exact q
      · rw [hb2, Bool.false_and] at q
        exact q
    · have hb := of_decide_eq_false hb
      rw [dbl_short (by omega)] at q
      exact q
def spShape : Sp := fun vs H Q _ => ∃ x z y : Str, vs = [.str x, .str z, .str y] ∧ x.length ≤ 50000 ∧ z.length ≤ 50000 ∧ (∀ c ∈ tl z, c = 118 ∨ c = 111) ∧ ∀ H', Same H H' → Q (.bl (suff (tl z) (kinds (tl y) (tl x)))) H'
theorem shape_all {vs : List Nat} : ∀ {s r : List Nat}, s.length = r.length → (∀ c ∈ s, c = 118 ∨ c = 111) → ((r.zip s).all fun p => decide (decide (p.1 ∈ vs) = decide (p.2 = 118))) = decide (kinds vs r = s)
  | [], [], _, _ => rfl
  | [], _ :: _, h, _ => by simp at h
  | _ :: _, [], h, _ => by simp at h
  | c :: s, a :: r, h, hs => by
    have ih := shape_all (vs := vs) (s := s) (r := r) (by simpa using h) (fun d hd => hs d (List.mem_cons_of_mem _ hd))
    rw [List.zip_cons_cons, List.all_cons, ih]
    have e : kinds vs (a :: r) = (if a ∈ vs then 118 else 111) :: kinds vs r := rfl
    rw [e]
    have hc := hs c List.mem_cons_self
    by_cases ha : a ∈ vs
    · rcases hc with hc | hc <;> subst hc <;> simp [ha]
    · rcases hc with hc | hc <;> subst hc <;> simp [ha]
theorem ok_has_shape (T : Txt K mg) : FnOk P w K mg base CX0 1 T.a_has_shape T.fd_has_shape ["rest", "shape", "vowels"] spShape := by
  refine T.F_has_shape.ok sc_has_shape (fun vs H Q E h => ?_) (fun cdv A outer s H vs Q E hr h => ?_)
  · obtain ⟨x, z, y, rfl, _⟩ := h
    rfl
  · obtain ⟨x, z, y, rfl, hx, hz, hs, q⟩ := h
    refine ⟨_, (pss_cons (ps_if (pt_cmpR op_ltA (pe_callB (lenK K) (by rfl) T.z_len B_len (pa_cons (pv 0) pa_nil)) (pe_callB (lenK K) (by rfl) T.z_len B_len (pa_cons (pv 1) pa_nil)) (nomark _)) (pss_one (ps_ret pe_bl)) pss_nil)
      (pss_cons (ps_set (i := 3) sc_has_shape.nd rfl (Or.inl rfl) (pe_slice (slK K) (pv 0) (po_some (pe_op op_subA (pe_callB (lenK K) (by rfl) T.z_len B_len (pa_cons (pv 0) pa_nil)) (pe_callB (lenK K) (by rfl) T.z_len B_len (pa_cons (pv 1) pa_nil)))) po_none))
      (pss_one (ps_ret (pe_callB (allK K) (by rfl) T.z_all B_all (pa_cons (pe_lc (own := [("letter", 4), ("sign", 5)]) (by rfl) sc_has_shape.nd (pi_zipS (by rfl) T.z_zip (pa_cons (pv 3) (pa_cons (pv 1) pa_nil))) (blkOk_by (N := ["rest", "shape", "vowels", "last", "letter", "sign"]) (sc := defScope s_has_shape) (by decide +kernel)) (fun _ _ _ _ _ => (tupleK K (n := 2) rfl (pgs_cons (pg_name (i := 4) sc_has_shape.nd rfl (Or.inl rfl)) (pgs_cons (pg_name (i := 5) sc_has_shape.nd rfl (Or.inl rfl)) pgs_nil)))) (fun _ _ _ _ _ => pts_nil) (fun _ _ _ _ _ => (pe_cmpR (eqK K hr) (pe_cmpR op_inC (pv 4) (pv 2) (by rfl)) (pe_cmpR (eqK K hr) (pv 5) pe_str (nomark _)) (nomark _)))) pa_nil)))))), ?_⟩
    have hl := len_tl x
    have hl2 := len_tl z
    walk_at "kk"
    refine k_ite (fun hb => ?_) (fun hb => ?_)
    · have hb := of_decide_eq_true hb
      have e : suff (tl z) (kinds (tl y) (tl x)) = false := by unfold suff; rw [kinds_length, decide_eq_false (by omega)]; rfl
      rw [e] at q
      walk_at "kk"
      exact q H (Same.refl H)
    · have hb := of_decide_eq_false hb
      walk_at "kk"
      have ek : (x.length : Int) - (z.length : Int) = ((x.length - z.length : Nat) : Int) := by omega
      rw [ek, tl_cut_from (by omega)]
      walk_at "kk"
      have hs2 : (mk ((tl x).drop (x.length - z.length))).length = z.length := by rw [len_mk, List.length_drop]; omega
      refine lc_mapZS (fun c d => .bl (decide (decide (c ∈ tl y) = decide (d = 118)))) (by omega) (by intro _ _; rfl) (fun c d H1 s1 Q2 k2 => ?_) (fun D H' n1 s1 e1 => ?_)
      · walk_at "kk"
        have e : decide (V.bl (decide (c ∈ y.cps.toList)) = V.bl (decide ((⟨#[d]⟩ : Str) = "v"))) = decide (decide (c ∈ tl y) = decide (d = 118)) := by
          have e2 : ("v" : Str) = ⟨#[118]⟩ := by decide +kernel
          rw [e2, sign_eq]
          exact decide_eq_decide.mpr ⟨V.bl.inj, congrArg V.bl⟩
        rw [e]
        exact k2 _ (Same.refl _)
      · walk_at "kk"
        refine k_all (bs := ((tl (mk ((tl x).drop (x.length - z.length)))).zip (tl z)).map fun p => decide (decide (p.1 ∈ tl y) = decide (p.2 = 118))) (Evl.sq_of (by rw [e1, List.map_map]; rfl)) ?_
        rw [List.all_map, tl_mk']
        have e2 := shape_all (vs := tl y) (s := tl z) (r := (tl x).drop (x.length - z.length)) (by rw [List.length_drop]; omega) hs
        have e3 : suff (tl z) (kinds (tl y) (tl x)) = decide (kinds (tl y) ((tl x).drop (x.length - z.length)) = tl z) := by
          unfold suff
          rw [kinds_length, decide_eq_true (by omega), Bool.true_and]
          have : (kinds (tl y) (tl x)).drop ((tl x).length - (tl z).length) = kinds (tl y) ((tl x).drop (x.length - z.length)) := by
            unfold kinds
            rw [List.map_drop, ← hl, ← hl2]
          rw [this]
        rw [e3, ← e2] at q
        exact q H' s1
end
end K01
set_option Elab.async false
set_option linter.all false
set_option maxRecDepth 100000
set_option maxHeartbeats 4000000
namespace K01
open PySem PySem.Spec PyProof.Rows L2 TL Mi
/-! ### short words -/
local macro_rules | `(tactic| walk_at "idx") => `(tactic| first | assumption | exact Evl.sq_of (by assumption) | exact Evl.st_of (by assumption) | exact Evl.sq_of upd_same | exact Evl.st_of upd_same)
local macro_rules | `(tactic| walk_at "side") => `(tactic| first | omega | exact Or.inl ⟨by omega, by omega⟩ | exact Or.inr ⟨by omega, by omega⟩ | exact ⟨by omega, by omega⟩ | decide +kernel)
local macro_rules | `(tactic| walk_at "div") => `(tactic| exact wide_div (b := 30) (by omega) (by omega) (by decide) (by decide))
local macro_rules | `(tactic| walk_at "pow") => `(tactic| exact ⟨by decide +kernel, by decide +kernel, by decide +kernel⟩)
local macro_rules | `(tactic| walk_at "rv") => `(tactic| first
  | with_reducible exact rv_addI | with_reducible exact rv_sub | with_reducible exact rv_lt | with_reducible exact rv_le | with_reducible exact rv_gt | with_reducible exact rv_ge
  | with_reducible exact rv_inC | with_reducible exact rv_notInC | with_reducible exact rv_isB
  | (with_reducible apply rv_mul
     walk_at "side")
  | (with_reducible apply rv_mod
     walk_at "side")
  | (with_reducible apply rv_div
     walk_at "div")
  | (with_reducible apply rv_pow
     walk_at "pow")
  | (with_reducible apply rv_eq
     exact rfl)
  | (with_reducible apply rv_ne
     exact rfl)
  | (with_reducible apply rv_ixL
     · walk_at "idx"
     · exact rfl)
  | (with_reducible apply rv_ixT
     · walk_at "idx"
     · exact rfl)
  | (with_reducible apply rv_ixS
     · walk_at "side"
     · exact rfl)
  | (with_reducible apply rv_addS
     walk_at "side"))
local macro_rules | `(tactic| walk_at "val") => `(tactic| first
  | with_reducible exact val_c | exact val_c
  | (with_reducible apply val_var
     exact rfl)
  | (with_reducible apply val_bin
     · walk_at "val"
     · walk_at "val"
     · walk_at "rv")
  | (with_reducible apply val_int1
     walk_at "val")
  | (with_reducible apply val_max2
     · walk_at "val"
     · walk_at "val")
  | (with_reducible apply val_min2
     · walk_at "val"
     · walk_at "val")
  | (with_reducible apply val_endsw
     · walk_at "val"
     · walk_at "val")
  | (with_reducible apply val_lenS
     · walk_at "val"
     · walk_at "side")
  | (with_reducible apply val_lenL
     · walk_at "val"
     · walk_at "idx")
  | (with_reducible apply val_lenT
     · walk_at "val"
     · walk_at "idx")
  | (with_reducible apply val_notV
     walk_at "val"))
local macro_rules | `(tactic| walk_at "ans") => `(tactic| first
  | (with_reducible apply ans_T
     walk_at "val")
  | (with_reducible apply ans_B
     walk_at "val")
  | (with_reducible apply ans_not
     walk_at "ans"))
local macro_rules | `(tactic| walk_at "ifp") => `(tactic| first
  | (with_reducible refine Eq.mpr (if_pos ?_) ?_
     · decide +kernel)
  | (with_reducible refine Eq.mpr (if_neg ?_) ?_
     · decide +kernel))
local macro_rules | `(tactic| walk_at "k") => `(tactic| first
  | with_reducible apply k_seq | with_reducible apply k_asg | with_reducible apply k_ret | with_reducible apply k_ifS | with_reducible apply k_drop | with_reducible apply k_name
  | (with_reducible apply k_var
     · exact rfl)
  | with_reducible apply k_c
  | with_reducible apply k_op | with_reducible apply k_cb | with_reducible apply k_call | with_reducible apply k_cons | with_reducible apply k_nil | with_reducible apply k_tup | with_reducible apply k_lst
  | with_reducible apply k_ifE | with_reducible apply k_test | with_reducible apply k_tb | with_reducible apply k_not | with_reducible apply k_and | with_reducible apply k_or | with_reducible apply k_bl
  | with_reducible apply k_sl | with_reducible apply k_part | with_reducible apply k_isI | with_reducible apply k_nopart
  | with_reducible apply k_lcZS | with_reducible apply k_onZS | with_reducible apply k_un | with_reducible apply k_neg
  | with_reducible apply k_lcS | with_reducible apply k_lcR | with_reducible apply k_lcL | with_reducible apply k_lcT | with_reducible apply k_forS | with_reducible apply k_forR | with_reducible apply k_forL | with_reducible apply k_forT | with_reducible apply k_onS | with_reducible apply k_yes
  | (with_reducible apply k_augC
     · exact rfl)
  | with_reducible apply k_next | with_reducible apply k_eqInt | with_reducible apply k_neInt | with_reducible apply k_eqStr | with_reducible apply k_neStr
  | with_reducible apply k_andV | with_reducible apply k_orV | with_reducible apply k_notV
  | with_reducible apply k_m1 | with_reducible apply k_onStr | with_reducible apply k_endsw
  | (with_reducible apply k_slS
     · walk_at "side")
  | (with_reducible apply k_newT
     · walk_at "len")
  | (with_reducible apply k_newL
     · walk_at "len")
  | with_reducible apply k_int1 | with_reducible apply k_max2 | with_reducible apply k_min2
  | (with_reducible apply k_lenS
     · walk_at "side")
  | (with_reducible apply k_lenL
     · walk_at "idx")
  | (with_reducible apply k_lenT
     · walk_at "idx")
  | (with_reducible apply k_rv
     · walk_at "rv")
  | walk_at "ifp")
local macro_rules | `(tactic| walk_at "kk") => `(tactic| (repeat (walk_at "k")))
local macro_rules | `(tactic| walk_at "len") => `(tactic| first | exact (by decide : (1:Nat) ≤ 100000) | exact (by decide : (2:Nat) ≤ 100000) | exact (by decide : (3:Nat) ≤ 100000) | exact (by decide : (4:Nat) ≤ 100000) | exact (by decide : (7:Nat) ≤ 100000) | (simp only [List.length_cons, List.length_nil]; omega) | omega)
local macro_rules | `(tactic| walk_at "up") => `(tactic| first
  | assumption
  | (refine Dq.up ?_ (Gr.new (by assumption))
     walk_at "up")
  | (refine Dq.up ?_ (by assumption)
     walk_at "up"))

section
variable {P : Program} {w : World} {K : PySem.W.Frag} {mg : Str → Option Value} {base : Heap}
def sz0 : C0 → Prop
  | .ends ts => ts.length ≤ 50000 ∧ ∀ t ∈ ts, t.length ≤ 50000
  | .shape s => s.length ≤ 50000
  | _ => True
def szc : Cond → Prop
  | .pos c => sz0 c
  | .neg c => sz0 c
def spPM (K : PySem.W.Frag) : Sp := fun vs H Q _ => ∃ (v : V) (c : C0) (x y : Str), vs = [v, .str x, .str y] ∧ Dp K H v (enc0 c) ∧ ok0 c ∧ sz0 c ∧ x.length ≤ 50000 ∧ y.length ≤ 50000 ∧ ∀ H', Same H H' → Q (.bl (met0 (tl y) (tl x) c)) H'
theorem strs_dp {H : Hp} : ∀ {vs : List V} {ts : List Str}, DpAll K H vs (ts.map .str) → vs = ts.map .str
  | [], [], _ => rfl
  | _ :: _, [], h => by cases h
  | [], _ :: _, h => by cases h
  | v :: vs, t :: ts, .cons h r => by
    cases h
    rw [strs_dp r]
    rfl
theorem ok_is_plain_met (T : Txt K mg) : FnOk P w K mg base CX0 2 T.a_is_plain_met T.fd_is_plain_met ["condition", "rest", "vowels"] (spPM K) := by
  refine T.F_is_plain_met.ok sc_is_plain_met (fun vs H Q E h => ?_) (fun cdv A outer s H vs Q E hr h => ?_)
  · obtain ⟨v, c, x, y, rfl, _⟩ := h
    rfl
  · obtain ⟨v, c, x, y, rfl, hc, ho, hz, hx, hy, q⟩ := h
    refine ⟨_, (pss_cons (ps_set (i := 3) sc_is_plain_met.nd rfl (Or.inl rfl) (pe_ix (ixK K) (pv 0) pe_int (fun _ _ => rfl)))
      (pss_cons (ps_if (pt_cmpR (eqK K hr) (pv 3) pe_str (nomark _)) (pss_one (ps_ret (pe_call (ok_has_vowel T) (hr.mono (by decide)) (by rfl) T.m_has_vowel T.F_has_vowel.kp T.b_has_vowel .nil pass0 (pa_cons (pv 1) (pa_cons (pv 2) pa_nil))))) pss_nil)
      (pss_cons (ps_if (pt_cmpR (eqK K hr) (pv 3) pe_str (nomark _)) (pss_one (ps_ret (pe_call (ok_ends_double T) (hr.mono (by decide)) (by rfl) T.m_ends_double T.F_ends_double.kp T.b_ends_double .nil pass0 (pa_cons (pv 1) (pa_cons (pv 2) pa_nil))))) pss_nil)
      (pss_cons (ps_set (i := 4) sc_is_plain_met.nd rfl (Or.inl rfl) (pe_ix (ixK K) (pv 0) pe_int (fun _ _ => rfl)))
      (pss_cons (ps_if (pt_cmpR (eqK K hr) (pv 3) pe_str (nomark _)) (pss_one (ps_ret (pe_cmpR op_geA (pe_call (ok_count_runs T) (hr.mono (by decide)) (by rfl) T.m_count_runs T.F_count_runs.kp T.b_count_runs .nil pass0 (pa_cons (pv 1) (pa_cons (pv 2) pa_nil))) (pv 4) (nomark _)))) pss_nil)
      (pss_cons (ps_if (pt_cmpR (eqK K hr) (pv 3) pe_str (nomark _)) (pss_one (ps_ret (pe_callB (anyK K) (by rfl) T.z_any B_any (pa_cons (pe_lc (own := [("text", 5)]) (by rfl) sc_is_plain_met.nd (tupIK K (pv 4)) (blkOk_by (N := ["condition", "rest", "vowels", "kind", "value", "text"]) (sc := defScope s_is_plain_met) (by decide +kernel)) (fun _ _ _ _ _ => (pg_name (i := 5) sc_is_plain_met.nd rfl (Or.inl rfl))) (fun _ _ _ _ _ => pts_nil) (fun _ _ _ _ _ => (pe_m1 PySem.F.slot_str_endswith PySem.F.type_str_endswith mt_endswA (pv 1) (pv 5)))) pa_nil)))) pss_nil)
      (pss_cons (ps_if (pt_cmpR (eqK K hr) (pv 3) pe_str (nomark _)) (pss_one (ps_ret (pe_cmpR op_geA (pe_callB (lenK K) (by rfl) T.z_len B_len (pa_cons (pv 1) pa_nil)) (pv 4) (nomark _)))) pss_nil)
      (pss_one (ps_ret (pe_call (ok_has_shape T) (hr.mono (by decide)) (by rfl) T.m_has_shape T.F_has_shape.kp T.b_has_shape .nil pass0 (pa_cons (pv 1) (pa_cons (pv 4) (pa_cons (pv 2) pa_nil))))))))))))), ?_⟩
    have hl := len_tl x
    cases c with
    | vowel =>
      cases hc with
      | @tup a xs _ ha hd =>
        cases hd with
        | cons h1 hr1 =>
          cases h1
          cases hr1
          walk_at "kk"
          exact ⟨x, y, rfl, hy, q⟩
    | double =>
      cases hc with
      | @tup a xs _ ha hd =>
        cases hd with
        | cons h1 hr1 =>
          cases h1
          cases hr1
          walk_at "kk"
          exact ⟨x, y, rfl, hx, q H (Same.refl H)⟩
    | runs m =>
      cases hc with
      | @tup a xs _ ha hd =>
        cases hd with
        | cons h1 hr1 =>
          cases h1
          cases hr1 with
          | cons h2 hr2 =>
            cases h2
            cases hr2
            walk_at "kk"
            refine ⟨x, y, rfl, hx, ?_⟩
            walk_at "kk"
            exact q H (Same.refl H)
    | least m =>
      cases hc with
      | @tup a xs _ ha hd =>
        cases hd with
        | cons h1 hr1 =>
          cases h1
          cases hr1 with
          | cons h2 hr2 =>
            cases h2
            cases hr2
            walk_at "kk"
            rw [hl]
            exact q H (Same.refl H)
    | shape z =>
      cases hc with
      | @tup a xs _ ha hd =>
        cases hd with
        | cons h1 hr1 =>
          cases h1
          cases hr1 with
          | cons h2 hr2 =>
            cases h2
            cases hr2
            walk_at "kk"
            exact ⟨x, z, y, rfl, hx, hz, ho, q⟩
    | ends ts =>
      cases hc with
      | @tup a xs _ ha hd =>
        cases hd with
        | cons h1 hr1 =>
          cases h1
          cases hr1 with
          | @cons v2 _ _ _ h2 hr2 =>
            cases h2 with
            | @tup a2 xs2 _ ha2 hd2 =>
              cases hr2
              have e2 := strs_dp hd2
              subst e2
              walk_at "kk"
              refine k_onT ha2 (lc_mapT (fun v => match v with | .str t => .bl (Txt.endswith x t) | _ => .non) ha2 (by rw [List.length_map]; exact hz.1) (by intro _; rfl) (fun v H1 hv s1 Q2 k2 => ?_) (fun D H' n1 s1 e1 => ?_))
              · obtain ⟨t, ht, rfl⟩ := List.mem_map.mp hv
                walk_at "kk"
                exact k2 _ (Same.refl _)
              · walk_at "kk"
                refine k_any (bs := ts.map fun t => suff (tl t) (tl x)) (Evl.sq_of ?_) ?_
                · rw [e1, List.map_map, List.map_map]
                  refine congrArg (fun l => some (HO.lst l)) (List.map_congr_left fun t _ => ?_)
                  show V.bl (Txt.endswith x t) = V.bl (suff (tl t) (tl x))
                  rw [ends_suff]
                · rw [List.any_map]
                  exact q H' s1
def spMet (K : PySem.W.Frag) : Sp := fun vs H Q _ => ∃ (v : V) (c : Cond) (x y : Str), vs = [v, .str x, .str y] ∧ Dp K H v (enc c) ∧ okc c ∧ szc c ∧ x.length ≤ 50000 ∧ y.length ≤ 50000 ∧ ∀ H', Same H H' → Q (.bl (met (tl y) (tl x) c)) H'
theorem ok_is_met (T : Txt K mg) : FnOk P w K mg base CX0 3 T.a_is_met T.fd_is_met ["condition", "rest", "vowels"] (spMet K) := by
  refine T.F_is_met.ok sc_is_met (fun vs H Q E h => ?_) (fun cdv A outer s H vs Q E hr h => ?_)
  · obtain ⟨v, c, x, y, rfl, _⟩ := h
    rfl
  · obtain ⟨v, c, x, y, rfl, hc, ho, hz, hx, hy, q⟩ := h
    refine ⟨_, (pss_cons (ps_if (pt_cmpR (eqK K hr) (pe_ix (ixK K) (pv 0) pe_int (fun _ _ => rfl)) pe_str (nomark _)) (pss_one (ps_ret (pe_not (pe_call (ok_is_plain_met T) (hr.mono (by decide)) (by rfl) T.m_is_plain_met T.F_is_plain_met.kp T.b_is_plain_met .nil pass0 (pa_cons (pe_ix (ixK K) (pv 0) pe_int (fun _ _ => rfl)) (pa_cons (pv 1) (pa_cons (pv 2) pa_nil))))))) pss_nil)
      (pss_one (ps_ret (pe_call (ok_is_plain_met T) (hr.mono (by decide)) (by rfl) T.m_is_plain_met T.F_is_plain_met.kp T.b_is_plain_met .nil pass0 (pa_cons (pv 0) (pa_cons (pv 1) (pa_cons (pv 2) pa_nil))))))), ?_⟩
    cases c with
    | neg c =>
      cases hc with
      | @tup a xs _ ha hd =>
        cases hd with
        | cons h1 hr1 =>
          cases h1
          cases hr1 with
          | @cons v2 _ _ _ h2 hr2 =>
            cases hr2
            walk_at "kk"
            refine ⟨_, c, x, y, rfl, h2, ho, hz, hx, hy, fun H' s1 => ?_⟩
            walk_at "kk"
            exact q H' s1
    | pos c =>
      obtain ⟨a, k, xs, rfl, ha, hk⟩ : ∃ (a : Addr) (k : Str) (xs : List V), v = .ref a ∧ SqT K H a (.str k :: xs) ∧ k ≠ "not" := by
        cases c <;> (cases hc with
          | @tup a xs _ ha hd =>
            cases hd with
            | cons h1 hr1 =>
              cases h1
              exact ⟨a, _, _, rfl, ha, by decide +kernel⟩)
      walk_at "kk"
      apply k_rv
      · exact rv_ixT ha (at_int (by decide) rfl)
      walk_at "kk"
      refine k_ite (fun hb => ?_) (fun hb => ?_)
      · exfalso
        apply hk
        have := of_decide_eq_true hb
        exact this
      · walk_at "kk"
        exact ⟨_, c, x, y, rfl, hc, ho, hz, hx, hy, q⟩
end
end K01
set_option Elab.async false
set_option linter.all false
set_option maxRecDepth 100000
set_option maxHeartbeats 4000000
namespace K01
open PySem PySem.Spec PyProof.Rows L2 TL Mi
/-! ### short words -/
local macro_rules | `(tactic| walk_at "idx") => `(tactic| first | assumption | exact Evl.sq_of (by assumption) | exact Evl.st_of (by assumption) | exact Evl.sq_of upd_same | exact Evl.st_of upd_same)
local macro_rules | `(tactic| walk_at "side") => `(tactic| first | omega | exact Or.inl ⟨by omega, by omega⟩ | exact Or.inr ⟨by omega, by omega⟩ | exact ⟨by omega, by omega⟩ | decide +kernel)
local macro_rules | `(tactic| walk_at "div") => `(tactic| exact wide_div (b := 30) (by omega) (by omega) (by decide) (by decide))
local macro_rules | `(tactic| walk_at "pow") => `(tactic| exact ⟨by decide +kernel, by decide +kernel, by decide +kernel⟩)
local macro_rules | `(tactic| walk_at "rv") => `(tactic| first
  | with_reducible exact rv_addI | with_reducible exact rv_sub | with_reducible exact rv_lt | with_reducible exact rv_le | with_reducible exact rv_gt | with_reducible exact rv_ge
  | with_reducible exact rv_inC | with_reducible exact rv_notInC | with_reducible exact rv_isB
  | (with_reducible apply rv_mul
     walk_at "side")
  | (with_reducible apply rv_mod
     walk_at "side")
  | (with_reducible apply rv_div
     walk_at "div")
  | (with_reducible apply rv_pow
     walk_at "pow")
  | (with_reducible apply rv_eq
     exact rfl)
  | (with_reducible apply rv_ne
     exact rfl)
  | (with_reducible apply rv_ixL
     · walk_at "idx"
     · exact rfl)
  | (with_reducible apply rv_ixT
     · walk_at "idx"
     · exact rfl)
  | (with_reducible apply rv_ixS
     · walk_at "side"
     · exact rfl)
  | (with_reducible apply rv_addS
     walk_at "side"))
local macro_rules | `(tactic| walk_at "val") => `(tactic| first
  | with_reducible exact val_c | exact val_c
  | (with_reducible apply val_var
     exact rfl)
  | (with_reducible apply val_bin
     · walk_at "val"
     · walk_at "val"
     · walk_at "rv")
  | (with_reducible apply val_int1
     walk_at "val")
  | (with_reducible apply val_max2
     · walk_at "val"
     · walk_at "val")
  | (with_reducible apply val_min2
     · walk_at "val"
     · walk_at "val")
  | (with_reducible apply val_endsw
     · walk_at "val"
     · walk_at "val")
  | (with_reducible apply val_lenS
     · walk_at "val"
     · walk_at "side")
  | (with_reducible apply val_lenL
     · walk_at "val"
     · walk_at "idx")
  | (with_reducible apply val_lenT
     · walk_at "val"
     · walk_at "idx")
  | (with_reducible apply val_notV
     walk_at "val"))
local macro_rules | `(tactic| walk_at "ans") => `(tactic| first
  | (with_reducible apply ans_T
     walk_at "val")
  | (with_reducible apply ans_B
     walk_at "val")
  | (with_reducible apply ans_not
     walk_at "ans"))
local macro_rules | `(tactic| walk_at "ifp") => `(tactic| first
  | (with_reducible refine Eq.mpr (if_pos ?_) ?_
     · decide +kernel)
  | (with_reducible refine Eq.mpr (if_neg ?_) ?_
     · decide +kernel))
local macro_rules | `(tactic| walk_at "k") => `(tactic| first
  | with_reducible apply k_seq | with_reducible apply k_asg | with_reducible apply k_ret | with_reducible apply k_ifS | with_reducible apply k_drop | with_reducible apply k_name
  | (with_reducible apply k_var
     · exact rfl)
  | with_reducible apply k_c
  | with_reducible apply k_op | with_reducible apply k_cb | with_reducible apply k_call | with_reducible apply k_cons | with_reducible apply k_nil | with_reducible apply k_tup | with_reducible apply k_lst
  | with_reducible apply k_ifE | with_reducible apply k_test | with_reducible apply k_tb | with_reducible apply k_not | with_reducible apply k_and | with_reducible apply k_or | with_reducible apply k_bl
  | with_reducible apply k_sl | with_reducible apply k_part | with_reducible apply k_isI | with_reducible apply k_nopart
  | with_reducible apply k_lcZS | with_reducible apply k_onZS | with_reducible apply k_un | with_reducible apply k_neg
  | with_reducible apply k_lcS | with_reducible apply k_lcR | with_reducible apply k_lcL | with_reducible apply k_lcT | with_reducible apply k_forS | with_reducible apply k_forR | with_reducible apply k_forL | with_reducible apply k_forT | with_reducible apply k_onS | with_reducible apply k_yes
  | (with_reducible apply k_augC
     · exact rfl)
  | with_reducible apply k_next | with_reducible apply k_eqInt | with_reducible apply k_neInt | with_reducible apply k_eqStr | with_reducible apply k_neStr
  | with_reducible apply k_andV | with_reducible apply k_orV | with_reducible apply k_notV
  | with_reducible apply k_m1 | with_reducible apply k_onStr | with_reducible apply k_endsw
  | (with_reducible apply k_slS
     · walk_at "side")
  | (with_reducible apply k_newT
     · walk_at "len")
  | (with_reducible apply k_newL
     · walk_at "len")
  | with_reducible apply k_int1 | with_reducible apply k_max2 | with_reducible apply k_min2
  | (with_reducible apply k_lenS
     · walk_at "side")
  | (with_reducible apply k_lenL
     · walk_at "idx")
  | (with_reducible apply k_lenT
     · walk_at "idx")
  | (with_reducible apply k_rv
     · walk_at "rv")
  | walk_at "ifp")
local macro_rules | `(tactic| walk_at "kk") => `(tactic| (repeat (walk_at "k")))
local macro_rules | `(tactic| walk_at "len") => `(tactic| first | exact (by decide : (1:Nat) ≤ 100000) | exact (by decide : (2:Nat) ≤ 100000) | exact (by decide : (3:Nat) ≤ 100000) | exact (by decide : (4:Nat) ≤ 100000) | exact (by decide : (7:Nat) ≤ 100000) | (simp only [List.length_cons, List.length_nil]; omega) | omega)
local macro_rules | `(tactic| walk_at "up") => `(tactic| first
  | assumption
  | (refine Dq.up ?_ (Gr.new (by assumption))
     walk_at "up")
  | (refine Dq.up ?_ (by assumption)
     walk_at "up"))

section
variable {P : Program} {w : World} {K : PySem.W.Frag} {mg : Str → Option Value} {base : Heap}
/-- texts and rows within a thing are not too long, two levels deep -/
def szw (d : PyData) : Prop := ∀ ds, d = .tuple ds → ∀ e ∈ ds, szd e
def szc2 (d : PyData) : Prop := szw d ∧ ∀ a b, d = .tuple [a, b] → szw b
def spCd (K : PySem.W.Frag) : Sp := fun vs H Q _ => ∃ (v : V) (d : PyData), vs = [v] ∧ Th K H v d ∧ shT d ∧ szc2 d ∧ ∀ H', Same H H' → Q (.bl (isCd d)) H'
theorem ok_is_condition (T : Txt K mg) : FnOk P w K mg base CX0 3 T.a_is_condition T.fd_is_condition ["thing"] (spCd K) := by
  refine T.F_is_condition.ok sc_is_condition (fun vs H Q E h => ?_) (fun cdv A outer s H vs Q E hr h => ?_)
  · obtain ⟨x, d, rfl, _⟩ := h
    rfl
  · obtain ⟨v, d, rfl, ht, hs, hz, q⟩ := h
    refine ⟨_, (pss_cons (ps_if (PW.pt (pw_and (pt_val (pe_callB (isiK K) (by rfl) T.z_isinstance B_isinstance (pa_cons (pv 0) (pa_cons (pe_bltn (v := .ty "tuple") (by rfl) T.z_tuple B_tuple (by rfl)) pa_nil)))) (pw_and (pt_cmpR (eqK K hr) (pe_callB (lenK K) (by rfl) T.z_len B_len (pa_cons (pv 0) pa_nil)) pe_int (nomark _)) (pw_and1 (pt_cmpR (eqK K hr) (pe_ix (ixK K) (pv 0) pe_int (fun _ _ => rfl)) pe_str (nomark _)))))) (pss_one (ps_ret (pe_call (ok_is_plain T) (hr.mono (by decide)) (by rfl) T.m_is_plain T.F_is_plain.kp T.b_is_plain .nil pass0 (pa_cons (pe_ix (ixK K) (pv 0) pe_int (fun _ _ => rfl)) pa_nil)))) pss_nil)
      (pss_one (ps_ret (pe_call (ok_is_plain T) (hr.mono (by decide)) (by rfl) T.m_is_plain T.F_is_plain.kp T.b_is_plain .nil pass0 (pa_cons (pv 0) pa_nil))))), ?_⟩
    walk_at "kk"
    refine k_isiD ht (kit_tup d) ?_
    walk_at "kk"
    have plain : isCd d = isPl d → ∃ (v' : V) (d' : PyData), [v] = [v'] ∧ Th K H v' d' ∧ shT d' ∧ szw d' ∧ ∀ H', Same H H' → Q (.bl (isPl d')) H' := fun e => ⟨v, d, rfl, ht, hs, hz.1, fun H' s1 => e ▸ q H' s1⟩
    by_cases htup : ∃ ds, d = .tuple ds
    · obtain ⟨ds, rfl⟩ := htup
      refine k_ite (fun _ => ?_) (fun hb => by cases hb)
      rcases ht with ht | ⟨_, _, _, _, e⟩
      rotate_left
      · cases e
      cases ht with
      | @tup a xs _ hx ha =>
        have hl := ha.len
        walk_at "kk"
        by_cases h2 : ∃ e1 e2, ds = [e1, e2]
        · obtain ⟨e1, e2, rfl⟩ := h2
          obtain ⟨x1, x2, rfl, h1, h2⟩ : ∃ x1 x2, xs = [x1, x2] ∧ Dp K H x1 e1 ∧ Dp K H x2 e2 := by
            cases ha with
            | cons h1 hr =>
              cases hr with
              | cons h2 hr2 =>
                cases hr2
                exact ⟨_, _, rfl, h1, h2⟩
          have hsc := shaped_cons (hs _ rfl)
          have hsc2 := shaped_cons hsc.2
          refine k_ite (fun _ => ?_) (fun hb => by simp at hb)
          walk_at "kk"
          apply k_rv
          · exact rv_eqD h1 (.str _) hsc.1 (by decide +kernel)
          walk_at "kk"
          refine k_ite (fun hb => ?_) (fun hb => ?_)
          · walk_at "kk"
            have e : isCd (.tuple [e1, e2]) = isPl e2 := by show (if _ then _ else _) = _; rw [if_pos hb]
            exact ⟨_, _, rfl, .inl h2, (fun _ z => z ▸ hsc2.1), hz.2 _ _ rfl, fun H' s1 => e ▸ q H' s1⟩
          · walk_at "kk"
            exact plain (by show (if _ then _ else _) = _; rw [hb]; rfl)
        · refine k_ite (fun hb => ?_) (fun hb => ?_)
          · exfalso
            have hb := of_decide_eq_true hb
            have hb : ds.length = 2 := by omega
            match ds, h2, hb with
            | [e1, e2], h2, _ => exact h2 ⟨_, _, rfl⟩
          · walk_at "kk"
            refine plain ?_
            match ds, h2 with
            | [], _ => rfl
            | [_], _ => rfl
            | [_, _], h2 => exact absurd ⟨_, _, rfl⟩ h2
            | _ :: _ :: _ :: _, _ => rfl
    · have e2 : isTupD d = false := by
        cases d <;> first | rfl | exact absurd ⟨_, rfl⟩ htup
      rw [e2]
      refine k_ite (fun hb => by cases hb) (fun _ => ?_)
      walk_at "kk"
      refine plain ?_
      cases d <;> first | rfl | exact absurd ⟨_, rfl⟩ htup
end
end K01
set_option Elab.async false
set_option linter.all false
set_option maxRecDepth 100000
set_option maxHeartbeats 4000000
namespace K01
open PySem PySem.Spec PyProof.Rows L2 TL Mi
/-! ### short words -/
local macro_rules | `(tactic| walk_at "idx") => `(tactic| first | assumption | exact Evl.sq_of (by assumption) | exact Evl.st_of (by assumption) | exact Evl.sq_of upd_same | exact Evl.st_of upd_same)
local macro_rules | `(tactic| walk_at "side") => `(tactic| first | omega | exact Or.inl ⟨by omega, by omega⟩ | exact Or.inr ⟨by omega, by omega⟩ | exact ⟨by omega, by omega⟩ | decide +kernel)
local macro_rules | `(tactic| walk_at "div") => `(tactic| exact wide_div (b := 30) (by omega) (by omega) (by decide) (by decide))
local macro_rules | `(tactic| walk_at "pow") => `(tactic| exact ⟨by decide +kernel, by decide +kernel, by decide +kernel⟩)
local macro_rules | `(tactic| walk_at "rv") => `(tactic| first
  | with_reducible exact rv_addI | with_reducible exact rv_sub | with_reducible exact rv_lt | with_reducible exact rv_le | with_reducible exact rv_gt | with_reducible exact rv_ge
  | with_reducible exact rv_inC | with_reducible exact rv_notInC | with_reducible exact rv_isB
  | (with_reducible apply rv_mul
     walk_at "side")
  | (with_reducible apply rv_mod
     walk_at "side")
  | (with_reducible apply rv_div
     walk_at "div")
  | (with_reducible apply rv_pow
     walk_at "pow")
  | (with_reducible apply rv_eq
     exact rfl)
  | (with_reducible apply rv_ne
     exact rfl)
  | (with_reducible apply rv_ixL
     · walk_at "idx"
     · exact rfl)
  | (with_reducible apply rv_ixT
     · walk_at "idx"
     · exact rfl)
  | (with_reducible apply rv_ixS
     · walk_at "side"
     · exact rfl)
  | (with_reducible apply rv_addS
     walk_at "side"))
local macro_rules | `(tactic| walk_at "val") => `(tactic| first
  | with_reducible exact val_c | exact val_c
  | (with_reducible apply val_var
     exact rfl)
  | (with_reducible apply val_bin
     · walk_at "val"
     · walk_at "val"
     · walk_at "rv")
  | (with_reducible apply val_int1
     walk_at "val")
  | (with_reducible apply val_max2
     · walk_at "val"
     · walk_at "val")
  | (with_reducible apply val_min2
     · walk_at "val"
     · walk_at "val")
  | (with_reducible apply val_endsw
     · walk_at "val"
     · walk_at "val")
  | (with_reducible apply val_lenS
     · walk_at "val"
     · walk_at "side")
  | (with_reducible apply val_lenL
     · walk_at "val"
     · walk_at "idx")
  | (with_reducible apply val_lenT
     · walk_at "val"
     · walk_at "idx")
  | (with_reducible apply val_notV
     walk_at "val"))
local macro_rules | `(tactic| walk_at "ans") => `(tactic| first
  | (with_reducible apply ans_T
     walk_at "val")
  | (with_reducible apply ans_B
     walk_at "val")
  | (with_reducible apply ans_not
     walk_at "ans"))
local macro_rules | `(tactic| walk_at "ifp") => `(tactic| first
  | (with_reducible refine Eq.mpr (if_pos ?_) ?_
     · decide +kernel)
  | (with_reducible refine Eq.mpr (if_neg ?_) ?_
     · decide +kernel))
local macro_rules | `(tactic| walk_at "k") => `(tactic| first
  | with_reducible apply k_seq | with_reducible apply k_asg | with_reducible apply k_ret | with_reducible apply k_ifS | with_reducible apply k_drop | with_reducible apply k_name
  | (with_reducible apply k_var
     · exact rfl)
  | with_reducible apply k_c
  | with_reducible apply k_op | with_reducible apply k_cb | with_reducible apply k_call | with_reducible apply k_cons | with_reducible apply k_nil | with_reducible apply k_tup | with_reducible apply k_lst
  | with_reducible apply k_ifE | with_reducible apply k_test | with_reducible apply k_tb | with_reducible apply k_not | with_reducible apply k_and | with_reducible apply k_or | with_reducible apply k_bl
  | with_reducible apply k_sl | with_reducible apply k_part | with_reducible apply k_isI | with_reducible apply k_nopart
  | with_reducible apply k_lcZS | with_reducible apply k_onZS | with_reducible apply k_un | with_reducible apply k_neg
  | with_reducible apply k_lcS | with_reducible apply k_lcR | with_reducible apply k_lcL | with_reducible apply k_lcT | with_reducible apply k_forS | with_reducible apply k_forR | with_reducible apply k_forL | with_reducible apply k_forT | with_reducible apply k_onS | with_reducible apply k_yes
  | (with_reducible apply k_augC
     · exact rfl)
  | with_reducible apply k_next | with_reducible apply k_eqInt | with_reducible apply k_neInt | with_reducible apply k_eqStr | with_reducible apply k_neStr
  | with_reducible apply k_andV | with_reducible apply k_orV | with_reducible apply k_notV
  | with_reducible apply k_m1 | with_reducible apply k_onStr | with_reducible apply k_endsw
  | (with_reducible apply k_slS
     · walk_at "side")
  | (with_reducible apply k_newT
     · walk_at "len")
  | (with_reducible apply k_newL
     · walk_at "len")
  | with_reducible apply k_int1 | with_reducible apply k_max2 | with_reducible apply k_min2
  | (with_reducible apply k_lenS
     · walk_at "side")
  | (with_reducible apply k_lenL
     · walk_at "idx")
  | (with_reducible apply k_lenT
     · walk_at "idx")
  | (with_reducible apply k_rv
     · walk_at "rv")
  | walk_at "ifp")
local macro_rules | `(tactic| walk_at "kk") => `(tactic| (repeat (walk_at "k")))
local macro_rules | `(tactic| walk_at "len") => `(tactic| first | exact (by decide : (1:Nat) ≤ 100000) | exact (by decide : (2:Nat) ≤ 100000) | exact (by decide : (3:Nat) ≤ 100000) | exact (by decide : (4:Nat) ≤ 100000) | exact (by decide : (7:Nat) ≤ 100000) | (simp only [List.length_cons, List.length_nil]; omega) | omega)
local macro_rules | `(tactic| walk_at "up") => `(tactic| first
  | assumption
  | (refine Dq.up ?_ (Gr.new (by assumption))
     walk_at "up")
  | (refine Dq.up ?_ (by assumption)
     walk_at "up"))

section
variable {P : Program} {w : World} {K : PySem.W.Frag} {mg : Str → Option Value} {base : Heap}
theorem ok_InvalidText_init (T : Txt K mg) : FnOk P w K mg base CX0 1 T.aI_InvalidText T.fdI_InvalidText ["self", "thing"] (spInit T.C_InvalidText "thing") := by
  refine T.FI_InvalidText.ok sc_InvalidText_init (fun vs H Q E h => ?_) (fun cdv A outer s H vs Q E hr h => ?_)
  · obtain ⟨x, d, rfl, _⟩ := h
    rfl
  · obtain ⟨a, y, rfl, ha, q⟩ := h
    refine ⟨_, (pss_one (ps_ost (pv 0) (pv 1))), ?_⟩
    apply k_ost
    walk_at "kk"
    exact ⟨a, _, rfl, T.x_InvalidText, T.n_InvalidText_thing, .inl ⟨ha, q⟩⟩
theorem ok_InvalidConditions_init (T : Txt K mg) : FnOk P w K mg base CX0 1 T.aI_InvalidConditions T.fdI_InvalidConditions ["self", "place"] (spInit T.C_InvalidConditions "place") := by
  refine T.FI_InvalidConditions.ok sc_InvalidConditions_init (fun vs H Q E h => ?_) (fun cdv A outer s H vs Q E hr h => ?_)
  · obtain ⟨x, d, rfl, _⟩ := h
    rfl
  · obtain ⟨a, y, rfl, ha, q⟩ := h
    refine ⟨_, (pss_one (ps_ost (pv 0) (pv 1))), ?_⟩
    apply k_ost
    walk_at "kk"
    exact ⟨a, _, rfl, T.x_InvalidConditions, T.n_InvalidConditions_place, .inl ⟨ha, q⟩⟩
/-- what holds is asked of, and what it raises -/
def spHolds (T : Txt K mg) : Sp := fun vs H Q E => ∃ (c x y : V) (dc dx dy : PyData), vs = [c, x, y] ∧ Th K H c dc ∧ Th K H x dx ∧ Th K H y dy ∧ shT dc ∧ szc2 dc ∧
  ((isCd dc = false ∧ ∀ H' dd, Same H H' → H' dd = some (.xd [("place", .non)]) → E (.ref T.C_InvalidConditions) (some dd) H') ∨
   isCd dc = true ∧ ((isStrD dx = false ∧ ∀ H' dd, Same H H' → H' dd = some (.xd [("thing", x)]) → E (.ref T.C_InvalidText) (some dd) H') ∨
     isStrD dx = true ∧ ((isStrD dy = false ∧ ∀ H' dd, Same H H' → H' dd = some (.xd [("thing", y)]) → E (.ref T.C_InvalidText) (some dd) H') ∨
       ∃ (cn : Cond) (sx sy : Str), dc = enc cn ∧ okc cn ∧ szc cn ∧ dx = .str sx ∧ dy = .str sy ∧ sx.length ≤ 50000 ∧ sy.length ≤ 50000 ∧ ∀ H', Same H H' → Q (.bl (met (tl sy) (tl sx) cn)) H')))
theorem ok_holds (T : Txt K mg) : FnOk P w K mg base (L2.CX P w) 4 T.a_holds T.fd_holds ["condition", "rest", "vowels"] (spHolds T) := by
  refine T.F_holds.okX sc_holds (fun vs H Q E h => ?_) (fun cdv A outer s H vs Q E hr h => ?_)
  · obtain ⟨c, x, y, _, _, _, rfl, _⟩ := h
    rfl
  · obtain ⟨c, x, y, dc, dx, dy, rfl, hc, hx, hy, hs, hz, h⟩ := h
    refine ⟨_, (pss_cons (ps_if (pt_not (pt_val (pe_call (ok_is_condition T) (hr.mono (by decide)) (by rfl) T.m_is_condition T.F_is_condition.kp T.b_is_condition .nil pass0 (pa_cons (pv 0) pa_nil)))) (pss_one (ps_raise rfl (takes_of rfl rfl rfl rfl) (pmk_oex T.x_InvalidConditions T.i_InvalidConditions T.t_InvalidConditions (ok_InvalidConditions_init T) (hr.mono (by decide)) T.bI_InvalidConditions .nil pass0 (by rfl) T.mc_InvalidConditions (pa_cons pe_non pa_nil)))) pss_nil)
      (pss_cons (ps_if (pt_not (pt_val (pe_callB (isiK K) (by rfl) T.z_isinstance B_isinstance (pa_cons (pv 1) (pa_cons (pe_bltn (v := .ty "str") (by rfl) T.z_str B_str (by rfl)) pa_nil))))) (pss_one (ps_raise rfl (takes_of rfl rfl rfl rfl) (pmk_oex T.x_InvalidText T.i_InvalidText T.t_InvalidText (ok_InvalidText_init T) (hr.mono (by decide)) T.bI_InvalidText .nil pass0 (by rfl) T.mc_InvalidText (pa_cons (pv 1) pa_nil)))) pss_nil)
      (pss_cons (ps_if (pt_not (pt_val (pe_callB (isiK K) (by rfl) T.z_isinstance B_isinstance (pa_cons (pv 2) (pa_cons (pe_bltn (v := .ty "str") (by rfl) T.z_str B_str (by rfl)) pa_nil))))) (pss_one (ps_raise rfl (takes_of rfl rfl rfl rfl) (pmk_oex T.x_InvalidText T.i_InvalidText T.t_InvalidText (ok_InvalidText_init T) (hr.mono (by decide)) T.bI_InvalidText .nil pass0 (by rfl) T.mc_InvalidText (pa_cons (pv 2) pa_nil)))) pss_nil)
      (pss_one (ps_ret (pe_call (ok_is_met T) (hr.mono (by decide)) (by rfl) T.m_is_met T.F_is_met.kp T.b_is_met .nil pass0 (pa_cons (pv 0) (pa_cons (pv 1) (pa_cons (pv 2) pa_nil))))))))), ?_⟩
    walk_at "kk"
    refine ⟨_, _, rfl, hc, hs, hz, fun H1 s1 => ?_⟩
    walk_at "kk"
    rcases h with ⟨e, q⟩ | ⟨e, h⟩
    · rw [e]
      refine k_ite (fun _ => ?_) (fun hb => by cases hb)
      exact k_mkC fun H2 dd s2 e2 => q H2 dd (s1.trans s2) e2
    rw [e]
    refine k_ite (fun hb => by cases hb) (fun _ => ?_)
    walk_at "kk"
    refine k_isiD (hx.up s1) (kit_str dx) ?_
    walk_at "kk"
    rcases h with ⟨e2, q⟩ | ⟨e2, h⟩
    · rw [e2]
      refine k_ite (fun _ => ?_) (fun hb => by cases hb)
      exact k_mkV rfl fun H2 dd s2 e2 => q H2 dd (s1.trans s2) e2
    rw [e2]
    refine k_ite (fun hb => by cases hb) (fun _ => ?_)
    walk_at "kk"
    refine k_isiD (hy.up s1) (kit_str dy) ?_
    walk_at "kk"
    rcases h with ⟨e3, q⟩ | ⟨cn, sx, sy, rfl, ho, hzc, rfl, rfl, hl, hl2, q⟩
    · rw [e3]
      refine k_ite (fun _ => ?_) (fun hb => by cases hb)
      exact k_mkV rfl fun H2 dd s2 e2 => q H2 dd (s1.trans s2) e2
    refine k_ite (fun hb => by cases hb) (fun _ => ?_)
    walk_at "kk"
    rcases hx with hx | ⟨_, _, _, _, z⟩
    rotate_left
    · cases z
    rcases hy with hy | ⟨_, _, _, _, z⟩
    rotate_left
    · cases z
    rcases hc with hc | ⟨_, _, _, _, z⟩
    rotate_left
    · cases cn with
      | pos c => cases c <;> cases z
      | neg c => cases z
    cases hx
    cases hy
    exact ⟨c, cn, sx, sy, rfl, hc.up s1, ho, hzc, hl, hl2, fun H' s2 => q H' (s1.trans s2)⟩
end
end K01
set_option Elab.async false
set_option linter.all false
set_option maxRecDepth 100000
set_option maxHeartbeats 4000000
namespace K01
open PySem PySem.Spec PyProof.Rows L2 TL Mi
/-! ### short words -/
local macro_rules | `(tactic| walk_at "idx") => `(tactic| first | assumption | exact Evl.sq_of (by assumption) | exact Evl.st_of (by assumption) | exact Evl.sq_of upd_same | exact Evl.st_of upd_same)
local macro_rules | `(tactic| walk_at "side") => `(tactic| first | omega | exact Or.inl ⟨by omega, by omega⟩ | exact Or.inr ⟨by omega, by omega⟩ | exact ⟨by omega, by omega⟩ | decide +kernel)
local macro_rules | `(tactic| walk_at "div") => `(tactic| exact wide_div (b := 30) (by omega) (by omega) (by decide) (by decide))
local macro_rules | `(tactic| walk_at "pow") => `(tactic| exact ⟨by decide +kernel, by decide +kernel, by decide +kernel⟩)
local macro_rules | `(tactic| walk_at "rv") => `(tactic| first
  | with_reducible exact rv_addI | with_reducible exact rv_sub | with_reducible exact rv_lt | with_reducible exact rv_le | with_reducible exact rv_gt | with_reducible exact rv_ge
  | with_reducible exact rv_inC | with_reducible exact rv_notInC | with_reducible exact rv_isB
  | (with_reducible apply rv_mul
     walk_at "side")
  | (with_reducible apply rv_mod
     walk_at "side")
  | (with_reducible apply rv_div
     walk_at "div")
  | (with_reducible apply rv_pow
     walk_at "pow")
  | (with_reducible apply rv_eq
     exact rfl)
  | (with_reducible apply rv_ne
     exact rfl)
  | (with_reducible apply rv_ixL
     · walk_at "idx"
     · exact rfl)
  | (with_reducible apply rv_ixT
     · walk_at "idx"
     · exact rfl)
  | (with_reducible apply rv_ixS
     · walk_at "side"
     · exact rfl)
  | (with_reducible apply rv_addS
     walk_at "side"))
local macro_rules | `(tactic| walk_at "val") => `(tactic| first
  | with_reducible exact val_c | exact val_c
  | (with_reducible apply val_var
     exact rfl)
  | (with_reducible apply val_bin
     · walk_at "val"
     · walk_at "val"
     · walk_at "rv")
  | (with_reducible apply val_int1
     walk_at "val")
  | (with_reducible apply val_max2
     · walk_at "val"
     · walk_at "val")
  | (with_reducible apply val_min2
     · walk_at "val"
     · walk_at "val")
  | (with_reducible apply val_endsw
     · walk_at "val"
     · walk_at "val")
  | (with_reducible apply val_lenS
     · walk_at "val"
     · walk_at "side")
  | (with_reducible apply val_lenL
     · walk_at "val"
     · walk_at "idx")
  | (with_reducible apply val_lenT
     · walk_at "val"
     · walk_at "idx")
  | (with_reducible apply val_notV
     walk_at "val"))
local macro_rules | `(tactic| walk_at "ans") => `(tactic| first
  | (with_reducible apply ans_T
     walk_at "val")
  | (with_reducible apply ans_B
     walk_at "val")
  | (with_reducible apply ans_not
     walk_at "ans"))
local macro_rules | `(tactic| walk_at "ifp") => `(tactic| first
  | (with_reducible refine Eq.mpr (if_pos ?_) ?_
     · decide +kernel)
  | (with_reducible refine Eq.mpr (if_neg ?_) ?_
     · decide +kernel))
local macro_rules | `(tactic| walk_at "k") => `(tactic| first
  | with_reducible apply k_seq | with_reducible apply k_asg | with_reducible apply k_ret | with_reducible apply k_ifS | with_reducible apply k_drop | with_reducible apply k_name
  | (with_reducible apply k_var
     · exact rfl)
  | with_reducible apply k_c
  | with_reducible apply k_op | with_reducible apply k_cb | with_reducible apply k_call | with_reducible apply k_cons | with_reducible apply k_nil | with_reducible apply k_tup | with_reducible apply k_lst
  | with_reducible apply k_ifE | with_reducible apply k_test | with_reducible apply k_tb | with_reducible apply k_not | with_reducible apply k_and | with_reducible apply k_or | with_reducible apply k_bl
  | with_reducible apply k_sl | with_reducible apply k_part | with_reducible apply k_isI | with_reducible apply k_nopart
  | with_reducible apply k_lcZS | with_reducible apply k_onZS | with_reducible apply k_un | with_reducible apply k_neg
  | with_reducible apply k_lcS | with_reducible apply k_lcR | with_reducible apply k_lcL | with_reducible apply k_lcT | with_reducible apply k_forS | with_reducible apply k_forR | with_reducible apply k_forL | with_reducible apply k_forT | with_reducible apply k_onS | with_reducible apply k_yes
  | (with_reducible apply k_augC
     · exact rfl)
  | with_reducible apply k_next | with_reducible apply k_eqInt | with_reducible apply k_neInt | with_reducible apply k_eqStr | with_reducible apply k_neStr
  | with_reducible apply k_andV | with_reducible apply k_orV | with_reducible apply k_notV
  | with_reducible apply k_m1 | with_reducible apply k_onStr | with_reducible apply k_endsw
  | (with_reducible apply k_slS
     · walk_at "side")
  | (with_reducible apply k_newT
     · walk_at "len")
  | (with_reducible apply k_newL
     · walk_at "len")
  | with_reducible apply k_int1 | with_reducible apply k_max2 | with_reducible apply k_min2
  | (with_reducible apply k_lenS
     · walk_at "side")
  | (with_reducible apply k_lenL
     · walk_at "idx")
  | (with_reducible apply k_lenT
     · walk_at "idx")
  | (with_reducible apply k_rv
     · walk_at "rv")
  | walk_at "ifp")
local macro_rules | `(tactic| walk_at "kk") => `(tactic| (repeat (walk_at "k")))
local macro_rules | `(tactic| walk_at "len") => `(tactic| first | exact (by decide : (1:Nat) ≤ 100000) | exact (by decide : (2:Nat) ≤ 100000) | exact (by decide : (3:Nat) ≤ 100000) | exact (by decide : (4:Nat) ≤ 100000) | exact (by decide : (7:Nat) ≤ 100000) | (simp only [List.length_cons, List.length_nil]; omega) | omega)
local macro_rules | `(tactic| walk_at "up") => `(tactic| first
  | assumption
  | (refine Dq.up ?_ (Gr.new (by assumption))
     walk_at "up")
  | (refine Dq.up ?_ (by assumption)
     walk_at "up"))

section
variable {P : Program} {w : World} {K : PySem.W.Frag} {mg : Str → Option Value} {base : Heap}
/-- a wrong call, and what is caught -/
def spCaught (K : PySem.W.Frag) : Sp := fun vs H Q _ => ∃ (c x y : V) (dc dx dy : PyData), vs = [c, x, y] ∧ Th K H c dc ∧ Th K H x dx ∧ Th K H y dy ∧ shT dc ∧ szc2 dc ∧
  ((isCd dc = false ∧ ∀ H' r, Same H H' → H' r = some (.lst [.str "conditions", .non]) → Q (.ref r) H') ∨
   isCd dc = true ∧ ((isStrD dx = false ∧ ∀ H' r, Same H H' → H' r = some (.lst [.str "text", x]) → Q (.ref r) H') ∨
     isStrD dx = true ∧ isStrD dy = false ∧ ∀ H' r, Same H H' → H' r = some (.lst [.str "text", y]) → Q (.ref r) H'))
theorem ok_law_caught (T : Txt K mg) : FnOk P w K mg base CX0 5 T.a_law_caught T.fd_law_caught ["wish", "ahead", "soft"] (spCaught K) := by
  refine T.F_law_caught.ok sc_law_caught (fun vs H Q E h => ?_) (fun cdv A outer s H vs Q E hr h => ?_)
  · obtain ⟨c, x, y, _, _, _, rfl, _⟩ := h
    rfl
  · obtain ⟨c, x, y, dc, dx, dy, rfl, hc, hx, hy, hs, hz, h⟩ := h
    refine ⟨_, (pss_cons (ps_set (i := 3) sc_law_caught.nd rfl (Or.inl rfl) pe_non)
      (pss_cons (ps_tryC rfl rfl sc_law_caught.nd takes0 (fun W pn xe tk po => (pss_one (ps_expr (by exact (pe_callS (ok_holds T) (hr.mono (by decide)) (by rfl) T.m_holds T.F_holds.kp T.b_holds (fun σ => passAt tk σ) (by exact (pa_cons (pv 0) (pa_cons (pv 1) (pa_cons (pv 2) pa_nil)))))))))
      (ClsOk.as (i := 4) ⟨by rfl, by decide, .inl T.mc_InvalidConditions⟩ rfl rfl (fun a ob cls d l hz hv => (pss_one (ps_set (i := 3) sc_law_caught.nd rfl (Or.inl rfl) (pe_lst (pa_cons pe_str (pa_cons (pe_xf T.xf_InvalidConditions T.n_InvalidConditions_place hz hv (pv 4)) pa_nil)))))) (ClsOk.as (i := 4) ⟨by rfl, by decide, .inl T.mc_InvalidText⟩ rfl rfl (fun a ob cls d l hz hv => (pss_one (ps_set (i := 3) sc_law_caught.nd rfl (Or.inl rfl) (pe_lst (pa_cons pe_str (pa_cons (pe_xf T.xf_InvalidText T.n_InvalidText_thing hz hv (pv 4)) pa_nil)))))) (ClsOk.no ⟨by rfl, by decide, .inl T.mc_StemError⟩ (fun a ob cls d l hz hv => (pss_one (ps_set (i := 3) sc_law_caught.nd rfl (Or.inl rfl) (pe_lst (pa_cons pe_str pa_nil))))) ClsOk.nil))))
      (pss_one (ps_ret (pv 3))))), ?_⟩
    walk_at "kk"
    apply k_tryC
    walk_at "kk"
    apply k_callS
    walk_at "kk"
    refine ⟨c, x, y, dc, dx, dy, rfl, hc, hx, hy, hs, hz, ?_⟩
    have go : ∀ {C : Addr} {f : Str} {z : V} {kd : Str} {σ : L2.St} {D : Ends} {H1 : Hp} {dd a : Addr}, Same H H1 → H1 dd = some (.xd [(f, z)]) →
        (∀ H' r, Same H H' → H' r = some (.lst [.str kd, z]) → D.nx ((σ.set 4 (some (.ref a))).set 3 (some (.ref r))) H') → σ.length = 5 →
        tAsg (tLst (tCons (tC (.str kd)) (tCons (tXf a (.ref C) (some dd) C f (tVar 4)) tNil))) (gName 3) D (σ.set 4 (some (.ref a))) H1 := by
      intro C f z kd σ D H1 dd a s1 e1 q hl
      walk_at "kk"
      refine k_xfV (by rw [List.getElem?_set_self (by omega)]) e1 (show List.lookup f [(f, z)] = some z by simp [List.lookup]) ?_
      walk_at "kk"
      intro r hr
      walk_at "kk"
      exact q _ r (s1.trans (same_new hr)) upd_same
    rcases h with ⟨e, q⟩ | ⟨e, ⟨e2, q⟩ | ⟨e2, e3, q⟩⟩
    · refine .inl ⟨e, fun H1 dd s1 e1 => ⟨true, T.e_InvalidConditions_InvalidConditions, fun _ a na => ?_, fun hb => (nomatch hb)⟩⟩
      refine go s1 e1 (fun H' r s2 e2 => ?_) rfl
      show tRet (tVar 3) _ _ _
      walk_at "kk"
      exact q _ _ s2 e2
    · refine .inr ⟨e, .inl ⟨e2, fun H1 dd s1 e1 => ⟨false, T.e_InvalidText_InvalidConditions, fun hb => (nomatch hb), fun _ => ⟨true, T.e_InvalidText_InvalidText, fun _ a na => ?_, fun hb => (nomatch hb)⟩⟩⟩⟩
      refine go s1 e1 (fun H' r s2 e2 => ?_) rfl
      show tRet (tVar 3) _ _ _
      walk_at "kk"
      exact q _ _ s2 e2
    · refine .inr ⟨e, .inr ⟨e2, .inl ⟨e3, fun H1 dd s1 e1 => ⟨false, T.e_InvalidText_InvalidConditions, fun hb => (nomatch hb), fun _ => ⟨true, T.e_InvalidText_InvalidText, fun _ a na => ?_, fun hb => (nomatch hb)⟩⟩⟩⟩⟩
      refine go s1 e1 (fun H' r s2 e2 => ?_) rfl
      show tRet (tVar 3) _ _ _
      walk_at "kk"
      exact q _ _ s2 e2
end
end K01
set_option Elab.async false
set_option linter.all false
set_option maxRecDepth 100000
set_option maxHeartbeats 4000000
namespace K01
open PySem PySem.Spec PyProof.Rows L2 TL Mi
/-! ### short words -/
local macro_rules | `(tactic| walk_at "idx") => `(tactic| first | assumption | exact Evl.sq_of (by assumption) | exact Evl.st_of (by assumption) | exact Evl.sq_of upd_same | exact Evl.st_of upd_same)
local macro_rules | `(tactic| walk_at "side") => `(tactic| first | omega | exact Or.inl ⟨by omega, by omega⟩ | exact Or.inr ⟨by omega, by omega⟩ | exact ⟨by omega, by omega⟩ | decide +kernel)
local macro_rules | `(tactic| walk_at "div") => `(tactic| exact wide_div (b := 30) (by omega) (by omega) (by decide) (by decide))
local macro_rules | `(tactic| walk_at "pow") => `(tactic| exact ⟨by decide +kernel, by decide +kernel, by decide +kernel⟩)
local macro_rules | `(tactic| walk_at "rv") => `(tactic| first
  | with_reducible exact rv_addI | with_reducible exact rv_sub | with_reducible exact rv_lt | with_reducible exact rv_le | with_reducible exact rv_gt | with_reducible exact rv_ge
  | with_reducible exact rv_inC | with_reducible exact rv_notInC | with_reducible exact rv_isB
  | (with_reducible apply rv_mul
     walk_at "side")
  | (with_reducible apply rv_mod
     walk_at "side")
  | (with_reducible apply rv_div
     walk_at "div")
  | (with_reducible apply rv_pow
     walk_at "pow")
  | (with_reducible apply rv_eq
     exact rfl)
  | (with_reducible apply rv_ne
     exact rfl)
  | (with_reducible apply rv_ixL
     · walk_at "idx"
     · exact rfl)
  | (with_reducible apply rv_ixT
     · walk_at "idx"
     · exact rfl)
  | (with_reducible apply rv_ixS
     · walk_at "side"
     · exact rfl)
  | (with_reducible apply rv_addS
     walk_at "side"))
local macro_rules | `(tactic| walk_at "val") => `(tactic| first
  | with_reducible exact val_c | exact val_c
  | (with_reducible apply val_var
     exact rfl)
  | (with_reducible apply val_bin
     · walk_at "val"
     · walk_at "val"
     · walk_at "rv")
  | (with_reducible apply val_int1
     walk_at "val")
  | (with_reducible apply val_max2
     · walk_at "val"
     · walk_at "val")
  | (with_reducible apply val_min2
     · walk_at "val"
     · walk_at "val")
  | (with_reducible apply val_endsw
     · walk_at "val"
     · walk_at "val")
  | (with_reducible apply val_lenS
     · walk_at "val"
     · walk_at "side")
  | (with_reducible apply val_lenL
     · walk_at "val"
     · walk_at "idx")
  | (with_reducible apply val_lenT
     · walk_at "val"
     · walk_at "idx")
  | (with_reducible apply val_notV
     walk_at "val"))
local macro_rules | `(tactic| walk_at "ans") => `(tactic| first
  | (with_reducible apply ans_T
     walk_at "val")
  | (with_reducible apply ans_B
     walk_at "val")
  | (with_reducible apply ans_not
     walk_at "ans"))
local macro_rules | `(tactic| walk_at "ifp") => `(tactic| first
  | (with_reducible refine Eq.mpr (if_pos ?_) ?_
     · decide +kernel)
  | (with_reducible refine Eq.mpr (if_neg ?_) ?_
     · decide +kernel))
local macro_rules | `(tactic| walk_at "k") => `(tactic| first
  | with_reducible apply k_seq | with_reducible apply k_asg | with_reducible apply k_ret | with_reducible apply k_ifS | with_reducible apply k_drop | with_reducible apply k_name
  | (with_reducible apply k_var
     · exact rfl)
  | with_reducible apply k_c
  | with_reducible apply k_op | with_reducible apply k_cb | with_reducible apply k_call | with_reducible apply k_cons | with_reducible apply k_nil | with_reducible apply k_tup | with_reducible apply k_lst
  | with_reducible apply k_ifE | with_reducible apply k_test | with_reducible apply k_tb | with_reducible apply k_not | with_reducible apply k_and | with_reducible apply k_or | with_reducible apply k_bl
  | with_reducible apply k_sl | with_reducible apply k_part | with_reducible apply k_isI | with_reducible apply k_nopart
  | with_reducible apply k_lcZS | with_reducible apply k_onZS | with_reducible apply k_un | with_reducible apply k_neg
  | with_reducible apply k_lcS | with_reducible apply k_lcR | with_reducible apply k_lcL | with_reducible apply k_lcT | with_reducible apply k_forS | with_reducible apply k_forR | with_reducible apply k_forL | with_reducible apply k_forT | with_reducible apply k_onS | with_reducible apply k_yes
  | (with_reducible apply k_augC
     · exact rfl)
  | with_reducible apply k_next | with_reducible apply k_eqInt | with_reducible apply k_neInt | with_reducible apply k_eqStr | with_reducible apply k_neStr
  | with_reducible apply k_andV | with_reducible apply k_orV | with_reducible apply k_notV
  | with_reducible apply k_m1 | with_reducible apply k_onStr | with_reducible apply k_endsw
  | (with_reducible apply k_slS
     · walk_at "side")
  | (with_reducible apply k_newT
     · walk_at "len")
  | (with_reducible apply k_newL
     · walk_at "len")
  | with_reducible apply k_int1 | with_reducible apply k_max2 | with_reducible apply k_min2
  | (with_reducible apply k_lenS
     · walk_at "side")
  | (with_reducible apply k_lenL
     · walk_at "idx")
  | (with_reducible apply k_lenT
     · walk_at "idx")
  | (with_reducible apply k_rv
     · walk_at "rv")
  | walk_at "ifp")
local macro_rules | `(tactic| walk_at "kk") => `(tactic| (repeat (walk_at "k")))
local macro_rules | `(tactic| walk_at "len") => `(tactic| first | exact (by decide : (1:Nat) ≤ 100000) | exact (by decide : (2:Nat) ≤ 100000) | exact (by decide : (3:Nat) ≤ 100000) | exact (by decide : (4:Nat) ≤ 100000) | exact (by decide : (7:Nat) ≤ 100000) | (simp only [List.length_cons, List.length_nil]; omega) | omega)
local macro_rules | `(tactic| walk_at "up") => `(tactic| first
  | assumption
  | (refine Dq.up ?_ (Gr.new (by assumption))
     walk_at "up")
  | (refine Dq.up ?_ (by assumption)
     walk_at "up"))

section
variable {P : Program} {w : World} {K : PySem.W.Frag} {mg : Str → Option Value} {base : Heap}
theorem ok_law_holds0 (T : Txt K mg) : FnOk P w K mg base CX0 1 T.a_law_holds T.fd_law_holds ["wish", "ahead", "soft"] (fun _ _ _ _ => False) := by
  refine T.F_law_holds.ok sc_law_holds (fun vs H Q E h => h.elim) (fun cdv A outer s H vs Q E hr h => h.elim)
/-- texts in a condition are texts -/
def ow0 : C0 → Prop
  | .ends ts => ∀ t ∈ ts, okS t
  | _ => True
def owc : Cond → Prop
  | .pos c => ow0 c
  | .neg c => ow0 c
def spLhP (K : PySem.W.Frag) : Sp := fun vs H Q _ => ∃ (v : V) (c : C0) (x y : Str), vs = [v, .str x, .str y] ∧ Dp K H v (enc0 c) ∧ ok0 c ∧ sz0 c ∧ ow0 c ∧ x.length ≤ 50000 ∧ okS x ∧ ∀ H', Same H H' → Q (.bl (met0 (tl y) (tl x) c)) H'
theorem ok_law_holds1 (T : Txt K mg) : FnOk P w K mg base CX0 2 T.a_law_holds T.fd_law_holds ["wish", "ahead", "soft"] (spLhP K) := by
  have ok_law_holds : ∀ T : Txt K mg, FnOk P w K mg base CX0 1 T.a_law_holds T.fd_law_holds ["wish", "ahead", "soft"] (fun _ _ _ _ => False) := ok_law_holds0
  refine T.F_law_holds.ok sc_law_holds (fun vs H Q E h => ?_) (fun cdv A outer s H vs Q E hr h => ?_)
  · obtain ⟨v, c, x, y, rfl, _⟩ := h
    rfl
  · obtain ⟨v, c, x, y, rfl, hc, ho, hz, hw, hx, hox, q⟩ := h
    refine ⟨_, (pss_cons (ps_set (i := 3) sc_law_holds.nd rfl (Or.inl rfl) (pe_ix (ixK K) (pv 0) pe_int (fun _ _ => rfl)))
      (pss_cons (ps_if (pt_cmpR (eqK K hr) (pv 3) pe_str (nomark _)) (pss_one (ps_ret (pe_not (pe_call (ok_law_holds T) (hr.mono (by decide)) (by rfl) T.m_law_holds T.F_law_holds.kp T.b_law_holds .nil pass0 (pa_cons (pe_ix (ixK K) (pv 0) pe_int (fun _ _ => rfl)) (pa_cons (pv 1) (pa_cons (pv 2) pa_nil))))))) pss_nil)
      (pss_cons (ps_if (pt_cmpR (eqK K hr) (pv 3) pe_str (nomark _)) (pss_one (ps_ret (pe_cmpR (neK K hr) (pe_lc (own := [("one", 5)]) (by rfl) sc_law_holds.nd (pi_str (pv 1)) (blkOk_by (N := ["wish", "ahead", "soft", "kind", "kinds", "one", "text"]) (sc := defScope s_law_holds) (by decide +kernel)) (fun _ _ _ _ _ => (pg_name (i := 5) sc_law_holds.nd rfl (Or.inl rfl))) (fun _ _ _ _ _ => (pts_one (pt_cmpR op_inC (pv 5) (pv 2) (by rfl)))) (fun _ _ _ _ _ => (pv 5))) (pe_lst pa_nil) (nomark _)))) pss_nil)
      (pss_cons (ps_if (pt_cmpR (eqK K hr) (pv 3) pe_str (nomark _)) (pss_one (ps_ret (pe_cmpR op_geA (pe_call (ok_law_runs T) (hr.mono (by decide)) (by rfl) T.m_law_runs T.F_law_runs.kp T.b_law_runs .nil pass0 (pa_cons (pv 1) (pa_cons (pv 2) pa_nil))) (pe_ix (ixK K) (pv 0) pe_int (fun _ _ => rfl)) (nomark _)))) pss_nil)
      (pss_cons (ps_if (pt_cmpR (eqK K hr) (pv 3) pe_str (nomark _)) (pss_one (ps_ret (pe_cmpR (neK K hr) (pe_lc (own := [("text", 6)]) (by rfl) sc_law_holds.nd (tupIK K (pe_ix (ixK K) (pv 0) pe_int (fun _ _ => rfl))) (blkOk_by (N := ["wish", "ahead", "soft", "kind", "kinds", "one", "text"]) (sc := defScope s_law_holds) (by decide +kernel)) (fun _ _ _ _ _ => (pg_name (i := 6) sc_law_holds.nd rfl (Or.inl rfl))) (fun _ _ _ _ _ => (pts_one (pt_cmpR (eqK K hr) (pe_slice (slK K) (pv 1) (po_some (pe_callB (call_maxA rfl) (by rfl) T.z_max B_max (pa_cons pe_int (pa_cons (pe_op op_subA (pe_callB (lenK K) (by rfl) T.z_len B_len (pa_cons (pv 1) pa_nil)) (pe_callB (lenK K) (by rfl) T.z_len B_len (pa_cons (pv 6) pa_nil))) pa_nil)))) po_none) (pv 6) (nomark _)))) (fun _ _ _ _ _ => (pv 6))) (pe_lst pa_nil) (nomark _)))) pss_nil)
      (pss_cons (ps_if (pt_cmpR (eqK K hr) (pv 3) pe_str (nomark _)) (pss_one (ps_ret (pe_and (pe_cmpR op_gtA (pe_callB (lenK K) (by rfl) T.z_len B_len (pa_cons (pv 1) pa_nil)) pe_int (nomark _)) (pe_and (pe_cmpR (eqK K hr) (pe_ix (ixK K) (pv 1) (pe_un un_negA pe_int) (fun _ _ => rfl)) (pe_ix (ixK K) (pv 1) (pe_un un_negA pe_int) (fun _ _ => rfl)) (nomark _)) (pe_one (pe_cmpR op_notInC (pe_ix (ixK K) (pv 1) (pe_un un_negA pe_int) (fun _ _ => rfl)) (pv 2) (by rfl))))))) pss_nil)
      (pss_cons (ps_if (pt_cmpR (eqK K hr) (pv 3) pe_str (nomark _)) (pss_one (ps_ret (pe_cmpR op_geA (pe_callB (lenK K) (by rfl) T.z_len B_len (pa_cons (pv 1) pa_nil)) (pe_ix (ixK K) (pv 0) pe_int (fun _ _ => rfl)) (nomark _)))) pss_nil)
      (pss_cons (ps_set (i := 4) sc_law_holds.nd rfl (Or.inl rfl) (joinK K pe_str (pe_lc (own := [("one", 5)]) (by rfl) sc_law_holds.nd (pi_str (pv 1)) (blkOk_by (N := ["wish", "ahead", "soft", "kind", "kinds", "one", "text"]) (sc := defScope s_law_holds) (by decide +kernel)) (fun _ _ _ _ _ => (pg_name (i := 5) sc_law_holds.nd rfl (Or.inl rfl))) (fun _ _ _ _ _ => pts_nil) (fun _ _ _ _ _ => (pe_ifExp (pt_cmpR op_inC (pv 5) (pv 2) (by rfl)) pe_str pe_str)))))
      (pss_one (ps_ret (pe_and (pe_cmpR op_geA (pe_callB (lenK K) (by rfl) T.z_len B_len (pa_cons (pv 4) pa_nil)) (pe_callB (lenK K) (by rfl) T.z_len B_len (pa_cons (pe_ix (ixK K) (pv 0) pe_int (fun _ _ => rfl)) pa_nil)) (nomark _)) (pe_one (pe_cmpR (eqK K hr) (pe_slice (slK K) (pv 4) (po_some (pe_op op_subA (pe_callB (lenK K) (by rfl) T.z_len B_len (pa_cons (pv 4) pa_nil)) (pe_callB (lenK K) (by rfl) T.z_len B_len (pa_cons (pe_ix (ixK K) (pv 0) pe_int (fun _ _ => rfl)) pa_nil)))) po_none) (pe_ix (ixK K) (pv 0) pe_int (fun _ _ => rfl)) (nomark _)))))))))))))), ?_⟩
    have hl := len_tl x
    cases c with
    | vowel =>
      cases hc with
      | @tup a xs _ ha hd =>
        cases hd with
        | cons h1 hr1 =>
          cases h1
          cases hr1
          walk_at "kk"
          refine lc_filtS (fun c => decide (c ∈ tl y)) (fun c => .str ⟨#[c]⟩) hx (by intro _; rfl) (fun c H1 hc s1 Q2 k2 => ?_) (fun c H1 hc s1 => EvS.of (by walk_at "val")) (fun D H' h1 h2 h3 => ?_)
          · walk_at "kk"
            exact k2 _ (Same.refl _)
          · walk_at "kk"
            intro l hl2
            dsimp only
            have e : (((tl x).filter fun c => decide (c ∈ tl y)).map fun c => V.str ⟨#[c]⟩) = (((tl x).filter fun c => decide (c ∈ tl y)).map fun c => (⟨#[c]⟩ : Str)).map V.str := by rw [List.map_map]; rfl
            rw [e] at h3
            refine k_neNil (fun t ht => ?_) (Evl.sq_of ((same_new hl2) _ _ h3)) (Evl.sq_of upd_same) ?_
            · obtain ⟨c, hc, rfl⟩ := List.mem_map.mp ht
              exact okS_one (hox c (List.mem_filter.mp hc).1)
            · have e2 : decide ((((tl x).filter fun c => decide (c ∈ tl y)).map fun c => (⟨#[c]⟩ : Str)) ≠ []) = met0 (tl y) (tl x) .vowel := by
                show _ = (tl x).any _
                generalize tl x = r
                induction r with
                | nil => rfl
                | cons a r ih =>
                  rw [List.any_cons, List.filter_cons]
                  by_cases h : a ∈ tl y
                  · simp [h]
                  · rw [if_neg (by simpa using h), ih]
                    simp [h]
              rw [e2]
              exact q _ (h2.trans (same_new hl2))
    | double => 
      cases hc with
      | @tup a xs _ ha hd =>
        cases hd with
        | cons h1 hr1 =>
          cases h1
          cases hr1
          walk_at "kk"
          refine k_ite (fun hb => ?_) (fun hb => ?_)
          · have hb := of_decide_eq_true hb
            have e0 : met0 (tl y) (tl x) .double = dbl (tl y) (tl x) := rfl
            rw [e0, dbl_long (by omega)] at q
            have s1 := last_sign (x := x) (k := 1) (by omega) (by omega)
            have s2 := last_sign (x := x) (k := 2) (by omega) (by omega)
            walk_at "kk"
            apply k_rv
            · exact rv_ixS (by omega) s1
            walk_at "kk"
            apply k_rv
            · exact rv_ixS (by omega) s2
            walk_at "kk"
            rw [sign_eq]
            refine k_ite (fun hb2 => ?_) (fun hb2 => ?_)
            · rw [hb2, Bool.true_and] at q
              walk_at "kk"
              apply k_rv
              · exact rv_ixS (by omega) s1
              walk_at "kk"
              have e : (!decide ((tl x).getD ((tl x).length - 1) 0 ∈ y.cps.toList)) = decide ((tl x).getD ((tl x).length - 1) 0 ∉ tl y) := by simp [tl]
              rw [e]
              exact q H (Same.refl H)
            · rw [hb2, Bool.false_and] at q
              exact q H (Same.refl H)
          · have hb := of_decide_eq_false hb
            have e0 : met0 (tl y) (tl x) .double = dbl (tl y) (tl x) := rfl
            rw [e0, dbl_short (by omega)] at q
            exact q H (Same.refl H)
    | runs m =>
      cases hc with
      | @tup a xs _ ha hd =>
        cases hd with
        | cons h1 hr1 =>
          cases h1
          cases hr1 with
          | cons h2 hr2 =>
            cases h2
            cases hr2
            walk_at "kk"
            refine ⟨x, y, rfl, hx, ?_⟩
            walk_at "kk"
            exact q H (Same.refl H)
    | least m =>
      cases hc with
      | @tup a xs _ ha hd =>
        cases hd with
        | cons h1 hr1 =>
          cases h1
          cases hr1 with
          | cons h2 hr2 =>
            cases h2
            cases hr2
            walk_at "kk"
            rw [hl]
            exact q H (Same.refl H)
    | shape z =>
      cases hc with
      | @tup a xs _ ha hd =>
        cases hd with
        | cons h1 hr1 =>
          cases h1
          cases hr1 with
          | cons h2 hr2 =>
            cases h2
            cases hr2
            walk_at "kk"
            have ev : ("v" : Str) = ⟨#[118]⟩ := by decide +kernel
            have eo : ("o" : Str) = ⟨#[111]⟩ := by decide +kernel
            refine lc_mapS (fun c => .str ⟨#[if c ∈ tl y then 118 else 111]⟩) hx (by intro _; rfl) (fun c H1 hc s1 => fun Q2 k2 => ?_) (fun D H' n1 s1 e1 => ?_)
            · walk_at "kk"
              refine k_ite (fun hb => ?_) (fun hb => ?_)
              · have hb : c ∈ tl y := of_decide_eq_true hb
                walk_at "kk"
                rw [ev]
                have k3 := k2 H1 (Same.refl _)
                rw [if_pos hb] at k3
                exact k3
              · have hb : c ∉ tl y := of_decide_eq_false hb
                walk_at "kk"
                rw [eo]
                have k3 := k2 H1 (Same.refl _)
                rw [if_neg hb] at k3
                exact k3
            · have hkl : (kinds (tl y) (tl x)).length = x.length := by rw [kinds_length, hl]
              have e3 : ((tl x).map fun c => V.str ⟨#[if c ∈ tl y then 118 else 111]⟩) = (singles (kinds (tl y) (tl x))).map V.str := by
                unfold singles kinds
                rw [List.map_map, List.map_map]
                rfl
              rw [e3] at e1
              refine k_joinL (Evl.sq_of e1) (join_cost _ (by omega)) ?_
              rw [join_singles]
              obtain ⟨kd, ekd, hkd⟩ : ∃ kd : Str, kd = mk (kinds (tl y) (tl x)) ∧ kd.length = x.length := ⟨_, rfl, by rw [len_mk, hkl]⟩
              rw [← ekd]
              have hz : z.length ≤ 50000 := hz
              have ha' : SqT K H' a [V.str "shape", V.str z] := Evl.ex_t s1 ha
              walk_at "kk"
              refine k_ite (fun hb => ?_) (fun hb => ?_)
              · have hb := of_decide_eq_true hb
                walk_at "kk"
                have ek : (kd.length : Int) - (z.length : Int) = ((kd.length - z.length : Nat) : Int) := by omega
                rw [ek, tl_cut_from (by omega)]
                walk_at "kk"
                have e4 : decide (mk ((tl kd).drop (kd.length - z.length)) = z) = met0 (tl y) (tl x) (.shape z) := by
                  show _ = suff (tl z) (kinds (tl y) (tl x))
                  have hzl := len_tl z
                  unfold suff
                  rw [decide_eq_true (show (tl z).length ≤ (kinds (tl y) (tl x)).length by omega), Bool.true_and]
                  have ek2 : tl kd = kinds (tl y) (tl x) := by rw [ekd, tl_mk']
                  have ek3 : kd.length - z.length = (kinds (tl y) (tl x)).length - (tl z).length := by omega
                  rw [ek2, ek3]
                  refine decide_eq_decide.mpr ⟨fun e => ?_, fun e => ?_⟩
                  · have e5 := congrArg tl e
                    rw [tl_mk'] at e5
                    exact e5
                  · refine ext_tl ?_
                    rw [tl_mk']
                    exact e
                rw [e4]
                exact q _ s1
              · have hb := of_decide_eq_false hb
                have e4 : met0 (tl y) (tl x) (.shape z) = false := by
                  show suff (tl z) (kinds (tl y) (tl x)) = false
                  have hzl := len_tl z
                  unfold suff
                  rw [decide_eq_false (show ¬ (tl z).length ≤ (kinds (tl y) (tl x)).length by omega)]
                  rfl
                rw [e4] at q
                exact q _ s1
    | ends ts =>
      cases hc with
      | @tup a xs _ ha hd =>
        cases hd with
        | cons h1 hr1 =>
          cases h1
          cases hr1 with
          | @cons v2 _ _ _ h2 hr2 =>
            cases h2 with
            | @tup a2 xs2 _ ha2 hd2 =>
              cases hr2
              have e2 := strs_dp hd2
              subst e2
              walk_at "kk"
              refine k_onT ha2 (lc_filtT (fun v => match v with | .str t => suff (tl t) (tl x) | _ => false) (fun v => v) ha2 (by rw [List.length_map]; exact hz.1) (by intro _; rfl) (fun v H1 hv s1 Q2 k2 => ?_) (fun v H1 hv s1 => EvS.of (by walk_at "val")) (fun D H' n1 s1 e1 => ?_))
              · obtain ⟨t, ht, rfl⟩ := List.mem_map.mp hv
                have htl : t.length ≤ 50000 := hz.2 t ht
                walk_at "kk"
                have ek : (if (x.length : Int) - (t.length : Int) > 0 then (x.length : Int) - (t.length : Int) else 0) = ((x.length - t.length : Nat) : Int) := by split <;> omega
                rw [ek, tl_cut_from (by omega)]
                walk_at "kk"
                have e4 : decide (mk ((tl x).drop (x.length - t.length)) = t) = suff (tl t) (tl x) := by
                  have htl2 := len_tl t
                  unfold suff
                  by_cases hle : t.length ≤ x.length
                  · rw [decide_eq_true (show (tl t).length ≤ (tl x).length by omega), Bool.true_and]
                    refine decide_eq_decide.mpr ⟨fun e => ?_, fun e => ?_⟩
                    · have e5 := congrArg tl e
                      rw [tl_mk'] at e5
                      rw [← hl, ← htl2]
                      exact e5
                    · refine ext_tl ?_
                      rw [tl_mk', hl, htl2]
                      exact e
                  · rw [decide_eq_false (show ¬ (tl t).length ≤ (tl x).length by omega), Bool.false_and]
                    refine decide_eq_false fun e => ?_
                    have e5 := congrArg (fun z => (tl z).length) e
                    rw [tl_mk', List.length_drop] at e5
                    omega
                rw [e4]
                exact k2 _ (Same.refl _)
              · walk_at "kk"
                intro l hl2
                dsimp only
                have e3 : (((ts.map V.str).filter fun v => match v with | .str t => suff (tl t) (tl x) | _ => false).map fun v => v) = (ts.filter fun t => suff (tl t) (tl x)).map V.str := by
                  rw [List.map_id', List.filter_map]
                  rfl
                rw [e3] at e1
                refine k_neNil (fun t ht => hw t (List.mem_filter.mp ht).1) (Evl.sq_of ((same_new hl2) _ _ e1)) (Evl.sq_of upd_same) ?_
                have e4 : decide ((ts.filter fun t => suff (tl t) (tl x)) ≠ []) = met0 (tl y) (tl x) (.ends ts) := by
                  show _ = ts.any _
                  clear hw hz ho ha2 hd2 ha q e1 e3 n1 s1
                  induction ts with
                  | nil => rfl
                  | cons t r ih =>
                    rw [List.any_cons, List.filter_cons]
                    by_cases h : suff (tl t) (tl x) = true
                    · simp [h]
                    · rw [if_neg h, ih]
                      simp [h]
                rw [e4]
                exact q _ (s1.trans (same_new hl2))
def spLhN (K : PySem.W.Frag) : Sp := fun vs H Q _ => ∃ (v : V) (c : C0) (x y : Str), vs = [v, .str x, .str y] ∧ Dp K H v (.tuple [.str "not", enc0 c]) ∧ ok0 c ∧ sz0 c ∧ ow0 c ∧ x.length ≤ 50000 ∧ okS x ∧ ∀ H', Same H H' → Q (.bl (!met0 (tl y) (tl x) c)) H'
theorem ok_law_holdsN (T : Txt K mg) : FnOk P w K mg base CX0 3 T.a_law_holds T.fd_law_holds ["wish", "ahead", "soft"] (spLhN K) := by
  have ok_law_holds : ∀ T : Txt K mg, FnOk P w K mg base CX0 2 T.a_law_holds T.fd_law_holds ["wish", "ahead", "soft"] (spLhP K) := ok_law_holds1
  refine T.F_law_holds.ok sc_law_holds (fun vs H Q E h => ?_) (fun cdv A outer s H vs Q E hr h => ?_)
  · obtain ⟨v, c, x, y, rfl, _⟩ := h
    rfl
  · obtain ⟨v, c, x, y, rfl, hc, ho, hz, hw, hx, hox, q⟩ := h
    refine ⟨_, (pss_cons (ps_set (i := 3) sc_law_holds.nd rfl (Or.inl rfl) (pe_ix (ixK K) (pv 0) pe_int (fun _ _ => rfl)))
      (pss_cons (ps_if (pt_cmpR (eqK K hr) (pv 3) pe_str (nomark _)) (pss_one (ps_ret (pe_not (pe_call (ok_law_holds T) (hr.mono (by decide)) (by rfl) T.m_law_holds T.F_law_holds.kp T.b_law_holds .nil pass0 (pa_cons (pe_ix (ixK K) (pv 0) pe_int (fun _ _ => rfl)) (pa_cons (pv 1) (pa_cons (pv 2) pa_nil))))))) pss_nil)
      (pss_cons (ps_if (pt_cmpR (eqK K hr) (pv 3) pe_str (nomark _)) (pss_one (ps_ret (pe_cmpR (neK K hr) (pe_lc (own := [("one", 5)]) (by rfl) sc_law_holds.nd (pi_str (pv 1)) (blkOk_by (N := ["wish", "ahead", "soft", "kind", "kinds", "one", "text"]) (sc := defScope s_law_holds) (by decide +kernel)) (fun _ _ _ _ _ => (pg_name (i := 5) sc_law_holds.nd rfl (Or.inl rfl))) (fun _ _ _ _ _ => (pts_one (pt_cmpR op_inC (pv 5) (pv 2) (by rfl)))) (fun _ _ _ _ _ => (pv 5))) (pe_lst pa_nil) (nomark _)))) pss_nil)
      (pss_cons (ps_if (pt_cmpR (eqK K hr) (pv 3) pe_str (nomark _)) (pss_one (ps_ret (pe_cmpR op_geA (pe_call (ok_law_runs T) (hr.mono (by decide)) (by rfl) T.m_law_runs T.F_law_runs.kp T.b_law_runs .nil pass0 (pa_cons (pv 1) (pa_cons (pv 2) pa_nil))) (pe_ix (ixK K) (pv 0) pe_int (fun _ _ => rfl)) (nomark _)))) pss_nil)
      (pss_cons (ps_if (pt_cmpR (eqK K hr) (pv 3) pe_str (nomark _)) (pss_one (ps_ret (pe_cmpR (neK K hr) (pe_lc (own := [("text", 6)]) (by rfl) sc_law_holds.nd (tupIK K (pe_ix (ixK K) (pv 0) pe_int (fun _ _ => rfl))) (blkOk_by (N := ["wish", "ahead", "soft", "kind", "kinds", "one", "text"]) (sc := defScope s_law_holds) (by decide +kernel)) (fun _ _ _ _ _ => (pg_name (i := 6) sc_law_holds.nd rfl (Or.inl rfl))) (fun _ _ _ _ _ => (pts_one (pt_cmpR (eqK K hr) (pe_slice (slK K) (pv 1) (po_some (pe_callB (call_maxA rfl) (by rfl) T.z_max B_max (pa_cons pe_int (pa_cons (pe_op op_subA (pe_callB (lenK K) (by rfl) T.z_len B_len (pa_cons (pv 1) pa_nil)) (pe_callB (lenK K) (by rfl) T.z_len B_len (pa_cons (pv 6) pa_nil))) pa_nil)))) po_none) (pv 6) (nomark _)))) (fun _ _ _ _ _ => (pv 6))) (pe_lst pa_nil) (nomark _)))) pss_nil)
      (pss_cons (ps_if (pt_cmpR (eqK K hr) (pv 3) pe_str (nomark _)) (pss_one (ps_ret (pe_and (pe_cmpR op_gtA (pe_callB (lenK K) (by rfl) T.z_len B_len (pa_cons (pv 1) pa_nil)) pe_int (nomark _)) (pe_and (pe_cmpR (eqK K hr) (pe_ix (ixK K) (pv 1) (pe_un un_negA pe_int) (fun _ _ => rfl)) (pe_ix (ixK K) (pv 1) (pe_un un_negA pe_int) (fun _ _ => rfl)) (nomark _)) (pe_one (pe_cmpR op_notInC (pe_ix (ixK K) (pv 1) (pe_un un_negA pe_int) (fun _ _ => rfl)) (pv 2) (by rfl))))))) pss_nil)
      (pss_cons (ps_if (pt_cmpR (eqK K hr) (pv 3) pe_str (nomark _)) (pss_one (ps_ret (pe_cmpR op_geA (pe_callB (lenK K) (by rfl) T.z_len B_len (pa_cons (pv 1) pa_nil)) (pe_ix (ixK K) (pv 0) pe_int (fun _ _ => rfl)) (nomark _)))) pss_nil)
      (pss_cons (ps_set (i := 4) sc_law_holds.nd rfl (Or.inl rfl) (joinK K pe_str (pe_lc (own := [("one", 5)]) (by rfl) sc_law_holds.nd (pi_str (pv 1)) (blkOk_by (N := ["wish", "ahead", "soft", "kind", "kinds", "one", "text"]) (sc := defScope s_law_holds) (by decide +kernel)) (fun _ _ _ _ _ => (pg_name (i := 5) sc_law_holds.nd rfl (Or.inl rfl))) (fun _ _ _ _ _ => pts_nil) (fun _ _ _ _ _ => (pe_ifExp (pt_cmpR op_inC (pv 5) (pv 2) (by rfl)) pe_str pe_str)))))
      (pss_one (ps_ret (pe_and (pe_cmpR op_geA (pe_callB (lenK K) (by rfl) T.z_len B_len (pa_cons (pv 4) pa_nil)) (pe_callB (lenK K) (by rfl) T.z_len B_len (pa_cons (pe_ix (ixK K) (pv 0) pe_int (fun _ _ => rfl)) pa_nil)) (nomark _)) (pe_one (pe_cmpR (eqK K hr) (pe_slice (slK K) (pv 4) (po_some (pe_op op_subA (pe_callB (lenK K) (by rfl) T.z_len B_len (pa_cons (pv 4) pa_nil)) (pe_callB (lenK K) (by rfl) T.z_len B_len (pa_cons (pe_ix (ixK K) (pv 0) pe_int (fun _ _ => rfl)) pa_nil)))) po_none) (pe_ix (ixK K) (pv 0) pe_int (fun _ _ => rfl)) (nomark _)))))))))))))), ?_⟩
    cases hc with
    | @tup a xs _ ha hd =>
      cases hd with
      | cons h1 hr1 =>
        cases h1
        cases hr1 with
        | @cons v2 _ _ _ h2 hr2 =>
          cases hr2
          walk_at "kk"
          refine ⟨_, c, x, y, rfl, h2, ho, hz, hw, hx, hox, fun H' s1 => ?_⟩
          walk_at "kk"
          exact q H' s1
def spLh (K : PySem.W.Frag) : Sp := fun vs H Q _ => ∃ (v : V) (c : Cond) (x y : Str), vs = [v, .str x, .str y] ∧ Dp K H v (enc c) ∧ okc c ∧ szc c ∧ owc c ∧ x.length ≤ 50000 ∧ okS x ∧ ∀ H', Same H H' → Q (.bl (met (tl y) (tl x) c)) H'
theorem ok_law_holds (T : Txt K mg) : FnOk P w K mg base CX0 3 T.a_law_holds T.fd_law_holds ["wish", "ahead", "soft"] (spLh K) := by
  refine ⟨fun vs H Q E h => ?_, fun A outer s H args us vs Q E hr he hb hv h => ?_⟩
  · obtain ⟨v, c, x, y, rfl, _⟩ := h
    rfl
  · obtain ⟨v, c, x, y, rfl, hc, ho, hz, hw, hx, hox, q⟩ := h
    cases c with
    | pos c => exact ((ok_law_holds1 T).mono (by decide)).run A outer s H args us _ Q E hr he hb hv ⟨v, c, x, y, rfl, hc, ho, hz, hw, hx, hox, q⟩
    | neg c => exact (ok_law_holdsN T).run A outer s H args us _ Q E hr he hb hv ⟨v, c, x, y, rfl, hc, ho, hz, hw, hx, hox, q⟩
end
end K01
set_option Elab.async false
set_option linter.all false
set_option maxRecDepth 100000
set_option maxHeartbeats 4000000
namespace K01
open PySem PySem.Spec PyProof.Rows L2 TL Mi
/-! ### short words -/
local macro_rules | `(tactic| walk_at "idx") => `(tactic| first | assumption | exact Evl.sq_of (by assumption) | exact Evl.st_of (by assumption) | exact Evl.sq_of upd_same | exact Evl.st_of upd_same)
local macro_rules | `(tactic| walk_at "side") => `(tactic| first | omega | exact Or.inl ⟨by omega, by omega⟩ | exact Or.inr ⟨by omega, by omega⟩ | exact ⟨by omega, by omega⟩ | decide +kernel)
local macro_rules | `(tactic| walk_at "div") => `(tactic| exact wide_div (b := 30) (by omega) (by omega) (by decide) (by decide))
local macro_rules | `(tactic| walk_at "pow") => `(tactic| exact ⟨by decide +kernel, by decide +kernel, by decide +kernel⟩)
local macro_rules | `(tactic| walk_at "rv") => `(tactic| first
  | with_reducible exact rv_addI | with_reducible exact rv_sub | with_reducible exact rv_lt | with_reducible exact rv_le | with_reducible exact rv_gt | with_reducible exact rv_ge
  | with_reducible exact rv_inC | with_reducible exact rv_notInC | with_reducible exact rv_isB
  | (with_reducible apply rv_mul
     walk_at "side")
  | (with_reducible apply rv_mod
     walk_at "side")
  | (with_reducible apply rv_div
     walk_at "div")
  | (with_reducible apply rv_pow
     walk_at "pow")
  | (with_reducible apply rv_eq
     exact rfl)
  | (with_reducible apply rv_ne
     exact rfl)
  | (with_reducible apply rv_ixL
     · walk_at "idx"
     · exact rfl)
  | (with_reducible apply rv_ixT
     · walk_at "idx"
     · exact rfl)
  | (with_reducible apply rv_ixS
     · walk_at "side"
     · exact rfl)
  | (with_reducible apply rv_addS
     walk_at "side"))
local macro_rules | `(tactic| walk_at "val") => `(tactic| first
  | with_reducible exact val_c | exact val_c
  | (with_reducible apply val_var
     exact rfl)
  | (with_reducible apply val_bin
     · walk_at "val"
     · walk_at "val"
     · walk_at "rv")
  | (with_reducible apply val_int1
     walk_at "val")
  | (with_reducible apply val_max2
     · walk_at "val"
     · walk_at "val")
  | (with_reducible apply val_min2
     · walk_at "val"
     · walk_at "val")
  | (with_reducible apply val_endsw
     · walk_at "val"
     · walk_at "val")
  | (with_reducible apply val_lenS
     · walk_at "val"
     · walk_at "side")
  | (with_reducible apply val_lenL
     · walk_at "val"
     · walk_at "idx")
  | (with_reducible apply val_lenT
     · walk_at "val"
     · walk_at "idx")
  | (with_reducible apply val_notV
     walk_at "val"))
local macro_rules | `(tactic| walk_at "ans") => `(tactic| first
  | (with_reducible apply ans_T
     walk_at "val")
  | (with_reducible apply ans_B
     walk_at "val")
  | (with_reducible apply ans_not
     walk_at "ans"))
local macro_rules | `(tactic| walk_at "ifp") => `(tactic| first
  | (with_reducible refine Eq.mpr (if_pos ?_) ?_
     · decide +kernel)
  | (with_reducible refine Eq.mpr (if_neg ?_) ?_
     · decide +kernel))
local macro_rules | `(tactic| walk_at "k") => `(tactic| first
  | with_reducible apply k_seq | with_reducible apply k_asg | with_reducible apply k_ret | with_reducible apply k_ifS | with_reducible apply k_drop | with_reducible apply k_name
  | (with_reducible apply k_var
     · exact rfl)
  | with_reducible apply k_c
  | with_reducible apply k_op | with_reducible apply k_cb | with_reducible apply k_call | with_reducible apply k_cons | with_reducible apply k_nil | with_reducible apply k_tup | with_reducible apply k_lst
  | with_reducible apply k_ifE | with_reducible apply k_test | with_reducible apply k_tb | with_reducible apply k_not | with_reducible apply k_and | with_reducible apply k_or | with_reducible apply k_bl
  | with_reducible apply k_sl | with_reducible apply k_part | with_reducible apply k_isI | with_reducible apply k_nopart
  | with_reducible apply k_lcZS | with_reducible apply k_onZS | with_reducible apply k_un | with_reducible apply k_neg
  | with_reducible apply k_lcS | with_reducible apply k_lcR | with_reducible apply k_lcL | with_reducible apply k_lcT | with_reducible apply k_forS | with_reducible apply k_forR | with_reducible apply k_forL | with_reducible apply k_forT | with_reducible apply k_onS | with_reducible apply k_yes
  | (with_reducible apply k_augC
     · exact rfl)
  | with_reducible apply k_next | with_reducible apply k_eqInt | with_reducible apply k_neInt | with_reducible apply k_eqStr | with_reducible apply k_neStr
  | with_reducible apply k_andV | with_reducible apply k_orV | with_reducible apply k_notV
  | with_reducible apply k_m1 | with_reducible apply k_onStr | with_reducible apply k_endsw
  | (with_reducible apply k_slS
     · walk_at "side")
  | (with_reducible apply k_newT
     · walk_at "len")
  | (with_reducible apply k_newL
     · walk_at "len")
  | with_reducible apply k_int1 | with_reducible apply k_max2 | with_reducible apply k_min2
  | (with_reducible apply k_lenS
     · walk_at "side")
  | (with_reducible apply k_lenL
     · walk_at "idx")
  | (with_reducible apply k_lenT
     · walk_at "idx")
  | (with_reducible apply k_rv
     · walk_at "rv")
  | walk_at "ifp")
local macro_rules | `(tactic| walk_at "kk") => `(tactic| (repeat (walk_at "k")))
local macro_rules | `(tactic| walk_at "len") => `(tactic| first | exact (by decide : (1:Nat) ≤ 100000) | exact (by decide : (2:Nat) ≤ 100000) | exact (by decide : (3:Nat) ≤ 100000) | exact (by decide : (4:Nat) ≤ 100000) | exact (by decide : (7:Nat) ≤ 100000) | (simp only [List.length_cons, List.length_nil]; omega) | omega)
local macro_rules | `(tactic| walk_at "up") => `(tactic| first
  | assumption
  | (refine Dq.up ?_ (Gr.new (by assumption))
     walk_at "up")
  | (refine Dq.up ?_ (by assumption)
     walk_at "up"))

local macro_rules | `(tactic| walk_at "lit") => `(tactic| first
  | with_reducible exact lit_str | with_reducible exact lit_int | with_reducible exact lit_bl | with_reducible exact lit_non | with_reducible exact lit_neg | with_reducible exact lit_nil | with_reducible exact lit_dic
  | (with_reducible apply lit_cons
     · walk_at "lit"
     · walk_at "lit")
  | (with_reducible apply lit_tup
     · walk_at "lit"
     · decide)
  | (with_reducible apply lit_lst
     · walk_at "lit"
     · decide))
section
variable {P : Program} {w : World} {K : PySem.W.Frag} {mg : Str → Option Value} {base : Heap}
def szb : PyData → Bool
  | .str x => decide (x.length ≤ 50000)
  | .tuple ds => decide (ds.length ≤ 50000)
  | _ => true
theorem szb_ok {d : PyData} (h : szb d = true) : szd d := by
  cases d with
  | str x => exact (of_decide_eq_true h : x.length ≤ 50000)
  | tuple ds => exact (of_decide_eq_true h : ds.length ≤ 50000)
  | _ => trivial
def deepB : PyData → Bool
  | .tuple ds => SeqAt.shaped (.tuple ds) && (ds.all szb && (match ds with
    | [_, .tuple es] => es.all szb
    | _ => true))
  | _ => true
def plainB : PyData → Bool
  | .dict [] => true
  | d => !d.hasDict
def oddB (d : PyData) : Bool := !isCd d && (plainB d && deepB d)
theorem plainB_ok {d : PyData} (h : plainB d = true) : d = .dict [] ∨ d.hasDict = false := by
  unfold plainB at h
  split at h
  · exact .inl rfl
  · exact .inr (by simpa using h)
theorem deepB_ok {d : PyData} (h : deepB d = true) : shT d ∧ szc2 d := by
  cases d with
  | tuple ds =>
    have h' := Bool.and_eq_true_iff.mp h
    have h2 := Bool.and_eq_true_iff.mp h'.2
    refine ⟨fun es e => e ▸ h'.1, fun es e x hx => ?_, fun a b e es eb x hx => ?_⟩
    · cases e
      exact szb_ok (List.all_eq_true.mp h2.1 x hx)
    · cases e
      cases eb
      exact szb_ok (List.all_eq_true.mp h2.2 x hx)
  | _ => exact ⟨(fun _ e => nomatch e), (fun _ e => nomatch e), (fun _ _ e => nomatch e)⟩
theorem oddB_ok {d : PyData} (h : oddB d = true) : isCd d = false ∧ (d = .dict [] ∨ d.hasDict = false) ∧ shT d ∧ szc2 d := by
  have h1 := Bool.and_eq_true_iff.mp h
  have h2 := Bool.and_eq_true_iff.mp h1.2
  have h3 := deepB_ok h2.2
  exact ⟨by simpa using h1.1, plainB_ok h2.1, h3.1, h3.2⟩
def bads : List PyData := [.none, .int 5, .tuple [.str "a"], .list [.str "a"], .bool true, .dict []]
def toldD (b w : PyData) : List PyData := [.list [.str "conditions", .none], .list [.str "text", b], .list [.str "text", w]]
def toldB (b w : PyData) : Bool := (PyData.list (toldD b w)).showable && (decide ((PyData.list (toldD b w)).shown.length ≤ 1000) && decide ((PyData.list (toldD b w)).depth ≤ 40))
theorem told_ok : ∀ b ∈ bads, ∀ w ∈ bads, toldB b w = true := fun b hb w hw => List.all_eq_true.mp (List.all_eq_true.mp (by decide +kernel : (bads.all fun b => bads.all fun w => toldB b w) = true) b hb) w hw
theorem bad_plain : ∀ b ∈ bads, (!isStrD b && plainB b) = true := List.all_eq_true.mp (by decide +kernel)
theorem Pu.same {H H' : Hp} {p : Addr} {n : Nat} (h : Pu H p n) (s : Same H H') : Pu H' p n := by
  obtain ⟨a, b, k, e, r⟩ := h
  exact ⟨a, b, k, s _ _ e, r⟩
def spDoors : Sp := fun vs H Q _ => ∃ (p : Addr) (n : Nat), vs = [.ref p] ∧ Pu H p n ∧ n < 2 ^ 39 ∧ ∀ H', Gr [p] H H' → Pu H' p (n + 10) → Q (.bl true) H'
theorem ok_law_doors_right (T : Txt K mg) : FnG P w K mg base 6 T.a_law_doors_right T.fd_law_doors_right ["purse"] spDoors := by
  refine T.F_law_doors_right.okG sc_law_doors_right (fun vs H Q E h => ?_) (fun cdv A outer s H vs Q E gd hr h => ?_)
  · obtain ⟨p, n, rfl, _⟩ := h
    rfl
  · obtain ⟨p, n, rfl, hp, hn, q⟩ := h
    refine ⟨_, (pss_cons (ps_set (i := 1) sc_law_doors_right.nd rfl (Or.inl rfl) (pe_lst (pa_cons pe_non (pa_cons pe_str (pa_cons (pe_tup pa_nil) (pa_cons (pe_tup (pa_cons pe_str (pa_cons pe_int pa_nil))) (pa_cons (pe_tup (pa_cons pe_str pa_nil)) (pa_cons (pe_tup (pa_cons pe_str pa_nil)) (pa_cons (pe_tup (pa_cons pe_str (pa_cons (pe_un un_negA pe_int) pa_nil))) (pa_cons (pe_tup (pa_cons pe_str (pa_cons pe_bl pa_nil))) (pa_cons (pe_tup (pa_cons pe_str (pa_cons pe_str pa_nil))) pa_nil)))))))))))
      (pss_cons (ps_set (i := 1) sc_law_doors_right.nd rfl (Or.inl rfl) (pe_op (addK K) (pv 1) (pe_lst (pa_cons (pe_tup (pa_cons pe_str (pa_cons (pe_lst (pa_cons pe_str pa_nil)) pa_nil))) (pa_cons (pe_tup (pa_cons pe_str (pa_cons pe_str pa_nil))) (pa_cons (pe_tup (pa_cons pe_str (pa_cons (pe_tup (pa_cons pe_int pa_nil)) pa_nil))) (pa_cons (pe_tup (pa_cons pe_str (pa_cons (pe_tup (pa_cons pe_str (pa_cons pe_non pa_nil))) pa_nil))) (pa_cons (pe_tup (pa_cons pe_str (pa_cons pe_str pa_nil))) pa_nil))))))))
      (pss_cons (ps_set (i := 1) sc_law_doors_right.nd rfl (Or.inl rfl) (pe_op (addK K) (pv 1) (pe_lst (pa_cons (pe_tup (pa_cons pe_str (pa_cons pe_non pa_nil))) (pa_cons (pe_tup (pa_cons pe_str (pa_cons pe_str pa_nil))) (pa_cons (pe_tup (pa_cons pe_str (pa_cons pe_non pa_nil))) (pa_cons (pe_tup (pa_cons pe_str pa_nil)) (pa_cons (pe_tup (pa_cons pe_str (pa_cons (pe_tup (pa_cons pe_str (pa_cons (pe_tup (pa_cons pe_str pa_nil)) pa_nil))) pa_nil))) pa_nil))))))))
      (pss_cons (ps_set (i := 1) sc_law_doors_right.nd rfl (Or.inl rfl) (pe_op (addK K) (pv 1) (pe_lst (pa_cons (pe_tup (pa_cons pe_str pa_nil)) (pa_cons (pe_tup (pa_cons pe_str (pa_cons pe_str pa_nil))) (pa_cons (pe_tup (pa_cons pe_str (pa_cons (pe_tup (pa_cons pe_str pa_nil)) (pa_cons pe_int pa_nil)))) (pa_cons (pe_lst (pa_cons pe_str pa_nil)) (pa_cons pe_dnewK (pa_cons pe_int (pa_cons (pe_tup (pa_cons pe_non pa_nil)) (pa_cons (pe_tup (pa_cons (pe_lst (pa_cons pe_str pa_nil)) pa_nil)) pa_nil)))))))))))
      (pss_cons (ps_set (i := 1) sc_law_doors_right.nd rfl (Or.inl rfl) (pe_op (addK K) (pv 1) (pe_lst (pa_cons (pe_tup (pa_cons pe_str (pa_cons pe_non pa_nil))) (pa_cons (pe_tup (pa_cons pe_str (pa_cons (pe_tup (pa_cons pe_str pa_nil)) pa_nil))) (pa_cons (pe_tup (pa_cons pe_str (pa_cons (pe_tup (pa_cons pe_int pa_nil)) pa_nil))) (pa_cons (pe_tup (pa_cons pe_str (pa_cons (pe_un un_negA pe_int) pa_nil))) (pa_cons (pe_tup (pa_cons pe_str (pa_cons pe_bl pa_nil))) (pa_cons (pe_tup (pa_cons pe_str (pa_cons pe_int (pa_cons pe_int pa_nil)))) pa_nil)))))))))
      (pss_cons (ps_set (i := 1) sc_law_doors_right.nd rfl (Or.inl rfl) (pe_op (addK K) (pv 1) (pe_lst (pa_cons (pe_tup (pa_cons pe_str (pa_cons pe_int (pa_cons pe_int pa_nil)))) (pa_cons (pe_tup (pa_cons pe_str (pa_cons pe_str (pa_cons pe_str pa_nil)))) (pa_cons (pe_tup (pa_cons pe_str (pa_cons (pe_tup (pa_cons pe_str (pa_cons (pe_un un_negA pe_int) pa_nil))) pa_nil))) (pa_cons (pe_tup (pa_cons pe_str (pa_cons (pe_tup (pa_cons pe_str (pa_cons pe_str pa_nil))) pa_nil))) (pa_cons (pe_tup (pa_cons pe_str (pa_cons (pe_tup pa_nil) pa_nil))) pa_nil))))))))
      (pss_cons (ps_set (i := 1) sc_law_doors_right.nd rfl (Or.inl rfl) (pe_op (addK K) (pv 1) (pe_lst (pa_cons (pe_tup (pa_cons pe_str (pa_cons (pe_tup (pa_cons pe_str (pa_cons pe_non pa_nil))) pa_nil))) (pa_cons (pe_tup (pa_cons pe_str (pa_cons (pe_lst (pa_cons pe_str pa_nil)) pa_nil))) (pa_cons (pe_tup (pa_cons pe_str (pa_cons pe_int pa_nil))) (pa_cons (pe_tup (pa_cons pe_str (pa_cons (pe_tup (pa_cons pe_str pa_nil)) (pa_cons (pe_tup (pa_cons pe_str pa_nil)) pa_nil)))) (pa_cons (pe_tup (pa_cons pe_str pa_nil)) pa_nil))))))))
      (pss_cons (ps_set (i := 2) sc_law_doors_right.nd rfl (Or.inl rfl) (pe_ix (ixK K) (pv 1) (pe_call (ok_law_draw T) (hr.mono (by decide)) (by rfl) T.m_law_draw T.F_law_draw.kp T.b_law_draw .nil pass0 (pa_cons (pv 0) (pa_cons (pe_callB (lenK K) (by rfl) T.z_len B_len (pa_cons (pv 1) pa_nil)) pa_nil))) (fun _ _ => rfl)))
      (pss_cons (ps_asg (pe_lc (own := [("turn", 6)]) (by rfl) sc_law_doors_right.nd (pi_range1 (by rfl) T.z_range (pa_cons pe_int pa_nil)) (blkOk_by (N := ["purse", "odd", "item", "bad", "wrong", "told", "turn"]) (sc := defScope s_law_doors_right) (by decide +kernel)) (fun _ _ _ _ _ => (pg_name (i := 6) sc_law_doors_right.nd rfl (Or.inl rfl))) (fun _ _ _ _ _ => pts_nil) (fun _ _ _ _ _ => (pe_ix (ixK K) (pe_lst (pa_cons pe_non (pa_cons pe_int (pa_cons (pe_tup (pa_cons pe_str pa_nil)) (pa_cons (pe_lst (pa_cons pe_str pa_nil)) (pa_cons pe_bl (pa_cons pe_dnewK pa_nil))))))) (pe_call (ok_law_draw T) (hr.mono (by decide)) (by rfl) T.m_law_draw T.F_law_draw.kp T.b_law_draw .nil pass0 (pa_cons (pv 0) (pa_cons pe_int pa_nil))) (fun _ _ => rfl)))) (listUK K (n := 2) rfl (pgs_cons (pg_name (i := 3) sc_law_doors_right.nd rfl (Or.inl rfl)) (pgs_cons (pg_name (i := 4) sc_law_doors_right.nd rfl (Or.inl rfl)) pgs_nil))))
      (pss_cons (ps_if (PW.pt (pw_or (pt_cmpR op_isnot_blA (pe_call (ok_is_condition T) (hr.mono (by decide)) (by rfl) T.m_is_condition T.F_is_condition.kp T.b_is_condition .nil pass0 (pa_cons (pv 2) pa_nil)) pe_bl (nomark _)) (pw_or1 (pt_cmpR op_isnot_blA (pe_callK0 (ok_is_condition T) (hr.mono (by decide)) (by rfl) T.m_is_condition T.F_is_condition.kp T.kb_is_condition_0_thing pass0 (pk_cons (pv 2) pk_nil)) pe_bl (nomark _))))) (pss_one (ps_ret pe_bl)) pss_nil)
      (pss_cons (ps_set (i := 5) sc_law_doors_right.nd rfl (Or.inl rfl) (pe_lst (pa_cons (pe_call (ok_law_caught T) (hr.mono (by decide)) (by rfl) T.m_law_caught T.F_law_caught.kp T.b_law_caught .nil pass0 (pa_cons (pv 2) (pa_cons (pv 3) (pa_cons (pv 4) pa_nil)))) (pa_cons (pe_call (ok_law_caught T) (hr.mono (by decide)) (by rfl) T.m_law_caught T.F_law_caught.kp T.b_law_caught .nil pass0 (pa_cons (pe_tup (pa_cons pe_str pa_nil)) (pa_cons (pv 3) (pa_cons (pv 4) pa_nil)))) (pa_cons (pe_call (ok_law_caught T) (hr.mono (by decide)) (by rfl) T.m_law_caught T.F_law_caught.kp T.b_law_caught .nil pass0 (pa_cons (pe_tup (pa_cons pe_str pa_nil)) (pa_cons pe_str (pa_cons (pv 4) pa_nil)))) pa_nil)))))
      (pss_one (ps_ret (pe_cmpR (eqK K hr) (pe_callTy (strLK hr gd) (by rfl) T.z_str B_str (pa_cons (pv 5) pa_nil)) (pe_callTy (strLK hr gd) (by rfl) T.z_str B_str (pa_cons (pe_lst (pa_cons (pe_lst (pa_cons pe_str (pa_cons pe_non pa_nil))) (pa_cons (pe_lst (pa_cons pe_str (pa_cons (pv 3) pa_nil))) (pa_cons (pe_lst (pa_cons pe_str (pa_cons (pv 4) pa_nil))) pa_nil)))) pa_nil)) (nomark _))))))))))))))), ?_⟩
    have lv : Live [p] H := fun a ha => by
      rw [List.mem_singleton.mp ha]
      obtain ⟨_, _, _, e, _⟩ := hp
      rw [e]
      simp
    apply k_seq
    apply k_asg
    apply k_lit (S := [p])
    · walk_at "lit"
    · exact lv
    intro v H1 s1 d1
    obtain ⟨a1, xs1, rfl, na1, e1, d1⟩ := d1.lstAt
    walk_at "k"
    walk_at "k"
    apply k_asg
    apply k_more (S := [p]) (a := a1) (xs := xs1)
    · walk_at "lit"
    · exact lv.same s1
    · exact rfl
    · exact e1
    · exact na1
    · exact d1
    · decide
    intro a2 H2 xs2 s' na2 e2 d2
    have s2 := s1.trans s'
    dsimp only [List.append, List.cons_append, List.nil_append] at d2
    walk_at "k"
    walk_at "k"
    apply k_asg
    apply k_more (S := [p]) (a := a2) (xs := xs2)
    · walk_at "lit"
    · exact lv.same s2
    · exact rfl
    · exact e2
    · exact na2
    · exact d2
    · decide
    intro a3 H3 xs3 s' na3 e3 d3
    have s3 := s2.trans s'
    dsimp only [List.append, List.cons_append, List.nil_append] at d3
    walk_at "k"
    walk_at "k"
    apply k_asg
    apply k_more (S := [p]) (a := a3) (xs := xs3)
    · walk_at "lit"
    · exact lv.same s3
    · exact rfl
    · exact e3
    · exact na3
    · exact d3
    · decide
    intro a4 H4 xs4 s' na4 e4 d4
    have s4 := s3.trans s'
    dsimp only [List.append, List.cons_append, List.nil_append] at d4
    walk_at "k"
    walk_at "k"
    apply k_asg
    apply k_more (S := [p]) (a := a4) (xs := xs4)
    · walk_at "lit"
    · exact lv.same s4
    · exact rfl
    · exact e4
    · exact na4
    · exact d4
    · decide
    intro a5 H5 xs5 s' na5 e5 d5
    have s5 := s4.trans s'
    dsimp only [List.append, List.cons_append, List.nil_append] at d5
    walk_at "k"
    walk_at "k"
    apply k_asg
    apply k_more (S := [p]) (a := a5) (xs := xs5)
    · walk_at "lit"
    · exact lv.same s5
    · exact rfl
    · exact e5
    · exact na5
    · exact d5
    · decide
    intro a6 H6 xs6 s' na6 e6 d6
    have s6 := s5.trans s'
    dsimp only [List.append, List.cons_append, List.nil_append] at d6
    walk_at "k"
    walk_at "k"
    apply k_asg
    apply k_more (S := [p]) (a := a6) (xs := xs6)
    · walk_at "lit"
    · exact lv.same s6
    · exact rfl
    · exact e6
    · exact na6
    · exact d6
    · decide
    intro a7 H7 xs7 s' na7 e7 d7
    have s7 := s6.trans s'
    dsimp only [List.append, List.cons_append, List.nil_append] at d7
    walk_at "k"
    walk_at "k"
    apply k_asg
    have hxl : xs7.length = 43 := d7.len
    have p7 := hp.same s7
    walk_at "kk"
    refine ⟨p, 43, n, by rw [hxl]; rfl, by omega, by omega, p7, by omega, fun H8 i g8 p8 i1 i2 => ?_⟩
    obtain ⟨it, di, ei, dit, oi⟩ := d7.pick oddB (by decide +kernel) (i := i.toNat) (by show i.toNat < 43; omega)
    apply k_rv
    · exact rv_ixL (Evl.sq_of (g8 a7 _ na7 e7)) (at_int i1 ei)
    clear d1 d2 d3 d4 d5 d6 d7
    obtain ⟨o1, o2, o3, o4⟩ := oddB_ok oi
    have dit8 : Du (Hd [p] H8) it di := dit.up g8.hd
    walk_at "kk"
    refine k_onR1 (by omega) (lc_go (walk_range (lo := 0) (n := 2)) (fun D i H' => p ≠ D ∧ H8 D = none ∧ Gr [D, p] H8 H' ∧ Pu H' p (n + 1 + i) ∧ ∃ (vs : List V) (ds : List PyData), H' D = some (.lst vs) ∧ DuAll (Hd [D, p] H') vs ds ∧ ds.length = i ∧ ∀ d ∈ ds, d ∈ bads) (by intro _; rfl) (fun D hD => ?_) (fun _ _ _ _ _ => trivial) (fun D i x Ha Hb hi iv hy => ?_) (fun D H9 iv => ?_))
    · have hpD := p8.ne hD
      exact ⟨hpD, hD, Gr.mut (by simp), p8.up (upd_ne hpD) (by omega), [], [], upd_same, .nil, rfl, by simp⟩
    · obtain ⟨hpD, hD0, g2, p2, vs, ds, e2, du2, l2, m2⟩ := iv
      obtain ⟨rfl, rfl⟩ := hy
      have lv2 : Live [D, p] Hb := fun a ha => by
        rcases List.mem_cons.mp ha with rfl | ha
        · rw [e2]
          simp
        · exact p2.live a ha
      apply k_yes
      refine iteT ?_
      apply k_op
      apply k_lit (S := [D, p])
      · walk_at "lit"
      · exact lv2
      intro v Hc sc dc
      obtain ⟨al, xl, rfl, nal, el, dl⟩ := dc.lstAt
      have pc := p2.same sc
      walk_at "kk"
      refine ⟨p, 6, n + 1 + i, rfl, by omega, by omega, pc, by omega, fun H3 j g3 p3 j1 j2 => ?_⟩
      obtain ⟨w, e5⟩ : ∃ d, bads[j.toNat]? = some d := ⟨_, List.getElem?_eq_getElem (by show j.toNat < 6; omega)⟩
      obtain ⟨vw, e6, dw⟩ := dl.get (i := j.toNat) (d := w) e5
      have nal' : al ∉ [p] := fun z => nal (by simp at z; simp [z])
      apply k_rv
      · exact rv_ixL (Evl.sq_of (g3 al _ nal' el)) (at_int j1 e6)
      have g3' : Gr [D, p] Hc H3 := g3.more (by simp)
      have e3 : H3 D = some (.lst vs) := g3 D _ (by simpa using hpD.symm) (sc _ _ e2)
      have gn : Gr [D, p] H3 (upd H3 D (.lst (vs ++ [vw]))) := Gr.mut (by simp)
      refine k_add e3 (by rw [du2.len]; omega) ⟨hpD, hD0, ((g2.trans (Gr.of sc)).trans g3').trans gn, p3.up (upd_ne hpD) (by omega), vs ++ [vw], ds ++ [w], upd_same, ?_, by simp [l2], fun d hd => ?_⟩
      · exact ((du2.up ((Gr.of sc).trans g3').hd).append (.cons (dw.up g3'.hd) .nil)).up gn.hd
      · rcases List.mem_append.mp hd with h | h
        · exact m2 d h
        · rw [List.mem_singleton.mp h]
          exact List.mem_of_getElem? e5
    · obtain ⟨hpD, hD0, g9, p9, vs, ds, e9, du9, l9, m9⟩ := iv
      have g9' : Gr [p] H8 H9 := g9.less hD0
      match ds, l9, m9, vs, du9 with
      | [db, dw], _, m9, _, .cons (v := vb) d1' (.cons (v := vw) d2' .nil) =>
        have hdb := m9 db (by simp)
        have hdw := m9 dw (by simp)
        have q1 := Bool.and_eq_true_iff.mp (bad_plain db hdb)
        have q2 := Bool.and_eq_true_iff.mp (bad_plain dw hdw)
        have sb : isStrD db = false := by simpa using q1.1
        have sw : isStrD dw = false := by simpa using q2.1
        have pb := plainB_ok q1.2
        have pw := plainB_ok q2.2
        have hdd : ∀ {d : PyData} {v : V} {H' : Hp}, Du (Hd [D, p] H') v d → Du (Hd [p] H') v d := fun h => h.up fun a o e => by
          by_cases z : a ∈ [D, p]
          · rw [hd_in z] at e
            cases e
          · rw [hd_out z] at e
            rw [hd_out fun y => z (List.mem_cons_of_mem _ y)]
            exact e
        have db9 : Du (Hd [p] H9) vb db := hdd d1'
        have dw9 : Du (Hd [p] H9) vw dw := hdd d2'
        have di9 : Du (Hd [p] H9) it di := dit8.up g9'.hd
        refine k_unp2L (Evl.sq_of e9) ?_
        walk_at "kk"
        have thi : Th K H9 it di := (di9.th o2).up (hd_same _ _)
        refine ⟨it, di, rfl, thi, o3, o4, fun H10 t10 => ?_⟩
        rw [o1]
        walk_at "kk"
        apply k_callN
        walk_at "kk"
        refine ⟨rfl, rfl, it, di, rfl, thi.up t10, o3, o4, fun H11 t11 => ?_⟩
        rw [o1]
        walk_at "kk"
        have u11 := t10.trans t11
        have dbN : Du H9 vb db := db9.up (hd_same _ _)
        have dwN : Du H9 vw dw := dw9.up (hd_same _ _)
        have thb : Th K H9 vb db := dbN.th pb
        have thw : Th K H9 vw dw := dwN.th pw
        refine ⟨it, vb, vw, di, db, dw, rfl, thi.up u11, thb.up u11, thw.up u11, o3, o4, .inl ⟨o1, fun H12 r1 t12 f1 => ?_⟩⟩
        have u12 := u11.trans t12
        walk_at "kk"
        intro v1 hv1
        have u13 := u12.trans (same_new (o := .tup [.str "vowel"]) hv1)
        walk_at "kk"
        have dv := deepB_ok (d := .tuple [.str "vowel"]) (by decide +kernel)
        have cv : isCd (.tuple [.str "vowel"]) = true := by decide +kernel
        refine ⟨.ref v1, vb, vw, .tuple [.str "vowel"], db, dw, rfl, .inl (.tup (Evl.st_of upd_same) (.cons (.str _) .nil)), thb.up u13, thw.up u13, dv.1, dv.2, .inr ⟨cv, .inl ⟨sb, fun H14 r2 t14 f2 => ?_⟩⟩⟩
        have u14 := u13.trans t14
        walk_at "kk"
        intro v2 hv2
        have u15 := u14.trans (same_new (o := .tup [.str "vowel"]) hv2)
        walk_at "kk"
        refine ⟨.ref v2, .str "a", vw, .tuple [.str "vowel"], .str "a", dw, rfl, .inl (.tup (Evl.st_of upd_same) (.cons (.str _) .nil)), .inl (.str "a"), thw.up u15, dv.1, dv.2, .inr ⟨cv, .inr ⟨rfl, sw, fun H16 r3 t16 f3 => ?_⟩⟩⟩
        have u16 := u15.trans t16
        walk_at "kk"
        intro l1 hl1
        have nw1 := same_new (o := .lst [.ref r1, .ref r2, .ref r3]) hl1
        have u17 := u16.trans nw1
        have f1' := nw1 _ _ (t16 _ _ (same_new (o := .tup [.str "vowel"]) hv2 _ _ (t14 _ _ (same_new (o := .tup [.str "vowel"]) hv1 _ _ f1))))
        have f2' := nw1 _ _ (t16 _ _ (same_new (o := .tup [.str "vowel"]) hv2 _ _ f2))
        have f3' := nw1 _ _ f3
        have two : ∀ {H' : Hp} {a b : Addr} {d : PyData} {v : V}, H' a = some (.lst [.str "text", v]) → Du H' v d → Du H' (.ref a) (.list [.str "text", d]) := fun e h => .lst e (.cons (.str _) (.cons h .nil))
        have hd := told_ok db hdb dw hdw
        have hd1 := Bool.and_eq_true_iff.mp hd
        have hd2 := Bool.and_eq_true_iff.mp hd1.2
        have hd3 : (PyData.list (toldD db dw)).shown.length ≤ sizeLine := Nat.le_trans (of_decide_eq_true hd2.1) (by decide)
        have tu : Du (upd H16 l1 (.lst [.ref r1, .ref r2, .ref r3])) (.ref l1) (.list (toldD db dw)) :=
          .lst upd_same (.cons (.lst f1' (.cons (.str _) (.cons .non .nil))) (.cons (.lst f2' (.cons (.str _) (.cons (dbN.up u17) .nil))) (.cons (.lst f3' (.cons (.str _) (.cons (dwN.up u17) .nil))) .nil)))
        walk_at "kk"
        refine ⟨l1, toldD db dw, rfl, tu, (by intro z; cases z), hd1.1, hd3, of_decide_eq_true hd2.2, ?_⟩
        walk_at "kk"
        intro c1 hc1
        have n1 := same_new (o := .lst [.str "conditions", .non]) hc1
        walk_at "kk"
        intro c2 hc2
        have n2 := same_new (o := .lst [.str "text", vb]) hc2
        walk_at "kk"
        intro c3 hc3
        have n3 := same_new (o := .lst [.str "text", vw]) hc3
        walk_at "kk"
        intro c4 hc4
        have n4 := same_new (o := .lst [.ref c1, .ref c2, .ref c3]) hc4
        have u18 := u17.trans (n1.trans (n2.trans (n3.trans n4)))
        walk_at "kk"
        refine ⟨c4, toldD db dw, rfl, ?_, (by intro z; cases z), hd1.1, hd3, of_decide_eq_true hd2.2, ?_⟩
        · exact .lst upd_same (.cons (.lst (n4 _ _ (n3 _ _ (n2 _ _ upd_same))) (.cons (.str _) (.cons .non .nil))) (.cons (.lst (n4 _ _ (n3 _ _ upd_same)) (.cons (.str _) (.cons (dbN.up u18) .nil))) (.cons (.lst (n4 _ _ upd_same) (.cons (.str _) (.cons (dwN.up u18) .nil))) .nil)))
        walk_at "kk"
        rw [decide_eq_true rfl]
        have gg : Gr [p] H9 _ := Gr.of u18
        exact q _ (((Gr.of s7).trans g8).trans (g9'.trans gg)) ((p9.same u18).up rfl (by omega))
end
end K01
set_option Elab.async false
set_option linter.all false
set_option maxRecDepth 100000
set_option maxHeartbeats 4000000
namespace K01
open PySem PySem.Spec PyProof.Rows L2 TL Mi
/-! ### short words -/
local macro_rules | `(tactic| walk_at "idx") => `(tactic| first | assumption | exact Evl.sq_of (by assumption) | exact Evl.st_of (by assumption) | exact Evl.sq_of upd_same | exact Evl.st_of upd_same)
local macro_rules | `(tactic| walk_at "side") => `(tactic| first | omega | exact Or.inl ⟨by omega, by omega⟩ | exact Or.inr ⟨by omega, by omega⟩ | exact ⟨by omega, by omega⟩ | decide +kernel)
local macro_rules | `(tactic| walk_at "div") => `(tactic| exact wide_div (b := 30) (by omega) (by omega) (by decide) (by decide))
local macro_rules | `(tactic| walk_at "pow") => `(tactic| exact ⟨by decide +kernel, by decide +kernel, by decide +kernel⟩)
local macro_rules | `(tactic| walk_at "rv") => `(tactic| first
  | with_reducible exact rv_addI | with_reducible exact rv_sub | with_reducible exact rv_lt | with_reducible exact rv_le | with_reducible exact rv_gt | with_reducible exact rv_ge
  | with_reducible exact rv_inC | with_reducible exact rv_notInC | with_reducible exact rv_isB
  | (with_reducible apply rv_mul
     walk_at "side")
  | (with_reducible apply rv_mod
     walk_at "side")
  | (with_reducible apply rv_div
     walk_at "div")
  | (with_reducible apply rv_pow
     walk_at "pow")
  | (with_reducible apply rv_eq
     exact rfl)
  | (with_reducible apply rv_ne
     exact rfl)
  | (with_reducible apply rv_ixL
     · walk_at "idx"
     · exact rfl)
  | (with_reducible apply rv_ixT
     · walk_at "idx"
     · exact rfl)
  | (with_reducible apply rv_ixS
     · walk_at "side"
     · exact rfl)
  | (with_reducible apply rv_addS
     walk_at "side"))
local macro_rules | `(tactic| walk_at "val") => `(tactic| first
  | with_reducible exact val_c | exact val_c
  | (with_reducible apply val_var
     exact rfl)
  | (with_reducible apply val_bin
     · walk_at "val"
     · walk_at "val"
     · walk_at "rv")
  | (with_reducible apply val_int1
     walk_at "val")
  | (with_reducible apply val_max2
     · walk_at "val"
     · walk_at "val")
  | (with_reducible apply val_min2
     · walk_at "val"
     · walk_at "val")
  | (with_reducible apply val_endsw
     · walk_at "val"
     · walk_at "val")
  | (with_reducible apply val_lenS
     · walk_at "val"
     · walk_at "side")
  | (with_reducible apply val_lenL
     · walk_at "val"
     · walk_at "idx")
  | (with_reducible apply val_lenT
     · walk_at "val"
     · walk_at "idx")
  | (with_reducible apply val_notV
     walk_at "val"))
local macro_rules | `(tactic| walk_at "ans") => `(tactic| first
  | (with_reducible apply ans_T
     walk_at "val")
  | (with_reducible apply ans_B
     walk_at "val")
  | (with_reducible apply ans_not
     walk_at "ans"))
local macro_rules | `(tactic| walk_at "ifp") => `(tactic| first
  | (with_reducible refine Eq.mpr (if_pos ?_) ?_
     · decide +kernel)
  | (with_reducible refine Eq.mpr (if_neg ?_) ?_
     · decide +kernel))
local macro_rules | `(tactic| walk_at "k") => `(tactic| first
  | with_reducible apply k_seq | with_reducible apply k_asg | with_reducible apply k_ret | with_reducible apply k_ifS | with_reducible apply k_drop | with_reducible apply k_name
  | (with_reducible apply k_var
     · exact rfl)
  | with_reducible apply k_c
  | with_reducible apply k_op | with_reducible apply k_cb | with_reducible apply k_call | with_reducible apply k_cons | with_reducible apply k_nil | with_reducible apply k_tup | with_reducible apply k_lst
  | with_reducible apply k_ifE | with_reducible apply k_test | with_reducible apply k_tb | with_reducible apply k_not | with_reducible apply k_and | with_reducible apply k_or | with_reducible apply k_bl
  | with_reducible apply k_sl | with_reducible apply k_part | with_reducible apply k_isI | with_reducible apply k_nopart
  | with_reducible apply k_lcZS | with_reducible apply k_onZS | with_reducible apply k_un | with_reducible apply k_neg
  | with_reducible apply k_lcS | with_reducible apply k_lcR | with_reducible apply k_lcL | with_reducible apply k_lcT | with_reducible apply k_forS | with_reducible apply k_forR | with_reducible apply k_forL | with_reducible apply k_forT | with_reducible apply k_onS | with_reducible apply k_yes
  | (with_reducible apply k_augC
     · exact rfl)
  | with_reducible apply k_next | with_reducible apply k_eqInt | with_reducible apply k_neInt | with_reducible apply k_eqStr | with_reducible apply k_neStr
  | with_reducible apply k_andV | with_reducible apply k_orV | with_reducible apply k_notV
  | with_reducible apply k_m1 | with_reducible apply k_onStr | with_reducible apply k_endsw
  | (with_reducible apply k_slS
     · walk_at "side")
  | (with_reducible apply k_newT
     · walk_at "len")
  | (with_reducible apply k_newL
     · walk_at "len")
  | with_reducible apply k_int1 | with_reducible apply k_max2 | with_reducible apply k_min2
  | (with_reducible apply k_lenS
     · walk_at "side")
  | (with_reducible apply k_lenL
     · walk_at "idx")
  | (with_reducible apply k_lenT
     · walk_at "idx")
  | (with_reducible apply k_rv
     · walk_at "rv")
  | walk_at "ifp")
local macro_rules | `(tactic| walk_at "kk") => `(tactic| (repeat (walk_at "k")))
local macro_rules | `(tactic| walk_at "len") => `(tactic| first | exact (by decide : (1:Nat) ≤ 100000) | exact (by decide : (2:Nat) ≤ 100000) | exact (by decide : (3:Nat) ≤ 100000) | exact (by decide : (4:Nat) ≤ 100000) | exact (by decide : (7:Nat) ≤ 100000) | (simp only [List.length_cons, List.length_nil]; omega) | omega)
local macro_rules | `(tactic| walk_at "up") => `(tactic| first
  | assumption
  | (refine Dq.up ?_ (Gr.new (by assumption))
     walk_at "up")
  | (refine Dq.up ?_ (by assumption)
     walk_at "up"))

section
variable {P : Program} {w : World} {K : PySem.W.Frag} {mg : Str → Option Value} {base : Heap}
theorem menu_okS : ∀ s ∈ menu, okS s := by
  intro s hs c hc
  have h : ∀ s ∈ menu, ∀ c ∈ tl s, c < 1114112 := by decide +kernel
  exact h s hs c hc
theorem isPl2 (k v : PyData) : isPl (.tuple [k, v]) = (if inT ["runs", "least"] k = true then isNum v else if PyData.eqv k (.str "ends") = true then isTexts v else PyData.eqv k (.str "shape") && isTextOf v "vo") := rfl
theorem isCd2 (k v : PyData) : isCd (.tuple [k, v]) = (if PyData.eqv k (.str "not") = true then isPl v else isPl (.tuple [k, v])) := rfl
theorem isPl_enc {c : C0} (h : ok0 c) : isPl (enc0 c) = true := by
  cases c with
  | vowel => decide +kernel
  | double => decide +kernel
  | runs m =>
    show isPl (.tuple [.str "runs", .int m]) = true
    rw [isPl2, if_pos (by decide +kernel)]
    exact decide_eq_true h
  | least m =>
    show isPl (.tuple [.str "least", .int m]) = true
    rw [isPl2, if_pos (by decide +kernel)]
    exact decide_eq_true h
  | ends ts =>
    show isPl (.tuple [.str "ends", .tuple (ts.map .str)]) = true
    rw [isPl2, if_neg (by decide +kernel), if_pos (by decide +kernel)]
    show (ts.map PyData.str).all isStrD = true
    rw [List.all_map]
    exact List.all_eq_true.mpr fun _ _ => rfl
  | shape s =>
    show isPl (.tuple [.str "shape", .str s]) = true
    rw [isPl2, if_neg (by decide +kernel), if_neg (by decide +kernel)]
    refine Bool.and_eq_true_iff.mpr ⟨by decide +kernel, ?_⟩
    refine List.all_eq_true.mpr fun c hc => decide_eq_true ?_
    have e : tl ("vo" : Str) = [118, 111] := by decide +kernel
    rw [e]
    rcases h c hc with rfl | rfl <;> simp
theorem isCd_enc {c : Cond} (h : okc c) : isCd (enc c) = true := by
  cases c with
  | neg c =>
    show isCd (.tuple [.str "not", enc0 c]) = true
    rw [isCd2, if_pos (by decide +kernel)]
    exact isPl_enc h
  | pos c =>
    have h0 := isPl_enc h
    cases c with
    | vowel => exact h0
    | double => exact h0
    | runs m =>
      show isCd (.tuple [.str "runs", .int m]) = true
      rw [isCd2, if_neg (by decide +kernel)]
      exact h0
    | least m =>
      show isCd (.tuple [.str "least", .int m]) = true
      rw [isCd2, if_neg (by decide +kernel)]
      exact h0
    | ends ts =>
      show isCd (.tuple [.str "ends", .tuple (ts.map .str)]) = true
      rw [isCd2, if_neg (by decide +kernel)]
      exact h0
    | shape s =>
      show isCd (.tuple [.str "shape", .str s]) = true
      rw [isCd2, if_neg (by decide +kernel)]
      exact h0
/-- what a condition is like -/
structure Fit (c : Cond) : Prop where
  ok : okc c
  sz : szc c
  ow : owc c
  sh : shT (enc c)
  s2 : szc2 (enc c)
  cd : isCd (enc c) = true
theorem lay0_enc {c : C0} (hw : ow0 c) (hs : ∀ s, c = .shape s → okS s) : (enc0 c).canLay0 = true ∧ (enc0 c).depth ≤ 3 := by
  cases c with
  | vowel => exact ⟨by decide +kernel, by decide +kernel⟩
  | double => exact ⟨by decide +kernel, by decide +kernel⟩
  | runs m => exact ⟨by show (PyData.canLay0 (.str "runs") && true) = true; decide +kernel, by show max 0 (max 0 0) + 1 ≤ 3; decide⟩
  | least m => exact ⟨by show (PyData.canLay0 (.str "least") && true) = true; decide +kernel, by show max 0 (max 0 0) + 1 ≤ 3; decide⟩
  | ends ts =>
    refine ⟨?_, ?_⟩
    · show (PyData.canLay0 (.str "ends") && (PyData.canLayAll0 (ts.map .str) && true)) = true
      rw [lay_strs hw]
      decide +kernel
    · show max 0 (max (PyData.depthAll (ts.map .str) + 1) 0) + 1 ≤ 3
      rw [depth_strs]
      decide
  | shape s =>
    refine ⟨?_, by show max 0 (max 0 0) + 1 ≤ 3; decide⟩
    show (PyData.canLay0 (.str "shape") && (PyData.canLay0 (.str s) && true)) = true
    rw [(hs s rfl).lay]
    decide +kernel
theorem szE {c : C0} (hs : sz0 c) : szw (enc0 c) := by
  intro ds e x hx
  cases c with
  | vowel =>
    cases e
    rw [List.mem_singleton.mp hx]
    exact (by decide +kernel : ("vowel" : Str).length ≤ 50000)
  | double =>
    cases e
    rw [List.mem_singleton.mp hx]
    exact (by decide +kernel : ("double" : Str).length ≤ 50000)
  | runs m =>
    cases e
    rcases List.mem_cons.mp hx with rfl | hx
    · exact (by decide +kernel : ("runs" : Str).length ≤ 50000)
    · rw [List.mem_singleton.mp hx]
      trivial
  | least m =>
    cases e
    rcases List.mem_cons.mp hx with rfl | hx
    · exact (by decide +kernel : ("least" : Str).length ≤ 50000)
    · rw [List.mem_singleton.mp hx]
      trivial
  | ends ts =>
    cases e
    rcases List.mem_cons.mp hx with rfl | hx
    · exact (by decide +kernel : ("ends" : Str).length ≤ 50000)
    · rw [List.mem_singleton.mp hx]
      show (ts.map PyData.str).length ≤ 50000
      rw [List.length_map]
      exact hs.1
  | shape s =>
    cases e
    rcases List.mem_cons.mp hx with rfl | hx
    · exact (by decide +kernel : ("shape" : Str).length ≤ 50000)
    · rw [List.mem_singleton.mp hx]
      exact hs
theorem enl : ∀ c : C0, ∃ ds, enc0 c = .tuple ds ∧ ds.length ≤ 2 := by
  intro c
  cases c <;> exact ⟨_, rfl, by simp⟩
theorem fit_pos {c : C0} (o : ok0 c) (s : sz0 c) (ow : ow0 c) (sh : ∀ s, c = .shape s → okS s) : Fit (.pos c) := by
  have ly := lay0_enc ow sh
  refine { ok := o, sz := s, ow := ow, sh := fun ds e => ?_, s2 := ⟨szE s, fun a b e es eb x hx => ?_⟩, cd := isCd_enc (c := .pos c) o }
  · rw [← show enc0 c = .tuple ds from e]
    unfold SeqAt.shaped
    rw [ly.1, Bool.true_and, decide_eq_true_eq]
    omega
  · cases c with
    | ends ts =>
      cases e
      cases eb
      obtain ⟨t, ht, rfl⟩ := List.mem_map.mp hx
      exact s.2 t ht
    | runs m | least m | shape s => cases e; cases eb
    | vowel | double => cases e
theorem fit_neg {c : C0} (o : ok0 c) (s : sz0 c) (ow : ow0 c) (sh : ∀ s, c = .shape s → okS s) : Fit (.neg c) := by
  have ly := lay0_enc ow sh
  obtain ⟨es, ee, el⟩ := enl c
  refine { ok := o, sz := s, ow := ow, sh := fun ds e => ?_, s2 := ⟨fun ds e x hx => ?_, fun a b e es eb x hx => ?_⟩, cd := isCd_enc (c := .neg c) o }
  · cases e
    unfold SeqAt.shaped
    show (PyData.canLay0 (.str "not") && (PyData.canLay0 (enc0 c) && true) && decide (max 0 (max (PyData.depth (enc0 c)) 0) + 1 ≤ 64)) = true
    have h2 := ly.2
    rw [ly.1, decide_eq_true (show max 0 (max (PyData.depth (enc0 c)) 0) + 1 ≤ 64 by omega)]
    decide +kernel
  · cases e
    rcases List.mem_cons.mp hx with rfl | hx
    · exact (by decide +kernel : ("not" : Str).length ≤ 50000)
    · rw [List.mem_singleton.mp hx, ee]
      show es.length ≤ 50000
      omega
  · cases e
    exact szE s es eb x hx
theorem fit_of {z : Str} {c : Cond} (hz : okS z) (h : smc z c) : Fit c := by
  have h0 : ∀ {c : C0}, sm0 z c → ok0 c ∧ sz0 c ∧ ow0 c ∧ ∀ s, c = .shape s → okS s := by
    intro c h
    cases c with
    | vowel => exact ⟨trivial, trivial, trivial, fun _ e => nomatch e⟩
    | double => exact ⟨trivial, trivial, trivial, fun _ e => nomatch e⟩
    | runs m => exact ⟨h.1, trivial, trivial, fun _ e => nomatch e⟩
    | least m => exact ⟨h.1, trivial, trivial, fun _ e => nomatch e⟩
    | ends ts => exact ⟨trivial, ⟨by have := h.1; omega, fun t ht => by have := (h.2 t ht).1; omega⟩, fun t ht c hc => hz c ((h.2 t ht).2 c hc), fun _ e => nomatch e⟩
    | shape s => exact ⟨h.2, (by have := h.1; show s.length ≤ 50000; omega), trivial, fun s' e c hc => by cases e; rcases h.2 c hc with rfl | rfl <;> decide⟩
  cases c with
  | pos c =>
    obtain ⟨o, s, ow, sh⟩ := h0 h
    exact fit_pos o s ow sh
  | neg c =>
    obtain ⟨o, s, ow, sh⟩ := h0 h
    exact fit_neg o s ow sh
end
end K01
set_option Elab.async false
set_option linter.all false
set_option maxRecDepth 100000
set_option maxHeartbeats 4000000
namespace K01
open PySem PySem.Spec PyProof.Rows L2 TL Mi
/-! ### short words -/
local macro_rules | `(tactic| walk_at "idx") => `(tactic| first | assumption | exact Evl.sq_of (by assumption) | exact Evl.st_of (by assumption) | exact Evl.sq_of upd_same | exact Evl.st_of upd_same)
local macro_rules | `(tactic| walk_at "side") => `(tactic| first | omega | exact Or.inl ⟨by omega, by omega⟩ | exact Or.inr ⟨by omega, by omega⟩ | exact ⟨by omega, by omega⟩ | decide +kernel)
local macro_rules | `(tactic| walk_at "div") => `(tactic| exact wide_div (b := 30) (by omega) (by omega) (by decide) (by decide))
local macro_rules | `(tactic| walk_at "pow") => `(tactic| exact ⟨by decide +kernel, by decide +kernel, by decide +kernel⟩)
local macro_rules | `(tactic| walk_at "rv") => `(tactic| first
  | with_reducible exact rv_addI | with_reducible exact rv_sub | with_reducible exact rv_lt | with_reducible exact rv_le | with_reducible exact rv_gt | with_reducible exact rv_ge
  | with_reducible exact rv_inC | with_reducible exact rv_notInC | with_reducible exact rv_isB
  | (with_reducible apply rv_mul
     walk_at "side")
  | (with_reducible apply rv_mod
     walk_at "side")
  | (with_reducible apply rv_div
     walk_at "div")
  | (with_reducible apply rv_pow
     walk_at "pow")
  | (with_reducible apply rv_eq
     exact rfl)
  | (with_reducible apply rv_ne
     exact rfl)
  | (with_reducible apply rv_ixL
     · walk_at "idx"
     · exact rfl)
  | (with_reducible apply rv_ixT
     · walk_at "idx"
     · exact rfl)
  | (with_reducible apply rv_ixS
     · walk_at "side"
     · exact rfl)
  | (with_reducible apply rv_addS
     walk_at "side"))
local macro_rules | `(tactic| walk_at "val") => `(tactic| first
  | with_reducible exact val_c | exact val_c
  | (with_reducible apply val_var
     exact rfl)
  | (with_reducible apply val_bin
     · walk_at "val"
     · walk_at "val"
     · walk_at "rv")
  | (with_reducible apply val_int1
     walk_at "val")
  | (with_reducible apply val_max2
     · walk_at "val"
     · walk_at "val")
  | (with_reducible apply val_min2
     · walk_at "val"
     · walk_at "val")
  | (with_reducible apply val_endsw
     · walk_at "val"
     · walk_at "val")
  | (with_reducible apply val_lenS
     · walk_at "val"
     · walk_at "side")
  | (with_reducible apply val_lenL
     · walk_at "val"
     · walk_at "idx")
  | (with_reducible apply val_lenT
     · walk_at "val"
     · walk_at "idx")
  | (with_reducible apply val_notV
     walk_at "val"))
local macro_rules | `(tactic| walk_at "ans") => `(tactic| first
  | (with_reducible apply ans_T
     walk_at "val")
  | (with_reducible apply ans_B
     walk_at "val")
  | (with_reducible apply ans_not
     walk_at "ans"))
local macro_rules | `(tactic| walk_at "ifp") => `(tactic| first
  | (with_reducible refine Eq.mpr (if_pos ?_) ?_
     · decide +kernel)
  | (with_reducible refine Eq.mpr (if_neg ?_) ?_
     · decide +kernel))
local macro_rules | `(tactic| walk_at "k") => `(tactic| first
  | with_reducible apply k_seq | with_reducible apply k_asg | with_reducible apply k_ret | with_reducible apply k_ifS | with_reducible apply k_drop | with_reducible apply k_name
  | (with_reducible apply k_var
     · exact rfl)
  | with_reducible apply k_c
  | with_reducible apply k_op | with_reducible apply k_cb | with_reducible apply k_call | with_reducible apply k_cons | with_reducible apply k_nil | with_reducible apply k_tup | with_reducible apply k_lst
  | with_reducible apply k_ifE | with_reducible apply k_test | with_reducible apply k_tb | with_reducible apply k_not | with_reducible apply k_and | with_reducible apply k_or | with_reducible apply k_bl
  | with_reducible apply k_sl | with_reducible apply k_part | with_reducible apply k_isI | with_reducible apply k_nopart
  | with_reducible apply k_lcZS | with_reducible apply k_onZS | with_reducible apply k_un | with_reducible apply k_neg
  | with_reducible apply k_lcS | with_reducible apply k_lcR | with_reducible apply k_lcL | with_reducible apply k_lcT | with_reducible apply k_forS | with_reducible apply k_forR | with_reducible apply k_forL | with_reducible apply k_forT | with_reducible apply k_onS | with_reducible apply k_yes
  | (with_reducible apply k_augC
     · exact rfl)
  | with_reducible apply k_next | with_reducible apply k_eqInt | with_reducible apply k_neInt | with_reducible apply k_eqStr | with_reducible apply k_neStr
  | with_reducible apply k_andV | with_reducible apply k_orV | with_reducible apply k_notV
  | with_reducible apply k_m1 | with_reducible apply k_onStr | with_reducible apply k_endsw
  | (with_reducible apply k_slS
     · walk_at "side")
  | (with_reducible apply k_newT
     · walk_at "len")
  | (with_reducible apply k_newL
     · walk_at "len")
  | with_reducible apply k_int1 | with_reducible apply k_max2 | with_reducible apply k_min2
  | (with_reducible apply k_lenS
     · walk_at "side")
  | (with_reducible apply k_lenL
     · walk_at "idx")
  | (with_reducible apply k_lenT
     · walk_at "idx")
  | (with_reducible apply k_rv
     · walk_at "rv")
  | walk_at "ifp")
local macro_rules | `(tactic| walk_at "kk") => `(tactic| (repeat (walk_at "k")))
local macro_rules | `(tactic| walk_at "len") => `(tactic| first | exact (by decide : (1:Nat) ≤ 100000) | exact (by decide : (2:Nat) ≤ 100000) | exact (by decide : (3:Nat) ≤ 100000) | exact (by decide : (4:Nat) ≤ 100000) | exact (by decide : (7:Nat) ≤ 100000) | (simp only [List.length_cons, List.length_nil]; omega) | omega)
local macro_rules | `(tactic| walk_at "up") => `(tactic| first
  | assumption
  | (refine Dq.up ?_ (Gr.new (by assumption))
     walk_at "up")
  | (refine Dq.up ?_ (by assumption)
     walk_at "up"))

section
variable {P : Program} {w : World} {K : PySem.W.Frag} {mg : Str → Option Value} {base : Heap}
def spRight : Sp := fun vs H Q _ => ∃ (p : Addr) (n : Nat), vs = [.ref p] ∧ Pu H p n ∧ n < 2 ^ 37 ∧ ∀ H', Gr [p] H H' → Pu H' p (n + 20000) → Q (.bl true) H'
theorem ok_law_right (T : Txt K mg) : FnG P w K mg base 7 T.a_law_right T.fd_law_right ["purse"] spRight := by
  refine T.F_law_right.okG sc_law_right (fun vs H Q E h => ?_) (fun cdv A outer s H vs Q E gd hr h => ?_)
  · obtain ⟨p, n, rfl, _⟩ := h
    rfl
  · obtain ⟨p, n, rfl, hp, hn, q⟩ := h
    refine ⟨_, (pss_cons (ps_asg (pe_call (ok_law_letters T) (hr.mono (by decide)) (by rfl) T.m_law_letters T.F_law_letters.kp T.b_law_letters .nil pass0 (pa_cons (pv 0) pa_nil)) (tupleK K (n := 2) rfl (pgs_cons (pg_name (i := 1) sc_law_right.nd rfl (Or.inl rfl)) (pgs_cons (pg_name (i := 2) sc_law_right.nd rfl (Or.inl rfl)) pgs_nil))))
      (pss_cons (ps_set (i := 3) sc_law_right.nd rfl (Or.inl rfl) (pe_call (ok_law_condition T) (hr.mono (by decide)) (by rfl) T.m_law_condition T.F_law_condition.kp T.b_law_condition .nil pass0 (pa_cons (pv 0) (pa_cons (pv 1) pa_nil))))
      (pss_cons (ps_for PassesOwn.never rfl (pi_range1 (by rfl) T.z_range (pa_cons pe_int pa_nil)) (pg_name (i := 4) sc_law_right.nd rfl (Or.inl rfl)) (pss_cons (ps_set (i := 5) sc_law_right.nd rfl (Or.inl rfl) (pe_call (ok_law_text T) (hr.mono (by decide)) (by rfl) T.m_law_text T.F_law_text.kp T.b_law_text .nil pass0 (pa_cons (pv 0) (pa_cons (pv 1) (pa_cons pe_int (pa_cons (pe_ix (ixK K) (pe_lst (pa_cons pe_int (pa_cons pe_int (pa_cons pe_int (pa_cons pe_int pa_nil))))) (pe_call (ok_law_draw T) (hr.mono (by decide)) (by rfl) T.m_law_draw T.F_law_draw.kp T.b_law_draw .nil pass0 (pa_cons (pv 0) (pa_cons pe_int pa_nil))) (fun _ _ => rfl)) pa_nil))))))
      (pss_cons (ps_set (i := 6) sc_law_right.nd rfl (Or.inl rfl) (pe_call (ok_law_holds T) (hr.mono (by decide)) (by rfl) T.m_law_holds T.F_law_holds.kp T.b_law_holds .nil pass0 (pa_cons (pv 3) (pa_cons (pv 5) (pa_cons (pv 2) pa_nil)))))
      (pss_cons (ps_if (PW.pt (pw_or (pt_cmpR (neK K hr) (pe_call (ok_holds T) (hr.mono (by decide)) (by rfl) T.m_holds T.F_holds.kp T.b_holds .nil passL (pa_cons (pv 3) (pa_cons (pv 5) (pa_cons (pv 2) pa_nil)))) (pv 6) (nomark _)) (pw_or1 (pt_cmpR (neK K hr) (pe_callK0 (ok_holds T) (hr.mono (by decide)) (by rfl) T.m_holds T.F_holds.kp T.kb_holds_0_vowels_rest_condition passL (pk_cons (pv 2) (pk_cons (pv 5) (pk_cons (pv 3) pk_nil)))) (pv 6) (nomark _))))) (pss_one (ps_ret pe_bl)) pss_nil)
      (pss_one (ps_if (pt_cmpR (neK K hr) (pe_call (ok_holds T) (hr.mono (by decide)) (by rfl) T.m_holds T.F_holds.kp T.b_holds .nil passL (pa_cons (pe_tup (pa_cons pe_str (pa_cons (pe_tup (pa_cons pe_str (pa_cons (pv 4) pa_nil))) pa_nil))) (pa_cons (pv 5) (pa_cons (pv 2) pa_nil)))) (pe_cmpR op_ltA (pe_callB (lenK K) (by rfl) T.z_len B_len (pa_cons (pv 5) pa_nil)) (pv 4) (nomark _)) (nomark _)) (pss_one (ps_ret pe_bl)) pss_nil))))))
      (pss_one (ps_ret (pe_and (pe_cmpR op_is_blA (pe_call (ok_is_condition T) (hr.mono (by decide)) (by rfl) T.m_is_condition T.F_is_condition.kp T.b_is_condition .nil pass0 (pa_cons (pv 3) pa_nil)) pe_bl (nomark _)) (pe_and (pe_cmpR op_is_blA (pe_callK0 (ok_is_condition T) (hr.mono (by decide)) (by rfl) T.m_is_condition T.F_is_condition.kp T.kb_is_condition_0_thing pass0 (pk_cons (pv 3) pk_nil)) pe_bl (nomark _)) (pe_one (pe_callG (ok_law_doors_right T) (hr.mono (by decide)) gd (by rfl) T.m_law_doors_right T.F_law_doors_right.kp T.b_law_doors_right (pa_cons (pv 0) pa_nil)))))))))), ?_⟩
    walk_at "kk"
    refine ⟨p, n, rfl, hp, by omega, fun H1 t z y g1 p1 ht1 e1 mz sub => ?_⟩
    walk_at "kk"
    refine k_unp2 (Evl.st_of e1) ?_
    have hzl := menu_len z mz
    have hyl2 : y.length ≤ 50000 := by
      have := sub.length_le
      rw [← len_tl, ← len_tl] at this
      omega
    walk_at "kk"
    refine ⟨p, z, n + 10, rfl, hzl.1, by omega, p1, by omega, fun H2 v c g2 p2 dv sm => ?_⟩
    have hz := menu_okS z mz
    have ft := fit_of hz sm
    walk_at "kk"
    have hyl : ∀ x : Str, x.length ≤ 200 → x.length ≤ 50000 := fun _ h => by omega
    refine k_onR1 (by omega) (for_go (walk_rng (n := 6)) (fun i σ H' => Gr [p] H2 H' ∧ Pu H' p (n + 10 + 10000 + i * 1002) ∧ ∃ t4 t5 t6, σ = [some (.ref p), some (.str z), some (.str y), some v, t4, t5, t6]) ?_ (fun _ _ _ _ _ => trivial) (fun i x σ Ha Hb hi iv hx => ?_) (fun σ H3 iv => ?_))
    · exact ⟨Gr.refl, p2, none, none, none, rfl⟩
    · obtain ⟨g3, p3, t4, t5, t6, rfl⟩ := iv
      obtain ⟨rfl, rfl⟩ := hx
      walk_at "kk"
      intro l hl
      have p4 := p3.new (o := .lst [.int 3, .int 6, .int 6, .int 200]) hl
      have nl : l ∉ [p] := fun z => p3.ne hl (List.mem_singleton.mp z).symm
      walk_at "kk"
      refine ⟨p, 4, _, rfl, by omega, by omega, p4, by omega, fun H4 d g4 p5 d1 d2 => ?_⟩
      obtain ⟨m, hm, m1, m2⟩ : ∃ m : Int, ([.int 3, .int 6, .int 6, .int 200] : List V)[d.toNat]? = some (.int m) ∧ 0 ≤ m ∧ m ≤ 200 := by
        have h4 : d = 0 ∨ d = 1 ∨ d = 2 ∨ d = 3 := by omega
        rcases h4 with rfl | rfl | rfl | rfl
        · exact ⟨3, rfl, by decide, by decide⟩
        · exact ⟨6, rfl, by decide, by decide⟩
        · exact ⟨6, rfl, by decide, by decide⟩
        · exact ⟨200, rfl, by decide, by decide⟩
      apply k_rv
      · exact rv_ixL (Evl.sq_of (g4 l _ nl upd_same)) (at_int d1 hm)
      walk_at "kk"
      refine ⟨p, z, 0, m, _, rfl, by decide, m1, by omega, hzl.1, by omega, p5, by omega, fun H5 ah g5 p6 ma _ la => ?_⟩
      have gg : Gr [p] H2 H5 := g3.trans ((Gr.new hl).trans (g4.trans g5))
      have dp : Dp K H5 v (enc c) := (dv.up gg).dp
      have hah : ah.length ≤ 50000 := by omega
      have okah : okS ah := fun c hc => hz c (ma c hc)
      walk_at "kk"
      refine ⟨v, c, ah, y, rfl, dp, ft.ok, ft.sz, ft.ow, hah, okah, fun H6 s6 => ?_⟩
      walk_at "kk"
      refine ⟨v, .str ah, .str y, enc c, .str ah, .str y, rfl, .inl (dp.up s6), .inl (.str _), .inl (.str _), ft.sh, ft.s2, .inr ⟨ft.cd, .inr ⟨rfl, .inr ⟨c, ah, y, rfl, ft.ok, ft.sz, rfl, rfl, hah, hyl2, fun H7 s7 => ?_⟩⟩⟩⟩
      walk_at "kk"
      rw [decide_eq_true rfl]
      walk_at "kk"
      apply k_callN
      walk_at "kk"
      have u7 := s6.trans s7
      refine ⟨rfl, rfl, v, .str ah, .str y, enc c, .str ah, .str y, rfl, .inl (dp.up u7), .inl (.str _), .inl (.str _), ft.sh, ft.s2, .inr ⟨ft.cd, .inr ⟨rfl, .inr ⟨c, ah, y, rfl, ft.ok, ft.sz, rfl, rfl, hah, hyl2, fun H8 s8 => ?_⟩⟩⟩⟩
      walk_at "kk"
      rw [decide_eq_true rfl]
      walk_at "kk"
      have u8 := u7.trans s8
      intro b1 hb1
      have n1 := same_new (o := .tup [.str "least", .int (i : Nat)]) hb1
      walk_at "kk"
      intro b2 hb2
      have n2 := same_new (o := .tup [.str "not", .ref b1]) hb2
      have u10 := u8.trans (n1.trans n2)
      walk_at "kk"
      have fn : Fit (.neg (.least (i : Nat))) := fit_neg (show (0 : Int) ≤ (i : Nat) by omega) trivial trivial fun _ e => nomatch e
      refine ⟨.ref b2, .str ah, .str y, enc (.neg (.least (i : Nat))), .str ah, .str y, rfl, .inl (.tup (Evl.st_of upd_same) (.cons (.str _) (.cons (.tup (Evl.st_of (n2 _ _ upd_same)) (.cons (.str _) (.cons (.int _) .nil))) .nil))), .inl (.str _), .inl (.str _), fn.sh, fn.s2,
        .inr ⟨fn.cd, .inr ⟨rfl, .inr ⟨.neg (.least (i : Nat)), ah, y, rfl, fn.ok, fn.sz, rfl, rfl, hah, hyl2, fun H11 s11 => ?_⟩⟩⟩⟩
      walk_at "kk"
      have em : met (tl y) (tl ah) (.neg (.least (i : Nat))) = decide ((ah.length : Int) < (i : Nat)) := by
        show (!decide (((i : Nat) : Int) ≤ ((tl ah).length : Int))) = _
        rw [← len_tl]
        by_cases h : (i : Nat) ≤ ah.length
        · rw [decide_eq_true (by omega), decide_eq_false (by omega)]
          rfl
        · rw [decide_eq_false (by omega), decide_eq_true (by omega)]
          rfl
      rw [em, decide_eq_true rfl]
      walk_at "kk"
      have u11 := u10.trans s11
      refine ⟨gg.trans (Gr.of u11), (p6.same u11).up rfl (by omega), _, _, _, rfl⟩
    · obtain ⟨g3, p3, t4, t5, t6, rfl⟩ := iv
      have dp : Dp K H3 v (enc c) := (dv.up g3).dp
      walk_at "kk"
      refine ⟨v, enc c, rfl, .inl dp, ft.sh, ft.s2, fun H4 s4 => ?_⟩
      rw [ft.cd]
      walk_at "kk"
      apply k_callN
      walk_at "kk"
      refine ⟨rfl, rfl, v, enc c, rfl, .inl (dp.up s4), ft.sh, ft.s2, fun H5 s5 => ?_⟩
      rw [ft.cd]
      walk_at "kk"
      have u5 := s4.trans s5
      refine ⟨p, _, rfl, p3.same u5, by omega, fun H6 g6 p6 => ?_⟩
      exact q _ ((g1.trans (g2.trans g3)).trans ((Gr.of u5).trans g6)) (p6.up rfl (by omega))
end
end K01
set_option Elab.async false
set_option linter.all false
set_option maxRecDepth 100000
set_option maxHeartbeats 4000000
namespace K01
open PySem PySem.Spec PyProof.Rows L2 TL Mi
/-! ### short words -/
local macro_rules | `(tactic| walk_at "idx") => `(tactic| first | assumption | exact Evl.sq_of (by assumption) | exact Evl.st_of (by assumption) | exact Evl.sq_of upd_same | exact Evl.st_of upd_same)
local macro_rules | `(tactic| walk_at "side") => `(tactic| first | omega | exact Or.inl ⟨by omega, by omega⟩ | exact Or.inr ⟨by omega, by omega⟩ | exact ⟨by omega, by omega⟩ | decide +kernel)
local macro_rules | `(tactic| walk_at "div") => `(tactic| exact wide_div (b := 30) (by omega) (by omega) (by decide) (by decide))
local macro_rules | `(tactic| walk_at "pow") => `(tactic| exact ⟨by decide +kernel, by decide +kernel, by decide +kernel⟩)
local macro_rules | `(tactic| walk_at "rv") => `(tactic| first
  | with_reducible exact rv_addI | with_reducible exact rv_sub | with_reducible exact rv_lt | with_reducible exact rv_le | with_reducible exact rv_gt | with_reducible exact rv_ge
  | with_reducible exact rv_inC | with_reducible exact rv_notInC | with_reducible exact rv_isB
  | (with_reducible apply rv_mul
     walk_at "side")
  | (with_reducible apply rv_mod
     walk_at "side")
  | (with_reducible apply rv_div
     walk_at "div")
  | (with_reducible apply rv_pow
     walk_at "pow")
  | (with_reducible apply rv_eq
     exact rfl)
  | (with_reducible apply rv_ne
     exact rfl)
  | (with_reducible apply rv_ixL
     · walk_at "idx"
     · exact rfl)
  | (with_reducible apply rv_ixT
     · walk_at "idx"
     · exact rfl)
  | (with_reducible apply rv_ixS
     · walk_at "side"
     · exact rfl)
  | (with_reducible apply rv_addS
     walk_at "side"))
local macro_rules | `(tactic| walk_at "val") => `(tactic| first
  | with_reducible exact val_c | exact val_c
  | (with_reducible apply val_var
     exact rfl)
  | (with_reducible apply val_bin
     · walk_at "val"
     · walk_at "val"
     · walk_at "rv")
  | (with_reducible apply val_int1
     walk_at "val")
  | (with_reducible apply val_max2
     · walk_at "val"
     · walk_at "val")
  | (with_reducible apply val_min2
     · walk_at "val"
     · walk_at "val")
  | (with_reducible apply val_endsw
     · walk_at "val"
     · walk_at "val")
  | (with_reducible apply val_lenS
     · walk_at "val"
     · walk_at "side")
  | (with_reducible apply val_lenL
     · walk_at "val"
     · walk_at "idx")
  | (with_reducible apply val_lenT
     · walk_at "val"
     · walk_at "idx")
  | (with_reducible apply val_notV
     walk_at "val"))
local macro_rules | `(tactic| walk_at "ans") => `(tactic| first
  | (with_reducible apply ans_T
     walk_at "val")
  | (with_reducible apply ans_B
     walk_at "val")
  | (with_reducible apply ans_not
     walk_at "ans"))
local macro_rules | `(tactic| walk_at "ifp") => `(tactic| first
  | (with_reducible refine Eq.mpr (if_pos ?_) ?_
     · decide +kernel)
  | (with_reducible refine Eq.mpr (if_neg ?_) ?_
     · decide +kernel))
local macro_rules | `(tactic| walk_at "k") => `(tactic| first
  | with_reducible apply k_seq | with_reducible apply k_asg | with_reducible apply k_ret | with_reducible apply k_ifS | with_reducible apply k_drop | with_reducible apply k_name
  | (with_reducible apply k_var
     · exact rfl)
  | with_reducible apply k_c
  | with_reducible apply k_op | with_reducible apply k_cb | with_reducible apply k_call | with_reducible apply k_cons | with_reducible apply k_nil | with_reducible apply k_tup | with_reducible apply k_lst
  | with_reducible apply k_ifE | with_reducible apply k_test | with_reducible apply k_tb | with_reducible apply k_not | with_reducible apply k_and | with_reducible apply k_or | with_reducible apply k_bl
  | with_reducible apply k_sl | with_reducible apply k_part | with_reducible apply k_isI | with_reducible apply k_nopart
  | with_reducible apply k_lcZS | with_reducible apply k_onZS | with_reducible apply k_un | with_reducible apply k_neg
  | with_reducible apply k_lcS | with_reducible apply k_lcR | with_reducible apply k_lcL | with_reducible apply k_lcT | with_reducible apply k_forS | with_reducible apply k_forR | with_reducible apply k_forL | with_reducible apply k_forT | with_reducible apply k_onS | with_reducible apply k_yes
  | (with_reducible apply k_augC
     · exact rfl)
  | with_reducible apply k_next | with_reducible apply k_eqInt | with_reducible apply k_neInt | with_reducible apply k_eqStr | with_reducible apply k_neStr
  | with_reducible apply k_andV | with_reducible apply k_orV | with_reducible apply k_notV
  | with_reducible apply k_m1 | with_reducible apply k_onStr | with_reducible apply k_endsw
  | (with_reducible apply k_slS
     · walk_at "side")
  | (with_reducible apply k_newT
     · walk_at "len")
  | (with_reducible apply k_newL
     · walk_at "len")
  | with_reducible apply k_int1 | with_reducible apply k_max2 | with_reducible apply k_min2
  | (with_reducible apply k_lenS
     · walk_at "side")
  | (with_reducible apply k_lenL
     · walk_at "idx")
  | (with_reducible apply k_lenT
     · walk_at "idx")
  | (with_reducible apply k_rv
     · walk_at "rv")
  | walk_at "ifp")
local macro_rules | `(tactic| walk_at "kk") => `(tactic| (repeat (walk_at "k")))
local macro_rules | `(tactic| walk_at "len") => `(tactic| first | exact (by decide : (1:Nat) ≤ 100000) | exact (by decide : (2:Nat) ≤ 100000) | exact (by decide : (3:Nat) ≤ 100000) | exact (by decide : (4:Nat) ≤ 100000) | exact (by decide : (7:Nat) ≤ 100000) | (simp only [List.length_cons, List.length_nil]; omega) | omega)
local macro_rules | `(tactic| walk_at "up") => `(tactic| first
  | assumption
  | (refine Dq.up ?_ (Gr.new (by assumption))
     walk_at "up")
  | (refine Dq.up ?_ (by assumption)
     walk_at "up"))

local macro_rules | `(tactic| walk_at "lit") => `(tactic| first
  | with_reducible exact lit_str | with_reducible exact lit_int | with_reducible exact lit_bl | with_reducible exact lit_non | with_reducible exact lit_neg | with_reducible exact lit_nil | with_reducible exact lit_dic
  | (with_reducible apply lit_cons
     · walk_at "lit"
     · walk_at "lit")
  | (with_reducible apply lit_tup
     · walk_at "lit"
     · decide)
  | (with_reducible apply lit_lst
     · walk_at "lit"
     · decide))

section
variable {P : Program} {w : World} {K : PySem.W.Frag} {mg : Str → Option Value} {base : Heap}
def c0B : C0 → Bool
  | .runs m => decide (0 ≤ m)
  | .least m => decide (0 ≤ m)
  | .ends ts => decide (ts.length ≤ 50000) && ts.all fun t => decide (t.length ≤ 50000) && (tl t).all fun c => decide (c < 1114112)
  | .shape s => decide (s.length ≤ 50000) && (tl s).all fun c => decide (c = 118) || decide (c = 111)
  | _ => true
theorem c0B_ok {c : C0} (h : c0B c = true) : ok0 c ∧ sz0 c ∧ ow0 c ∧ ∀ s, c = .shape s → okS s := by
  cases c with
  | vowel | double => exact ⟨trivial, trivial, trivial, fun _ e => nomatch e⟩
  | runs m | least m => exact ⟨(of_decide_eq_true (show decide (0 ≤ m) = true from h) : (0 : Int) ≤ m), trivial, trivial, fun _ e => nomatch e⟩
  | ends ts =>
    have h1 := Bool.and_eq_true_iff.mp h
    have h2 := List.all_eq_true.mp h1.2
    refine ⟨trivial, ⟨of_decide_eq_true h1.1, fun t ht => ?_⟩, fun t ht c hc => ?_, fun _ e => nomatch e⟩
    · exact of_decide_eq_true (Bool.and_eq_true_iff.mp (h2 t ht)).1
    · exact of_decide_eq_true (List.all_eq_true.mp (Bool.and_eq_true_iff.mp (h2 t ht)).2 c hc)
  | shape s =>
    have h1 := Bool.and_eq_true_iff.mp h
    have h2 : ∀ c ∈ tl s, c = 118 ∨ c = 111 := fun c hc => (Bool.or_eq_true_iff.mp (List.all_eq_true.mp h1.2 c hc)).imp of_decide_eq_true of_decide_eq_true
    refine ⟨h2, (of_decide_eq_true h1.1 : s.length ≤ 50000), trivial, fun s' e c hc => ?_⟩
    cases e
    rcases h2 c hc with rfl | rfl <;> decide
def fitB : Cond → Bool
  | .pos c => c0B c
  | .neg c => c0B c
theorem cfit {c : Cond} (h : fitB c = true) : Fit c := by
  cases c with
  | pos c =>
    obtain ⟨o, s, ow, sh⟩ := c0B_ok h
    exact fit_pos o s ow sh
  | neg c =>
    obtain ⟨o, s, ow, sh⟩ := c0B_ok h
    exact fit_neg o s ow sh
theorem holds_ok (T : Txt K mg) {v : V} {x y : Str} {c : Cond} {H : Hp} {Q : VK} {E : XK} (dp : Dp K H v (enc c)) (ft : Fit c) (hx : x.length ≤ 50000) (k : ∀ H', Same H H' → Q (.bl (met (tl y) (tl x) c)) H') (hy : y.length ≤ 50000 := by decide +kernel) :
    spHolds T [v, .str x, .str y] H Q E :=
  ⟨v, .str x, .str y, enc c, .str x, .str y, rfl, .inl dp, .inl (.str _), .inl (.str _), ft.sh, ft.s2, .inr ⟨ft.cd, .inr ⟨rfl, .inr ⟨c, x, y, rfl, ft.ok, ft.sz, rfl, rfl, hx, hy, k⟩⟩⟩⟩
theorem ends_dp {H : Hp} {p1 p2 : Addr} {ts : List Str} (h2 : H p2 = some (.tup [.str "ends", .ref p1])) (h1 : H p1 = some (.tup (ts.map V.str))) : Dp K H (.ref p2) (.tuple [.str "ends", .tuple (ts.map .str)]) :=
  .tup (.inl (.inl h2)) (.cons (.str _) (.cons (.tup (.inl (.inl h1)) (dp_strs ts)) .nil))
def cs1 : List Cond := [.pos (.runs 2), .pos (.runs 3), .pos .double, .neg .double, .pos (.shape "ov"), .pos (.ends ["", "zz"]), .pos (.ends [])]
def cs2 : List Cond := [.pos (.runs 1), .pos (.shape "vo"), .pos (.shape "oo"), .pos .vowel]
def cs3 : List Cond := [.pos (.runs 1), .pos (.runs 2), .pos (.shape "voo")]
theorem rel_conds {H : Hp} {xs : List V} {cs : List Cond} (h : DpAll K H xs (cs.map enc)) (d0 : Cond) : ∀ i, i < cs.length → Dp K H (xs.getD i .non) (enc (cs.getD i d0)) := fun i hi => by
  have e := h.getD (i := i) (by rw [List.length_map]; exact hi)
  have e2 : (cs.map enc).getD i .none = enc (cs.getD i d0) := by
    rw [List.getD_eq_getElem?_getD, List.getElem?_map, List.getElem?_eq_getElem hi, List.getD_eq_getElem?_getD, List.getElem?_eq_getElem hi]
    rfl
  rw [e2] at e
  exact e
def spLaw (K : PySem.W.Frag) : Sp := fun vs H Q _ => ∃ (a : Addr) (ns : List Int), vs = [.ref a] ∧ SqL K H a (ns.map V.int) ∧ ns.length ≤ 63 ∧ ∀ H', Q (.bl true) H'
theorem ok_law (T : Txt K mg) : FnG P w K mg base 8 T.a_law T.fd_law ["script"] (spLaw K) := by
  refine T.F_law.okG sc_law (fun vs H Q E h => ?_) (fun cdv A outer s H vs Q E gd hr h => ?_)
  · obtain ⟨p, n, rfl, _⟩ := h
    rfl
  · obtain ⟨a, ns, rfl, ha, hl, q⟩ := h
    refine ⟨_, (pss_cons (ps_for PassesOwn.never rfl (pi_range1 (by rfl) T.z_range (pa_cons (pe_op (addK K) pe_int (pe_callB (call_minA rfl) (by rfl) T.z_min B_min (pa_cons pe_int (pa_cons (pe_callB (lenK K) (by rfl) T.z_len B_len (pa_cons (pv 0) pa_nil)) pa_nil)))) pa_nil)) (pg_name (i := 1) sc_law.nd rfl (Or.inl rfl)) (pss_cons (ps_set (i := 2) sc_law.nd rfl (Or.inl rfl) (pe_call (ok_law_purse T) (hr.mono (by decide)) (by rfl) T.m_law_purse T.F_law_purse.kp T.b_law_purse .nil pass0 (pa_cons (pv 0) (pa_cons (pv 1) pa_nil))))
      (pss_one (ps_for PassesOwn.never rfl (pi_range1 (by rfl) T.z_range (pa_cons pe_int pa_nil)) (pg_name (i := 3) sc_law.nd rfl (Or.inl rfl)) (pss_one (ps_if (pt_not (pt_val (pe_callG (ok_law_right T) (hr.mono (by decide)) gd (by rfl) T.m_law_right T.F_law_right.kp T.b_law_right (pa_cons (pv 2) pa_nil)))) (pss_one (ps_ret pe_bl)) pss_nil))))))
      (pss_cons (ps_set (i := 4) sc_law.nd rfl (Or.inl rfl) (pe_lst (pa_cons (pe_tup (pa_cons pe_str (pa_cons pe_int pa_nil))) (pa_cons (pe_tup (pa_cons pe_str (pa_cons pe_int pa_nil))) (pa_cons (pe_tup (pa_cons pe_str pa_nil)) (pa_cons (pe_tup (pa_cons pe_str (pa_cons (pe_tup (pa_cons pe_str pa_nil)) pa_nil))) (pa_cons (pe_tup (pa_cons pe_str (pa_cons pe_str pa_nil))) pa_nil)))))))
      (pss_cons (ps_set (i := 4) sc_law.nd rfl (Or.inl rfl) (pe_op (addK K) (pv 4) (pe_lst (pa_cons (pe_tup (pa_cons pe_str (pa_cons (pe_tup (pa_cons pe_str (pa_cons pe_str pa_nil))) pa_nil))) (pa_cons (pe_tup (pa_cons pe_str (pa_cons (pe_tup pa_nil) pa_nil))) pa_nil)))))
      (pss_cons (ps_if (pt_cmpR (neK K hr) (pe_lc (own := [("one", 6)]) (by rfl) sc_law.nd (listK K (pv 4)) (blkOk_by (N := ["script", "at", "purse", "turn", "some", "told", "one"]) (sc := defScope s_law) (by decide +kernel)) (fun _ _ _ _ _ => (pg_name (i := 6) sc_law.nd rfl (Or.inl rfl))) (fun _ _ _ _ _ => pts_nil) (fun _ _ _ _ _ => (pe_call (ok_holds T) (hr.mono (by decide)) (by rfl) T.m_holds T.F_holds.kp T.b_holds .nil passL (pa_cons (pv 6) (pa_cons pe_str (pa_cons pe_str pa_nil)))))) (pe_lst (pa_cons pe_bl (pa_cons pe_bl (pa_cons pe_bl (pa_cons pe_bl (pa_cons pe_bl (pa_cons pe_bl (pa_cons pe_bl pa_nil)))))))) (nomark _)) (pss_one (ps_ret pe_bl)) pss_nil)
      (pss_cons (ps_if (pt_cmpR (neK K hr) (pe_lc (own := [("one", 6)]) (by rfl) sc_law.nd (tupIK K (pe_tup (pa_cons pe_str (pa_cons pe_str (pa_cons pe_str (pa_cons pe_str (pa_cons pe_str pa_nil))))))) (blkOk_by (N := ["script", "at", "purse", "turn", "some", "told", "one"]) (sc := defScope s_law) (by decide +kernel)) (fun _ _ _ _ _ => (pg_name (i := 6) sc_law.nd rfl (Or.inl rfl))) (fun _ _ _ _ _ => pts_nil) (fun _ _ _ _ _ => (pe_call (ok_holds T) (hr.mono (by decide)) (by rfl) T.m_holds T.F_holds.kp T.b_holds .nil passL (pa_cons (pe_tup (pa_cons pe_str pa_nil)) (pa_cons (pv 6) (pa_cons pe_str pa_nil)))))) (pe_lst (pa_cons pe_bl (pa_cons pe_bl (pa_cons pe_bl (pa_cons pe_bl (pa_cons pe_bl pa_nil)))))) (nomark _)) (pss_one (ps_ret pe_bl)) pss_nil)
      (pss_cons (ps_setLc (i := 5) (own := [("one", 6)]) (by rfl) sc_law.nd rfl rfl (sw_true rfl rfl rfl (by decide +kernel)) (tupIK K (pe_tup (pa_cons pe_str (pa_cons pe_str (pa_cons pe_str pa_nil))))) (blkOk_by (N := ["script", "at", "purse", "turn", "some", "told", "one"]) (sc := defScope s_law) (by decide +kernel)) (fun _ _ _ _ _ => (pg_name (i := 6) sc_law.nd rfl (Or.inl rfl))) (fun _ _ _ _ _ => pts_nil) (fun _ _ _ _ _ => (pe_call (ok_holds T) (hr.mono (by decide)) (by rfl) T.m_holds T.F_holds.kp T.b_holds .nil passL (pa_cons (pe_tup (pa_cons pe_str (pa_cons pe_int pa_nil))) (pa_cons (pv 6) (pa_cons pe_str pa_nil))))))
      (pss_cons (ps_set (i := 5) sc_law.nd rfl (Or.inl rfl) (pe_op (addK K) (pv 5) (pe_lc (own := [("one", 6)]) (by rfl) sc_law.nd (tupIK K (pe_tup (pa_cons pe_str (pa_cons pe_str (pa_cons pe_str pa_nil))))) (blkOk_by (N := ["script", "at", "purse", "turn", "some", "told", "one"]) (sc := defScope s_law) (by decide +kernel)) (fun _ _ _ _ _ => (pg_name (i := 6) sc_law.nd rfl (Or.inl rfl))) (fun _ _ _ _ _ => pts_nil) (fun _ _ _ _ _ => (pe_call (ok_holds T) (hr.mono (by decide)) (by rfl) T.m_holds T.F_holds.kp T.b_holds .nil passL (pa_cons (pe_tup (pa_cons pe_str (pa_cons pe_str pa_nil))) (pa_cons (pv 6) (pa_cons pe_str pa_nil))))))))
      (pss_cons (ps_if (pt_cmpR (neK K hr) (pv 5) (pe_lst (pa_cons pe_bl (pa_cons pe_bl (pa_cons pe_bl (pa_cons pe_bl (pa_cons pe_bl (pa_cons pe_bl pa_nil))))))) (nomark _)) (pss_one (ps_ret pe_bl)) pss_nil)
      (pss_cons (ps_if (PW.pt (pw_or (pt_cmpR op_isnot_blA (pe_call (ok_holds T) (hr.mono (by decide)) (by rfl) T.m_holds T.F_holds.kp T.b_holds .nil passL (pa_cons (pe_tup (pa_cons pe_str (pa_cons pe_int pa_nil))) (pa_cons pe_str (pa_cons pe_str pa_nil)))) pe_bl (nomark _)) (pw_or1 (pt_cmpR op_isnot_blA (pe_call (ok_holds T) (hr.mono (by decide)) (by rfl) T.m_holds T.F_holds.kp T.b_holds .nil passL (pa_cons (pe_tup (pa_cons pe_str (pa_cons pe_int pa_nil))) (pa_cons pe_str (pa_cons pe_str pa_nil)))) pe_bl (nomark _))))) (pss_one (ps_ret pe_bl)) pss_nil)
      (pss_cons (ps_setLc (i := 5) (own := [("one", 6)]) (by rfl) sc_law.nd rfl rfl (sw_true rfl rfl rfl (by decide +kernel)) (tupIK K (pe_tup (pa_cons pe_str (pa_cons pe_str (pa_cons pe_str pa_nil))))) (blkOk_by (N := ["script", "at", "purse", "turn", "some", "told", "one"]) (sc := defScope s_law) (by decide +kernel)) (fun _ _ _ _ _ => (pg_name (i := 6) sc_law.nd rfl (Or.inl rfl))) (fun _ _ _ _ _ => pts_nil) (fun _ _ _ _ _ => (pe_call (ok_holds T) (hr.mono (by decide)) (by rfl) T.m_holds T.F_holds.kp T.b_holds .nil passL (pa_cons (pe_tup (pa_cons pe_str (pa_cons pe_int pa_nil))) (pa_cons (pv 6) (pa_cons pe_str pa_nil))))))
      (pss_cons (ps_set (i := 5) sc_law.nd rfl (Or.inl rfl) (pe_op (addK K) (pv 5) (pe_lc (own := [("one", 6)]) (by rfl) sc_law.nd (tupIK K (pe_tup (pa_cons pe_str (pa_cons pe_str (pa_cons pe_str (pa_cons pe_str pa_nil)))))) (blkOk_by (N := ["script", "at", "purse", "turn", "some", "told", "one"]) (sc := defScope s_law) (by decide +kernel)) (fun _ _ _ _ _ => (pg_name (i := 6) sc_law.nd rfl (Or.inl rfl))) (fun _ _ _ _ _ => pts_nil) (fun _ _ _ _ _ => (pe_call (ok_holds T) (hr.mono (by decide)) (by rfl) T.m_holds T.F_holds.kp T.b_holds .nil passL (pa_cons (pe_tup (pa_cons pe_str (pa_cons pe_str pa_nil))) (pa_cons (pv 6) (pa_cons pe_str pa_nil))))))))
      (pss_cons (ps_if (pt_cmpR (neK K hr) (pv 5) (pe_lst (pa_cons pe_bl (pa_cons pe_bl (pa_cons pe_bl (pa_cons pe_bl (pa_cons pe_bl (pa_cons pe_bl (pa_cons pe_bl pa_nil)))))))) (nomark _)) (pss_one (ps_ret pe_bl)) pss_nil)
      (pss_cons (ps_setLc (i := 5) (own := [("one", 6)]) (by rfl) sc_law.nd rfl rfl (sw_true rfl rfl rfl (by decide +kernel)) (tupIK K (pe_tup (pa_cons (pe_tup (pa_cons pe_str (pa_cons pe_int pa_nil))) (pa_cons (pe_tup (pa_cons pe_str (pa_cons pe_str pa_nil))) (pa_cons (pe_tup (pa_cons pe_str (pa_cons pe_str pa_nil))) (pa_cons (pe_tup (pa_cons pe_str pa_nil)) pa_nil)))))) (blkOk_by (N := ["script", "at", "purse", "turn", "some", "told", "one"]) (sc := defScope s_law) (by decide +kernel)) (fun _ _ _ _ _ => (pg_name (i := 6) sc_law.nd rfl (Or.inl rfl))) (fun _ _ _ _ _ => pts_nil) (fun _ _ _ _ _ => (pe_call (ok_holds T) (hr.mono (by decide)) (by rfl) T.m_holds T.F_holds.kp T.b_holds .nil passL (pa_cons (pv 6) (pa_cons pe_str (pa_cons pe_str pa_nil))))))
      (pss_cons (ps_if (pt_cmpR (neK K hr) (pv 5) (pe_lst (pa_cons pe_bl (pa_cons pe_bl (pa_cons pe_bl (pa_cons pe_bl pa_nil))))) (nomark _)) (pss_one (ps_ret pe_bl)) pss_nil)
      (pss_cons (ps_setLc (i := 5) (own := [("one", 6)]) (by rfl) sc_law.nd rfl rfl (sw_true rfl rfl rfl (by decide +kernel)) (tupIK K (pe_tup (pa_cons pe_str (pa_cons pe_str (pa_cons pe_str (pa_cons pe_str (pa_cons pe_str (pa_cons pe_str pa_nil)))))))) (blkOk_by (N := ["script", "at", "purse", "turn", "some", "told", "one"]) (sc := defScope s_law) (by decide +kernel)) (fun _ _ _ _ _ => (pg_name (i := 6) sc_law.nd rfl (Or.inl rfl))) (fun _ _ _ _ _ => pts_nil) (fun _ _ _ _ _ => (pe_call (ok_holds T) (hr.mono (by decide)) (by rfl) T.m_holds T.F_holds.kp T.b_holds .nil passL (pa_cons (pe_tup (pa_cons pe_str (pa_cons pe_str pa_nil))) (pa_cons (pv 6) (pa_cons pe_str pa_nil))))))
      (pss_cons (ps_if (pt_cmpR (neK K hr) (pv 5) (pe_lst (pa_cons pe_bl (pa_cons pe_bl (pa_cons pe_bl (pa_cons pe_bl (pa_cons pe_bl (pa_cons pe_bl pa_nil))))))) (nomark _)) (pss_one (ps_ret pe_bl)) pss_nil)
      (pss_cons (ps_if (PW.pt (pw_or (pt_cmpR op_isnot_blA (pe_call (ok_is_condition T) (hr.mono (by decide)) (by rfl) T.m_is_condition T.F_is_condition.kp T.b_is_condition .nil pass0 (pa_cons (pe_tup (pa_cons pe_str (pa_cons (pe_tup (pa_cons pe_str (pa_cons pe_str (pa_cons pe_str pa_nil)))) pa_nil))) pa_nil)) pe_bl (nomark _)) (pw_or1 (pt_cmpR op_isnot_blA (pe_call (ok_holds T) (hr.mono (by decide)) (by rfl) T.m_holds T.F_holds.kp T.b_holds .nil passL (pa_cons (pe_tup (pa_cons pe_str (pa_cons (pe_tup (pa_cons pe_str (pa_cons pe_str pa_nil))) pa_nil))) (pa_cons pe_str (pa_cons pe_str pa_nil)))) pe_bl (nomark _))))) (pss_one (ps_ret pe_bl)) pss_nil)
      (pss_cons (ps_if (pt_cmpR (neK K hr) (pe_lc (own := [("one", 6)]) (by rfl) sc_law.nd (tupIK K (pe_tup (pa_cons (pe_tup (pa_cons pe_str (pa_cons pe_int pa_nil))) (pa_cons (pe_tup (pa_cons pe_str (pa_cons pe_int pa_nil))) (pa_cons (pe_tup (pa_cons pe_str (pa_cons pe_str pa_nil))) pa_nil))))) (blkOk_by (N := ["script", "at", "purse", "turn", "some", "told", "one"]) (sc := defScope s_law) (by decide +kernel)) (fun _ _ _ _ _ => (pg_name (i := 6) sc_law.nd rfl (Or.inl rfl))) (fun _ _ _ _ _ => pts_nil) (fun _ _ _ _ _ => (pe_call (ok_holds T) (hr.mono (by decide)) (by rfl) T.m_holds T.F_holds.kp T.b_holds .nil passL (pa_cons (pv 6) (pa_cons pe_str (pa_cons pe_str pa_nil)))))) (pe_lst (pa_cons pe_bl (pa_cons pe_bl (pa_cons pe_bl pa_nil)))) (nomark _)) (pss_one (ps_ret pe_bl)) pss_nil)
      (pss_one (ps_ret (pe_cmpR op_is_blA (pe_call (ok_is_condition T) (hr.mono (by decide)) (by rfl) T.m_is_condition T.F_is_condition.kp T.b_is_condition .nil pass0 (pa_cons (pe_tup (pa_cons pe_str (pa_cons pe_str pa_nil))) pa_nil)) pe_bl (nomark _)))))))))))))))))))))), ?_⟩
    walk_at "kk"
    have hml : ((ns.map V.int).length : Int) = ns.length := by rw [List.length_map]
    rw [hml]
    obtain ⟨m, em, lm⟩ : ∃ m : Nat, (1 + if (ns.length : Int) < 8 then (ns.length : Int) else 8) = (m : Nat) ∧ m ≤ 9 := ⟨1 + (if ns.length < 8 then ns.length else 8), by split <;> split <;> omega, by split <;> omega⟩
    rw [em]
    refine k_onR1 (by omega) ?_
    rw [Int.toNat_natCast]
    refine for_go (walk_rng (n := m)) (fun i σ H' => Same H H' ∧ ∃ t1 t2 t3, σ = [some (.ref a), t1, t2, t3, none, none, none]) ⟨Same.refl H, none, none, none, rfl⟩ (fun _ _ _ _ _ => trivial) (fun i x σ Ha Hb hi iv hx => ?_) (fun σ H1 iv => ?_)
    · obtain ⟨s1, t1, t2, t3, rfl⟩ := iv
      obtain ⟨rfl, rfl⟩ := hx
      walk_at "kk"
      refine ⟨a, ns, i, rfl, s1.seq ha, hl, by omega, fun H2 u s2 nu pu => ?_⟩
      walk_at "kk"
      refine k_onR1 (by omega) (for_go (walk_rng (n := 4)) (fun k σ H' => Gr [u] H2 H' ∧ Pu H' u (1000 * i + k * 20000) ∧ ∃ t3, σ = [some (.ref a), some (.int (i : Nat)), some (.ref u), t3, none, none, none]) ⟨Gr.refl, pu, t3, rfl⟩ (fun _ _ _ _ _ => trivial) (fun k x σ Hc Hd hk iv hx => ?_) (fun σ H3 iv => ?_))
      · obtain ⟨g3, p3, t3, rfl⟩ := iv
        obtain ⟨rfl, rfl⟩ := hx
        walk_at "kk"
        refine ⟨u, _, rfl, p3, by omega, fun H4 g4 p4 => ?_⟩
        walk_at "kk"
        exact ⟨g3.trans g4, p4.up rfl (by omega), _, rfl⟩
      · obtain ⟨g3, p3, t3, rfl⟩ := iv
        exact ⟨s1.trans (Gr.same (((Gr.of (S := [u]) s2).trans g3).less nu)), _, _, _, rfl⟩
    · obtain ⟨s1, t1, t2, t3, rfl⟩ := iv
      walk_at "k"
      apply k_asg
      apply k_lit (S := [])
      · walk_at "lit"
      · exact live_nil
      intro v H2 s2 d2
      obtain ⟨l1, x1, rfl, nl1, e1, d1⟩ := d2.lstAt
      walk_at "k"
      walk_at "k"
      apply k_asg
      apply k_more (S := []) (a := l1) (xs := x1)
      · walk_at "lit"
      · exact live_nil
      · exact rfl
      · exact e1
      · exact nl1
      · exact d1
      · decide
      intro l2 H3 x2 s3 nl2 e2 d2
      dsimp only [List.append, List.cons_append, List.nil_append] at d2
      have hD : DpAll K H3 x2 (cs1.map enc) := DpAll.up (hd_same _ _) (d2.dp (by decide +kernel))
      clear d1 d2
      walk_at "kk"
      refine k_onL (Evl.sq_of e2) (lc_keysL cs1 (.pos .vowel) (fun v c => Dp K H3 v (enc c)) (fun c => .bl (met (tl "a") (tl "abaab") c)) (Evl.sq_of e2) (by rw [hD.len]; rfl) (rel_conds hD _) (by decide) (by intro _; rfl) (fun v c Hx hc hv sx Q2 k2 => ?_) (fun D4 H4 n4 s4 e4 => ?_))
      · walk_at "kk"
        exact holds_ok T (hv.up sx) (cfit (List.all_eq_true.mp (by decide +kernel : cs1.all fitB = true) c hc)) (by decide +kernel) k2
      rw [show (cs1.map fun c => V.bl (met (tl "a") (tl "abaab") c)) = [true, false, false, true, false, true, false].map V.bl from by decide +kernel] at e4
      walk_at "kk"
      intro l1 hl2
      refine k_neBools (bs := [true, false, false, true, false, true, false]) (cs := [true, false, false, true, false, true, false]) (Evl.sq_of ((same_new hl2) _ _ e4)) (Evl.sq_of upd_same) ?_
      walk_at "kk"
      intro t3 ht4
      walk_at "kk"
      refine k_onT (Evl.st_of upd_same) (lc_keysT (["bb", "aa", "b", "abb", "bba"] : List Str) "" (fun v t => v = .str t) (fun t => .bl (met (tl "a") (tl t) (.pos .double))) (Evl.st_of upd_same) rfl (rel_strs ["bb", "aa", "b", "abb", "bba"]) (by decide) (by intro _; rfl) (fun v t Hx hc hv sx Q2 k2 => ?_) (fun D5 H6 n7 s8 e9 => ?_))
      · subst hv
        walk_at "kk"
        intro b hb
        walk_at "kk"
        exact holds_ok T (c := .pos .double) (.tup (Evl.st_of upd_same) (.cons (.str _) .nil)) (cfit (by decide +kernel)) (of_decide_eq_true (List.all_eq_true.mp (by decide +kernel : (["bb", "aa", "b", "abb", "bba"] : List Str).all (fun t => decide (t.length ≤ 50000)) = true) t hc)) (fun H' s => k2 _ ((same_new hb).trans s))
      rw [show ((["bb", "aa", "b", "abb", "bba"] : List Str).map fun t => V.bl (met (tl "a") (tl t) (.pos .double))) = [true, false, false, true, false].map V.bl from by decide +kernel] at e9
      walk_at "kk"
      intro l10 hl11
      refine k_neBools (bs := [true, false, false, true, false]) (cs := [true, false, false, true, false]) (Evl.sq_of ((same_new hl11) _ _ e9)) (Evl.sq_of upd_same) ?_
      walk_at "kk"
      intro t12 ht13
      walk_at "kk"
      refine k_onT (Evl.st_of upd_same) (lc_keysT (["aab", "aabab", "baba"] : List Str) "" (fun v t => v = .str t) (fun t => .bl (met (tl "a") (tl t) (.pos (.runs 2)))) (Evl.st_of upd_same) rfl (rel_strs ["aab", "aabab", "baba"]) (by decide) (by intro _; rfl) (fun v t Hx hc hv sx Q2 k2 => ?_) (fun D14 H15 n16 s17 e18 => ?_))
      · subst hv
        walk_at "kk"
        intro b hb
        walk_at "kk"
        exact holds_ok T (c := .pos (.runs 2)) (.tup (Evl.st_of upd_same) (.cons (.str _) (.cons (.int _) .nil))) (cfit (by decide +kernel)) (of_decide_eq_true (List.all_eq_true.mp (by decide +kernel : (["aab", "aabab", "baba"] : List Str).all (fun t => decide (t.length ≤ 50000)) = true) t hc)) (fun H' s => k2 _ ((same_new hb).trans s))
      rw [show ((["aab", "aabab", "baba"] : List Str).map fun t => V.bl (met (tl "a") (tl t) (.pos (.runs 2)))) = [false, true, false].map V.bl from by decide +kernel] at e18
      walk_at "kk"
      intro t19 ht20
      walk_at "kk"
      refine k_onT (Evl.st_of upd_same) (lc_keysT (["a", "bba", "ab"] : List Str) "" (fun v t => v = .str t) (fun t => .bl (met (tl "a") (tl t) (.pos (.shape "ov")))) (Evl.st_of upd_same) rfl (rel_strs ["a", "bba", "ab"]) (by decide) (by intro _; rfl) (fun v t Hx hc hv sx Q2 k2 => ?_) (fun D21 H22 n23 s24 e25 => ?_))
      · subst hv
        walk_at "kk"
        intro b hb
        walk_at "kk"
        exact holds_ok T (c := .pos (.shape "ov")) (.tup (Evl.st_of upd_same) (.cons (.str _) (.cons (.str _) .nil))) (cfit (by decide +kernel)) (of_decide_eq_true (List.all_eq_true.mp (by decide +kernel : (["a", "bba", "ab"] : List Str).all (fun t => decide (t.length ≤ 50000)) = true) t hc)) (fun H' s => k2 _ ((same_new hb).trans s))
      rw [show ((["a", "bba", "ab"] : List Str).map fun t => V.bl (met (tl "a") (tl t) (.pos (.shape "ov")))) = [false, true, false].map V.bl from by decide +kernel] at e25
      refine k_cat (s24 _ _ ((same_new ht20) _ _ e18)) e25 (by simp) fun p26 hp27 => ?_
      have e28 := upd_same (H := H22) (a := p26) (o := .lst ([false, true, false].map V.bl ++ [false, true, false].map V.bl))
      rw [← List.map_append] at e28
      dsimp only [List.cons_append, List.nil_append] at e28
      walk_at "kk"
      intro l29 hl30
      refine k_neBools (bs := [false, true, false, false, true, false]) (cs := [false, true, false, false, true, false]) (Evl.sq_of ((same_new hl30) _ _ e28)) (Evl.sq_of upd_same) ?_
      walk_at "kk"
      intro b31 hb32
      walk_at "kk"
      refine holds_ok T (c := .pos (.least 0)) (.tup (Evl.st_of upd_same) (.cons (.str _) (.cons (.int _) .nil))) (cfit (by decide +kernel)) (by decide +kernel) (fun H33 s34 => ?_)
      rw [show met (tl "") (tl "") (.pos (.least 0)) = true from by decide +kernel]
      walk_at "kk"
      intro b35 hb36
      walk_at "kk"
      refine holds_ok T (c := .pos (.runs 0)) (.tup (Evl.st_of upd_same) (.cons (.str _) (.cons (.int _) .nil))) (cfit (by decide +kernel)) (by decide +kernel) (fun H37 s38 => ?_)
      rw [show met (tl "") (tl "") (.pos (.runs 0)) = true from by decide +kernel]
      walk_at "kk"
      intro t39 ht40
      walk_at "kk"
      refine k_onT (Evl.st_of upd_same) (lc_keysT (["ov", "vb", "vov"] : List Str) "" (fun v t => v = .str t) (fun t => .bl (met (tl "oe") (tl t) (.pos (.runs 1)))) (Evl.st_of upd_same) rfl (rel_strs ["ov", "vb", "vov"]) (by decide) (by intro _; rfl) (fun v t Hx hc hv sx Q2 k2 => ?_) (fun D41 H42 n43 s44 e45 => ?_))
      · subst hv
        walk_at "kk"
        intro b hb
        walk_at "kk"
        exact holds_ok T (c := .pos (.runs 1)) (.tup (Evl.st_of upd_same) (.cons (.str _) (.cons (.int _) .nil))) (cfit (by decide +kernel)) (of_decide_eq_true (List.all_eq_true.mp (by decide +kernel : (["ov", "vb", "vov"] : List Str).all (fun t => decide (t.length ≤ 50000)) = true) t hc)) (fun H' s => k2 _ ((same_new hb).trans s))
      rw [show ((["ov", "vb", "vov"] : List Str).map fun t => V.bl (met (tl "oe") (tl t) (.pos (.runs 1)))) = [true, false, true].map V.bl from by decide +kernel] at e45
      walk_at "kk"
      intro t46 ht47
      walk_at "kk"
      refine k_onT (Evl.st_of upd_same) (lc_keysT (["ve", "vo", "vl", "ov"] : List Str) "" (fun v t => v = .str t) (fun t => .bl (met (tl "oe") (tl t) (.pos (.shape "ov")))) (Evl.st_of upd_same) rfl (rel_strs ["ve", "vo", "vl", "ov"]) (by decide) (by intro _; rfl) (fun v t Hx hc hv sx Q2 k2 => ?_) (fun D48 H49 n50 s51 e52 => ?_))
      · subst hv
        walk_at "kk"
        intro b hb
        walk_at "kk"
        exact holds_ok T (c := .pos (.shape "ov")) (.tup (Evl.st_of upd_same) (.cons (.str _) (.cons (.str _) .nil))) (cfit (by decide +kernel)) (of_decide_eq_true (List.all_eq_true.mp (by decide +kernel : (["ve", "vo", "vl", "ov"] : List Str).all (fun t => decide (t.length ≤ 50000)) = true) t hc)) (fun H' s => k2 _ ((same_new hb).trans s))
      rw [show ((["ve", "vo", "vl", "ov"] : List Str).map fun t => V.bl (met (tl "oe") (tl t) (.pos (.shape "ov")))) = [true, true, false, false].map V.bl from by decide +kernel] at e52
      refine k_cat (s51 _ _ ((same_new ht47) _ _ e45)) e52 (by simp) fun p53 hp54 => ?_
      have e55 := upd_same (H := H49) (a := p53) (o := .lst ([true, false, true].map V.bl ++ [true, true, false, false].map V.bl))
      rw [← List.map_append] at e55
      dsimp only [List.cons_append, List.nil_append] at e55
      walk_at "kk"
      intro l56 hl57
      refine k_neBools (bs := [true, false, true, true, true, false, false]) (cs := [true, false, true, true, true, false, false]) (Evl.sq_of ((same_new hl57) _ _ e55)) (Evl.sq_of upd_same) ?_
      walk_at "k"
      walk_at "k"
      walk_at "k"
      walk_at "k"
      apply k_asg
      apply k_lcT
      apply k_lit (S := [])
      · walk_at "lit"
      · exact live_nil
      intro v64 H65 s66 d67
      obtain ⟨t68, x69, rfl, e62, hD63⟩ := d67.tupAt
      have hD63 : DpAll K H65 x69 (cs2.map enc) := DpAll.up (hd_same _ _) (hD63.dp (by decide +kernel))
      refine k_onT (Evl.st_of e62) (lc_keysT cs2 (.pos .vowel) (fun v c => Dp K H65 v (enc c)) (fun c => .bl (met (tl "a") (tl "1b") c)) (Evl.st_of e62) (by rw [hD63.len]; rfl) (rel_conds hD63 _) (by decide) (by intro _; rfl) (fun v c Hx hc hv sx Q2 k2 => ?_) (fun D58 H59 n60 s61 e70 => ?_))
      · walk_at "kk"
        exact holds_ok T (hv.up sx) (cfit (List.all_eq_true.mp (by decide +kernel : cs2.all fitB = true) c hc)) (by decide +kernel) k2
      rw [show (cs2.map fun c => V.bl (met (tl "a") (tl "1b") c)) = [false, false, true, false].map V.bl from by decide +kernel] at e70
      walk_at "kk"
      intro l71 hl72
      refine k_neBools (bs := [false, false, true, false]) (cs := [false, false, true, false]) (Evl.sq_of ((same_new hl72) _ _ e70)) (Evl.sq_of upd_same) ?_
      walk_at "kk"
      intro t73 ht74
      walk_at "kk"
      refine k_onT (Evl.st_of upd_same) (lc_keysT (["bab", "aab", "ab", "babab", "bbab", "cbaa"] : List Str) "" (fun v t => v = .str t) (fun t => .bl (met (tl "a") (tl t) (.pos (.shape "ovo")))) (Evl.st_of upd_same) rfl (rel_strs ["bab", "aab", "ab", "babab", "bbab", "cbaa"]) (by decide) (by intro _; rfl) (fun v t Hx hc hv sx Q2 k2 => ?_) (fun D75 H76 n77 s78 e79 => ?_))
      · subst hv
        walk_at "kk"
        intro b hb
        walk_at "kk"
        exact holds_ok T (c := .pos (.shape "ovo")) (.tup (Evl.st_of upd_same) (.cons (.str _) (.cons (.str _) .nil))) (cfit (by decide +kernel)) (of_decide_eq_true (List.all_eq_true.mp (by decide +kernel : (["bab", "aab", "ab", "babab", "bbab", "cbaa"] : List Str).all (fun t => decide (t.length ≤ 50000)) = true) t hc)) (fun H' s => k2 _ ((same_new hb).trans s))
      rw [show ((["bab", "aab", "ab", "babab", "bbab", "cbaa"] : List Str).map fun t => V.bl (met (tl "a") (tl t) (.pos (.shape "ovo")))) = [true, false, false, true, true, false].map V.bl from by decide +kernel] at e79
      walk_at "kk"
      intro l80 hl81
      refine k_neBools (bs := [true, false, false, true, true, false]) (cs := [true, false, false, true, true, false]) (Evl.sq_of ((same_new hl81) _ _ e79)) (Evl.sq_of upd_same) ?_
      walk_at "kk"
      intro c1 hc1
      walk_at "kk"
      intro c2 hc2
      walk_at "kk"
      have dz := deepB_ok (d := .tuple [.str "ends", .tuple ((["A", "1 ", ""] : List Str).map .str)]) (by decide +kernel)
      refine ⟨.ref c2, .tuple [.str "ends", .tuple ((["A", "1 ", ""] : List Str).map .str)], rfl, .inl (ends_dp (ts := ["A", "1 ", ""]) upd_same ((same_new hc2) _ _ upd_same)), dz.1, dz.2, fun Hz sz => ?_⟩
      rw [show isCd (.tuple [.str "ends", .tuple ((["A", "1 ", ""] : List Str).map .str)]) = true from by decide +kernel]
      walk_at "kk"
      intro c3 hc3
      walk_at "kk"
      intro c4 hc4
      walk_at "kk"
      refine holds_ok T (c := .pos (.ends ["b-", "A"])) (ends_dp (ts := ["b-", "A"]) upd_same ((same_new hc4) _ _ upd_same)) (cfit (by decide +kernel)) (by decide +kernel) (fun Hw sw => ?_)
      rw [show met (tl "AA") (tl "Ab-") (.pos (.ends ["b-", "A"])) = true from by decide +kernel]
      walk_at "k"
      walk_at "k"
      walk_at "k"
      walk_at "k"
      walk_at "k"
      walk_at "k"
      apply k_ifS
      apply k_test
      apply k_op
      apply k_lcT
      apply k_lit (S := [])
      · walk_at "lit"
      · exact live_nil
      intro v88 H89 s90 d91
      obtain ⟨t92, x93, rfl, e86, hD87⟩ := d91.tupAt
      have hD87 : DpAll K H89 x93 (cs3.map enc) := DpAll.up (hd_same _ _) (hD87.dp (by decide +kernel))
      refine k_onT (Evl.st_of e86) (lc_keysT cs3 (.pos .vowel) (fun v c => Dp K H89 v (enc c)) (fun c => .bl (met (tl "AA") (tl "Ab-") c)) (Evl.st_of e86) (by rw [hD87.len]; rfl) (rel_conds hD87 _) (by decide) (by intro _; rfl) (fun v c Hx hc hv sx Q2 k2 => ?_) (fun D82 H83 n84 s85 e94 => ?_))
      · walk_at "kk"
        exact holds_ok T (hv.up sx) (cfit (List.all_eq_true.mp (by decide +kernel : cs3.all fitB = true) c hc)) (by decide +kernel) k2
      rw [show (cs3.map fun c => V.bl (met (tl "AA") (tl "Ab-") c)) = [true, false, true].map V.bl from by decide +kernel] at e94
      walk_at "kk"
      intro l95 hl96
      refine k_neBools (bs := [true, false, true]) (cs := [true, false, true]) (Evl.sq_of ((same_new hl96) _ _ e94)) (Evl.sq_of upd_same) ?_
      walk_at "kk"
      intro c5 hc5
      walk_at "kk"
      have dy := deepB_ok (d := .tuple [.str "shape", .str ""]) (by decide +kernel)
      refine ⟨.ref c5, .tuple [.str "shape", .str ""], rfl, .inl (.tup (Evl.st_of upd_same) (.cons (.str _) (.cons (.str _) .nil))), dy.1, dy.2, fun Hy sy => ?_⟩
      rw [show isCd (.tuple [.str "shape", .str ""]) = true from by decide +kernel]
      walk_at "kk"
      exact q _

end
end K01
set_option Elab.async false
set_option linter.all false
set_option maxRecDepth 100000
set_option maxHeartbeats 4000000
namespace L2
open PySem PySem.Spec PyProof.Rows TL
/-! ### the head of a law whose defs want to know that no text is being made -/
section
variable {P : Program} {w : World} {K : PySem.W.Frag} {mg mb : Str → Option Value} {k : Nat} {fa a : Addr} {fd : FuncData} {x : Str} {sp : Sp} {s : Shared} {vs : List Value} {ns : List Int}
/-- what the caller of a law gets -/
abbrev Told (s : Shared) (r : Result) (s' : Shared) : Prop := r = .ok (.ret (.bool true)) ∧ OldK s.heap s'.heap ∧ s'.os = s.os ∧ AllBare s'.gens
/-- from a heap in which at most the script is ours -/
theorem law_from (isIn : K.In s.heap) (nsG : s.heap.Ns mainGlobals mg) (nsB : s.heap.Ns builtinsNs mb) (blt : ∀ y : Str, y ≠ "__name__" → mb y = bootBuiltins y) (lim : s.heap.NoLimit) (noG : s.gens = #[])
    (obj : s.heap.get? a = some { cls := .type "list", data := .seq vs.toArray }) (room : Room k callerA) (F : ∀ base : Heap, K.In base → base.Ns mainGlobals mg → FnG P w K mg base k fa fd [x] sp)
    (bind : ∀ (s : Shared) (u : Value), BindsTo s fd ⟨[u], []⟩ [(x, u)]) {H : Hp} (only : Only H) (ask : sp [.ref a] H (fun v _ => v = .bl true) fun _ _ _ => False) (hok : HOk P w H s.heap)
    (mine : ∀ b, H b ≠ none → b = a) (outK : H a ≠ none → K.lookup a = none) : codeAny (model P w) callerA (.call (.ref fa) ⟨[.ref a], []⟩) (Told s) s := by
  have keep : ∀ {b : Addr} {o : Obj}, s.heap.get? b = some o → H b = none → (hidT s.heap H).get? b = some o := fun e z => hidT_get e z
  have isNs : ∀ {b : Addr} {m : Str → Option Value}, s.heap.Ns b m → (hidT s.heap H).Ns b m := by
    intro b m h
    obtain ⟨o, es, ep, e, dt, r⟩ := h
    refine ⟨o, es, ep, keep e ?_, dt, r⟩
    cases q : H b with
    | none => rfl
    | some u =>
      exfalso
      have z := mine b (by simp [q])
      subst z
      cases obj.symm.trans e
      cases (show Data.seq vs.toArray _ = Data.dict es ep from dt)
  have inB : K.In (hidT s.heap H) := fun b o e => keep (isIn b o e) (by
    cases q : H b with
    | none => rfl
    | some u =>
      exfalso
      have z := mine b (by simp [q])
      subst z
      cases (outK (by simp [q])).symm.trans e)
  obtain ⟨mc, l1, l2⟩ := lim
  have md : Mod K mg (hidT s.heap H) := ⟨inB, isNs nsG, ⟨mb, isNs nsB, blt⟩, mc, isNs l1, l2⟩
  have e0 : Env0 P w K mg (hidT s.heap H) callerA [] s H := {
    frames := rfl
    mod := md
    bs := fun b o e => of_hidT e
    bsz := Nat.le_of_eq (hidT_size _ _)
    funs := trivial
    frf := fun b m => (nomatch (show b ∈ ([] : List Addr) from m))
    hok := hok
    bare := .of_eq noG }
  refine codeAny_mono ((F _ inB (isNs nsG)).run callerA [] s H ⟨[.ref a], []⟩ [.ref a] [.ref a] _ _ room rfl e0 (bind s (.ref a)) (.cons rfl .nil) ask) fun r s' out => ?_
  cases r with
  | error _ => exact out.elim
  | ok fl =>
    cases fl with
    | next | brk | cont => exact out.elim
    | ret u =>
      obtain ⟨v, H1, os, bare, un, hok1, rv, q⟩ := out
      have q' : v = .bl true := q
      subst q'
      cases (show u = Value.bool true from rv)
      refine ⟨rfl, OldK.of_keep fun b o e => ?_, os, bare⟩
      cases z : H b with
      | none => exact un.keep b o e z (fun m => (nomatch (show b ∈ ([] : List Addr) from m))) (fun m => nomatch m)
      | some u =>
        rcases only b with y | ⟨ob, xs, y⟩
        · cases z.symm.trans y
        · obtain ⟨g1, _⟩ := hok b _ y
          obtain ⟨g2, _⟩ := hok1 b _ (un.frzs b ob _ y)
          cases e.symm.trans g1
          exact g2
theorem law_told (isIn : K.In s.heap) (nsG : s.heap.Ns mainGlobals mg) (nsB : s.heap.Ns builtinsNs mb) (blt : ∀ y : Str, y ≠ "__name__" → mb y = bootBuiltins y) (lim : s.heap.NoLimit) (noG : s.gens = #[])
    (obj : s.heap.get? a = some { cls := .type "list", data := .seq vs.toArray }) (intz : IntsAre vs ns) (len : ns.length ≤ sizeLine) (room : Room k callerA) (F : ∀ base : Heap, K.In base → base.Ns mainGlobals mg → FnG P w K mg base k fa fd [x] sp)
    (bind : ∀ (s : Shared) (u : Value), BindsTo s fd ⟨[u], []⟩ [(x, u)]) (ask : ∀ H : Hp, Only H → SqL K H a (ns.map V.int) → sp [.ref a] H (fun v _ => v = .bl true) fun _ _ _ => False) :
    codeAny (model P w) callerA (.call (.ref fa) ⟨[.ref a], []⟩) (Told s) s := by
  have rel := vals_ints intz
  cases hk : K.lookup a with
  | some o =>
    cases obj.symm.trans (isIn a o hk)
    have no : Only (fun _ => none) := fun _ => .inl rfl
    refine law_from isIn nsG nsB blt lim noG obj room F bind no (ask _ no ?_) (fun b u z => (nomatch (show (none : Option HO) = some u from z))) (fun b z => absurd rfl z) (fun z => absurd rfl z)
    exact .inr ⟨_, vs.toArray, _, hk, rfl, rfl, rfl, by rw [List.size_toArray, intz.length]; exact len, by simpa using rel⟩
  | none =>
    have on : Only (fun b => if b = a then some (.frz { cls := .type "list", data := .seq vs.toArray } (.lst (ns.map V.int))) else none) := fun b => by
      by_cases z : b = a
      · exact .inr ⟨_, _, if_pos z⟩
      · exact .inl (if_neg z)
    refine law_from isIn nsG nsB blt lim noG obj room F bind on (ask _ on (.inl (.inr ⟨_, if_pos rfl⟩))) (fun b u z => ?_) (fun b z => ?_) (fun _ => hk)
    · by_cases y : b = a
      · cases (if_pos y).symm.trans z
        subst y
        exact ⟨obj, by rw [List.length_map]; exact len, vs, _, rel, obj⟩
      · cases (if_neg y).symm.trans z
    · by_cases y : b = a
      · exact y
      · exact absurd (if_neg y) z
end
theorem walk_ofG {l : PySem.W.OpenLaw} {n k : Nat} {q : Program} {loose : List Str} {XP : (Str → Option Value) → Heap → Prop} {YP : World → Heap → Prop} {d : DefRec} {K : Params → PySem.W.Frag} {sp : World → Sp} {x : Str}
    (most : l.most = some n) (small : n ≤ sizeLine) (nodef : d.params.defaults = []) (room : Room k callerA) (isIn : ∀ (w : World) (h : Heap), YP w h → (K w.params).In h)
    (F : ∀ (w : World) (mg : Str → Option Value) (fa : Addr) (h : Heap), (K w.params).In h → h.Ns mainGlobals mg → mg d.name = some (.ref fa) →
      ∃ fd : FuncData, (∀ (s : Shared) (u : Value), BindsTo s fd ⟨[u], []⟩ [(x, u)]) ∧ ∀ base : Heap, (K w.params).In base → base.Ns mainGlobals mg → FnG l.prog w (K w.params) mg base k fa fd [x] (sp w))
    (ask : ∀ (w : World) (H : Hp) (a : Addr) (ns : List Int), ns.length ≤ n → Only H → SqL (K w.params) H a (ns.map V.int) → sp w [.ref a] H (fun v _ => v = .bl true) fun _ _ _ => False) :
    PySem.W.WalkO q loose XP YP l.row.toRowW d [] (fun f vs => PySem.call f vs) := by
  refine Att.attach_call most nodef fun w s0 s1 mg mb fa o pm cd doc a vs ns G Y ho hd hcd hmg obj intz len noG => ?_
  have inH := isIn w _ Y
  obtain ⟨fd, bind, ok⟩ := F w mg fa _ inH G.T.g hmg
  exact law_told inH G.T.g G.T.b G.T.builtins G.T.nolimit noG obj intz (Nat.le_trans len small) room ok bind fun H on sq => ask w H a ns len on sq
/-- what an except clause tells -/
theorem exm_of {K : PySem.W.Frag} {A B : Addr} {b : Bool} (h1 : PySem.W.subIn K (.ref B) (.type "BaseException") = some true) (h2 : PySem.W.isClsIn K B = true) (h3 : PySem.W.typeIn K (.ref B) = some (.type "type")) (h4 : PySem.W.subIn K (.ref A) (.ref B) = some b) :
    PySem.W.exmOne K (.ref A) (.ref B) = some b := by
  have c1 : (PySem.W.subIn K (.ref B) (.type "BaseException") == some true) = true := by rw [h1]; rfl
  have c2 : ((PySem.W.clsIn K B).isSome && PySem.W.typeIn K (.ref B) == some (.type "type")) = true := by
    rw [show (PySem.W.clsIn K B).isSome = true from h2, h3]
    rfl
  unfold PySem.W.exmOne
  rw [if_pos c1]
  show (if _ then _ else _) = _
  rw [if_pos c2]
  exact h4
end L2
set_option Elab.async false
set_option linter.all false
set_option maxRecDepth 100000
set_option maxHeartbeats 4000000
namespace K01
open PySem PySem.Spec PyProof.Rows L2 TL Mi
theorem all_mk {l : PySem.W.OpenLaw} {w : World} {K : PySem.W.Frag} {h : Heap} {mg : Str → Option Value} {fa : Addr} (X : K.In h) (G : h.Ns mainGlobals mg) (hfa : mg "law" = some (.ref fa))
    {f_is_number f_is_text_of f_is_condition f_holds f_is_met f_has_vowel f_count_runs f_is_plain f_is_plain_met f_ends_double f_has_shape f_law_mixed f_law_purse f_law_draw f_law_letters f_law_text f_law_condition f_law_runs f_law_holds f_law_caught f_law_doors_right f_law_right f_law C_StemError C_InvalidText g_InvalidText N_InvalidText C_InvalidConditions g_InvalidConditions N_InvalidConditions : Addr}
    {od_is_number an_is_number od_is_text_of an_is_text_of od_is_condition an_is_condition od_holds an_holds od_is_met an_is_met od_has_vowel an_has_vowel od_count_runs an_count_runs od_is_plain an_is_plain od_is_plain_met an_is_plain_met od_ends_double an_ends_double od_has_shape an_has_shape od_law_mixed an_law_mixed od_law_purse an_law_purse od_law_draw an_law_draw od_law_letters an_law_letters od_law_text an_law_text od_law_condition an_law_condition od_law_runs an_law_runs od_law_holds an_law_holds od_law_caught an_law_caught od_law_doors_right an_law_doors_right od_law_right an_law_right od_law an_law iod_InvalidText ian_InvalidText dd_InvalidText iod_InvalidConditions ian_InvalidConditions dd_InvalidConditions : Option Addr}
    {sl_is_number sl_is_text_of sl_is_condition sl_holds sl_is_met sl_has_vowel sl_count_runs sl_is_plain sl_is_plain_met sl_ends_double sl_has_shape sl_law_mixed sl_law_purse sl_law_draw sl_law_letters sl_law_text sl_law_condition sl_law_runs sl_law_holds sl_law_caught sl_law_doors_right sl_law_right sl_law isl_InvalidText isl_InvalidConditions : Array (Option Value)}
    {oc_is_number kV_is_number dc_is_number pm_is_number cd_is_number ct_is_number oc_is_text_of kV_is_text_of dc_is_text_of pm_is_text_of cd_is_text_of ct_is_text_of oc_is_condition kV_is_condition dc_is_condition pm_is_condition cd_is_condition ct_is_condition oc_holds kV_holds dc_holds pm_holds cd_holds ct_holds oc_is_met kV_is_met dc_is_met pm_is_met cd_is_met ct_is_met oc_has_vowel kV_has_vowel dc_has_vowel pm_has_vowel cd_has_vowel ct_has_vowel oc_count_runs kV_count_runs dc_count_runs pm_count_runs cd_count_runs ct_count_runs oc_is_plain kV_is_plain dc_is_plain pm_is_plain cd_is_plain ct_is_plain oc_is_plain_met kV_is_plain_met dc_is_plain_met pm_is_plain_met cd_is_plain_met ct_is_plain_met oc_ends_double kV_ends_double dc_ends_double pm_ends_double cd_ends_double ct_ends_double oc_has_shape kV_has_shape dc_has_shape pm_has_shape cd_has_shape ct_has_shape oc_law_mixed kV_law_mixed dc_law_mixed pm_law_mixed cd_law_mixed ct_law_mixed oc_law_purse kV_law_purse dc_law_purse pm_law_purse cd_law_purse ct_law_purse oc_law_draw kV_law_draw dc_law_draw pm_law_draw cd_law_draw ct_law_draw oc_law_letters kV_law_letters dc_law_letters pm_law_letters cd_law_letters ct_law_letters oc_law_text kV_law_text dc_law_text pm_law_text cd_law_text ct_law_text oc_law_condition kV_law_condition dc_law_condition pm_law_condition cd_law_condition ct_law_condition oc_law_runs kV_law_runs dc_law_runs pm_law_runs cd_law_runs ct_law_runs oc_law_holds kV_law_holds dc_law_holds pm_law_holds cd_law_holds ct_law_holds oc_law_caught kV_law_caught dc_law_caught pm_law_caught cd_law_caught ct_law_caught oc_law_doors_right kV_law_doors_right dc_law_doors_right pm_law_doors_right cd_law_doors_right ct_law_doors_right oc_law_right kV_law_right dc_law_right pm_law_right cd_law_right ct_law_right oc_law kV_law dc_law pm_law cd_law ct_law ioc_InvalidText ikV_InvalidText idc_InvalidText ipm_InvalidText icd_InvalidText ict_InvalidText ioc_InvalidConditions ikV_InvalidConditions idc_InvalidConditions ipm_InvalidConditions icd_InvalidConditions ict_InvalidConditions : Value}
    {nm_InvalidText q_InvalidText : Str} {bs_InvalidText sub_InvalidText : List Value} {sn_InvalidText : List Str} {ab_InvalidText : Bool} {col_InvalidText : Option Bool} {m0_InvalidText m1_InvalidText m2_InvalidText m3_InvalidText m5_InvalidText : Option Value}
    {nm_InvalidConditions q_InvalidConditions : Str} {bs_InvalidConditions sub_InvalidConditions : List Value} {sn_InvalidConditions : List Str} {ab_InvalidConditions : Bool} {col_InvalidConditions : Option Bool} {m0_InvalidConditions m1_InvalidConditions m2_InvalidConditions m3_InvalidConditions m5_InvalidConditions : Option Value}
    (a_is_number : PySem.W.nsIn K mainGlobals "is_number" = some (some (.ref f_is_number)))
    (l_is_number : K.lookup f_is_number = some ⟨oc_is_number, od_is_number, .func (PySem.W.fnOf "is_number" "is_number" (defArgs s_is_number) (defBody s_is_number) (defScope s_is_number) .none kV_is_number dc_is_number pm_is_number an_is_number cd_is_number ct_is_number), sl_is_number⟩)
    (c_is_number : PySem.W.codeIn K cd_is_number "is_number" = true) (k_is_number : PySem.W.keepIn K (.ref f_is_number) = true)
    (a_is_text_of : PySem.W.nsIn K mainGlobals "is_text_of" = some (some (.ref f_is_text_of)))
    (l_is_text_of : K.lookup f_is_text_of = some ⟨oc_is_text_of, od_is_text_of, .func (PySem.W.fnOf "is_text_of" "is_text_of" (defArgs s_is_text_of) (defBody s_is_text_of) (defScope s_is_text_of) .none kV_is_text_of dc_is_text_of pm_is_text_of an_is_text_of cd_is_text_of ct_is_text_of), sl_is_text_of⟩)
    (c_is_text_of : PySem.W.codeIn K cd_is_text_of "is_text_of" = true) (k_is_text_of : PySem.W.keepIn K (.ref f_is_text_of) = true)
    (a_is_condition : PySem.W.nsIn K mainGlobals "is_condition" = some (some (.ref f_is_condition)))
    (l_is_condition : K.lookup f_is_condition = some ⟨oc_is_condition, od_is_condition, .func (PySem.W.fnOf "is_condition" "is_condition" (defArgs s_is_condition) (defBody s_is_condition) (defScope s_is_condition) .none kV_is_condition dc_is_condition pm_is_condition an_is_condition cd_is_condition ct_is_condition), sl_is_condition⟩)
    (c_is_condition : PySem.W.codeIn K cd_is_condition "is_condition" = true) (k_is_condition : PySem.W.keepIn K (.ref f_is_condition) = true)
    (a_holds : PySem.W.nsIn K mainGlobals "holds" = some (some (.ref f_holds)))
    (l_holds : K.lookup f_holds = some ⟨oc_holds, od_holds, .func (PySem.W.fnOf "holds" "holds" (defArgs s_holds) (defBody s_holds) (defScope s_holds) .none kV_holds dc_holds pm_holds an_holds cd_holds ct_holds), sl_holds⟩)
    (c_holds : PySem.W.codeIn K cd_holds "holds" = true) (k_holds : PySem.W.keepIn K (.ref f_holds) = true)
    (a_is_met : PySem.W.nsIn K mainGlobals "is_met" = some (some (.ref f_is_met)))
    (l_is_met : K.lookup f_is_met = some ⟨oc_is_met, od_is_met, .func (PySem.W.fnOf "is_met" "is_met" (defArgs s_is_met) (defBody s_is_met) (defScope s_is_met) .none kV_is_met dc_is_met pm_is_met an_is_met cd_is_met ct_is_met), sl_is_met⟩)
    (c_is_met : PySem.W.codeIn K cd_is_met "is_met" = true) (k_is_met : PySem.W.keepIn K (.ref f_is_met) = true)
    (a_has_vowel : PySem.W.nsIn K mainGlobals "has_vowel" = some (some (.ref f_has_vowel)))
    (l_has_vowel : K.lookup f_has_vowel = some ⟨oc_has_vowel, od_has_vowel, .func (PySem.W.fnOf "has_vowel" "has_vowel" (defArgs s_has_vowel) (defBody s_has_vowel) (defScope s_has_vowel) .none kV_has_vowel dc_has_vowel pm_has_vowel an_has_vowel cd_has_vowel ct_has_vowel), sl_has_vowel⟩)
    (c_has_vowel : PySem.W.codeIn K cd_has_vowel "has_vowel" = true) (k_has_vowel : PySem.W.keepIn K (.ref f_has_vowel) = true)
    (a_count_runs : PySem.W.nsIn K mainGlobals "count_runs" = some (some (.ref f_count_runs)))
    (l_count_runs : K.lookup f_count_runs = some ⟨oc_count_runs, od_count_runs, .func (PySem.W.fnOf "count_runs" "count_runs" (defArgs s_count_runs) (defBody s_count_runs) (defScope s_count_runs) .none kV_count_runs dc_count_runs pm_count_runs an_count_runs cd_count_runs ct_count_runs), sl_count_runs⟩)
    (c_count_runs : PySem.W.codeIn K cd_count_runs "count_runs" = true) (k_count_runs : PySem.W.keepIn K (.ref f_count_runs) = true)
    (a_is_plain : PySem.W.nsIn K mainGlobals "_is_plain" = some (some (.ref f_is_plain)))
    (l_is_plain : K.lookup f_is_plain = some ⟨oc_is_plain, od_is_plain, .func (PySem.W.fnOf "_is_plain" "_is_plain" (defArgs s_is_plain) (defBody s_is_plain) (defScope s_is_plain) .none kV_is_plain dc_is_plain pm_is_plain an_is_plain cd_is_plain ct_is_plain), sl_is_plain⟩)
    (c_is_plain : PySem.W.codeIn K cd_is_plain "_is_plain" = true) (k_is_plain : PySem.W.keepIn K (.ref f_is_plain) = true)
    (a_is_plain_met : PySem.W.nsIn K mainGlobals "_is_plain_met" = some (some (.ref f_is_plain_met)))
    (l_is_plain_met : K.lookup f_is_plain_met = some ⟨oc_is_plain_met, od_is_plain_met, .func (PySem.W.fnOf "_is_plain_met" "_is_plain_met" (defArgs s_is_plain_met) (defBody s_is_plain_met) (defScope s_is_plain_met) .none kV_is_plain_met dc_is_plain_met pm_is_plain_met an_is_plain_met cd_is_plain_met ct_is_plain_met), sl_is_plain_met⟩)
    (c_is_plain_met : PySem.W.codeIn K cd_is_plain_met "_is_plain_met" = true) (k_is_plain_met : PySem.W.keepIn K (.ref f_is_plain_met) = true)
    (a_ends_double : PySem.W.nsIn K mainGlobals "_ends_double" = some (some (.ref f_ends_double)))
    (l_ends_double : K.lookup f_ends_double = some ⟨oc_ends_double, od_ends_double, .func (PySem.W.fnOf "_ends_double" "_ends_double" (defArgs s_ends_double) (defBody s_ends_double) (defScope s_ends_double) .none kV_ends_double dc_ends_double pm_ends_double an_ends_double cd_ends_double ct_ends_double), sl_ends_double⟩)
    (c_ends_double : PySem.W.codeIn K cd_ends_double "_ends_double" = true) (k_ends_double : PySem.W.keepIn K (.ref f_ends_double) = true)
    (a_has_shape : PySem.W.nsIn K mainGlobals "_has_shape" = some (some (.ref f_has_shape)))
    (l_has_shape : K.lookup f_has_shape = some ⟨oc_has_shape, od_has_shape, .func (PySem.W.fnOf "_has_shape" "_has_shape" (defArgs s_has_shape) (defBody s_has_shape) (defScope s_has_shape) .none kV_has_shape dc_has_shape pm_has_shape an_has_shape cd_has_shape ct_has_shape), sl_has_shape⟩)
    (c_has_shape : PySem.W.codeIn K cd_has_shape "_has_shape" = true) (k_has_shape : PySem.W.keepIn K (.ref f_has_shape) = true)
    (a_law_mixed : PySem.W.nsIn K mainGlobals "_law_mixed" = some (some (.ref f_law_mixed)))
    (l_law_mixed : K.lookup f_law_mixed = some ⟨oc_law_mixed, od_law_mixed, .func (PySem.W.fnOf "_law_mixed" "_law_mixed" (defArgs s_law_mixed) (defBody s_law_mixed) (defScope s_law_mixed) .none kV_law_mixed dc_law_mixed pm_law_mixed an_law_mixed cd_law_mixed ct_law_mixed), sl_law_mixed⟩)
    (c_law_mixed : PySem.W.codeIn K cd_law_mixed "_law_mixed" = true) (k_law_mixed : PySem.W.keepIn K (.ref f_law_mixed) = true)
    (a_law_purse : PySem.W.nsIn K mainGlobals "_law_purse" = some (some (.ref f_law_purse)))
    (l_law_purse : K.lookup f_law_purse = some ⟨oc_law_purse, od_law_purse, .func (PySem.W.fnOf "_law_purse" "_law_purse" (defArgs s_law_purse) (defBody s_law_purse) (defScope s_law_purse) .none kV_law_purse dc_law_purse pm_law_purse an_law_purse cd_law_purse ct_law_purse), sl_law_purse⟩)
    (c_law_purse : PySem.W.codeIn K cd_law_purse "_law_purse" = true) (k_law_purse : PySem.W.keepIn K (.ref f_law_purse) = true)
    (a_law_draw : PySem.W.nsIn K mainGlobals "_law_draw" = some (some (.ref f_law_draw)))
    (l_law_draw : K.lookup f_law_draw = some ⟨oc_law_draw, od_law_draw, .func (PySem.W.fnOf "_law_draw" "_law_draw" (defArgs s_law_draw) (defBody s_law_draw) (defScope s_law_draw) .none kV_law_draw dc_law_draw pm_law_draw an_law_draw cd_law_draw ct_law_draw), sl_law_draw⟩)
    (c_law_draw : PySem.W.codeIn K cd_law_draw "_law_draw" = true) (k_law_draw : PySem.W.keepIn K (.ref f_law_draw) = true)
    (a_law_letters : PySem.W.nsIn K mainGlobals "_law_letters" = some (some (.ref f_law_letters)))
    (l_law_letters : K.lookup f_law_letters = some ⟨oc_law_letters, od_law_letters, .func (PySem.W.fnOf "_law_letters" "_law_letters" (defArgs s_law_letters) (defBody s_law_letters) (defScope s_law_letters) .none kV_law_letters dc_law_letters pm_law_letters an_law_letters cd_law_letters ct_law_letters), sl_law_letters⟩)
    (c_law_letters : PySem.W.codeIn K cd_law_letters "_law_letters" = true) (k_law_letters : PySem.W.keepIn K (.ref f_law_letters) = true)
    (a_law_text : PySem.W.nsIn K mainGlobals "_law_text" = some (some (.ref f_law_text)))
    (l_law_text : K.lookup f_law_text = some ⟨oc_law_text, od_law_text, .func (PySem.W.fnOf "_law_text" "_law_text" (defArgs s_law_text) (defBody s_law_text) (defScope s_law_text) .none kV_law_text dc_law_text pm_law_text an_law_text cd_law_text ct_law_text), sl_law_text⟩)
    (c_law_text : PySem.W.codeIn K cd_law_text "_law_text" = true) (k_law_text : PySem.W.keepIn K (.ref f_law_text) = true)
    (a_law_condition : PySem.W.nsIn K mainGlobals "_law_condition" = some (some (.ref f_law_condition)))
    (l_law_condition : K.lookup f_law_condition = some ⟨oc_law_condition, od_law_condition, .func (PySem.W.fnOf "_law_condition" "_law_condition" (defArgs s_law_condition) (defBody s_law_condition) (defScope s_law_condition) .none kV_law_condition dc_law_condition pm_law_condition an_law_condition cd_law_condition ct_law_condition), sl_law_condition⟩)
    (c_law_condition : PySem.W.codeIn K cd_law_condition "_law_condition" = true) (k_law_condition : PySem.W.keepIn K (.ref f_law_condition) = true)
    (a_law_runs : PySem.W.nsIn K mainGlobals "_law_runs" = some (some (.ref f_law_runs)))
    (l_law_runs : K.lookup f_law_runs = some ⟨oc_law_runs, od_law_runs, .func (PySem.W.fnOf "_law_runs" "_law_runs" (defArgs s_law_runs) (defBody s_law_runs) (defScope s_law_runs) .none kV_law_runs dc_law_runs pm_law_runs an_law_runs cd_law_runs ct_law_runs), sl_law_runs⟩)
    (c_law_runs : PySem.W.codeIn K cd_law_runs "_law_runs" = true) (k_law_runs : PySem.W.keepIn K (.ref f_law_runs) = true)
    (a_law_holds : PySem.W.nsIn K mainGlobals "_law_holds" = some (some (.ref f_law_holds)))
    (l_law_holds : K.lookup f_law_holds = some ⟨oc_law_holds, od_law_holds, .func (PySem.W.fnOf "_law_holds" "_law_holds" (defArgs s_law_holds) (defBody s_law_holds) (defScope s_law_holds) .none kV_law_holds dc_law_holds pm_law_holds an_law_holds cd_law_holds ct_law_holds), sl_law_holds⟩)
    (c_law_holds : PySem.W.codeIn K cd_law_holds "_law_holds" = true) (k_law_holds : PySem.W.keepIn K (.ref f_law_holds) = true)
    (a_law_caught : PySem.W.nsIn K mainGlobals "_law_caught" = some (some (.ref f_law_caught)))
    (l_law_caught : K.lookup f_law_caught = some ⟨oc_law_caught, od_law_caught, .func (PySem.W.fnOf "_law_caught" "_law_caught" (defArgs s_law_caught) (defBody s_law_caught) (defScope s_law_caught) .none kV_law_caught dc_law_caught pm_law_caught an_law_caught cd_law_caught ct_law_caught), sl_law_caught⟩)
    (c_law_caught : PySem.W.codeIn K cd_law_caught "_law_caught" = true) (k_law_caught : PySem.W.keepIn K (.ref f_law_caught) = true)
    (a_law_doors_right : PySem.W.nsIn K mainGlobals "_law_doors_right" = some (some (.ref f_law_doors_right)))
    (l_law_doors_right : K.lookup f_law_doors_right = some ⟨oc_law_doors_right, od_law_doors_right, .func (PySem.W.fnOf "_law_doors_right" "_law_doors_right" (defArgs s_law_doors_right) (defBody s_law_doors_right) (defScope s_law_doors_right) .none kV_law_doors_right dc_law_doors_right pm_law_doors_right an_law_doors_right cd_law_doors_right ct_law_doors_right), sl_law_doors_right⟩)
    (c_law_doors_right : PySem.W.codeIn K cd_law_doors_right "_law_doors_right" = true) (k_law_doors_right : PySem.W.keepIn K (.ref f_law_doors_right) = true)
    (a_law_right : PySem.W.nsIn K mainGlobals "_law_right" = some (some (.ref f_law_right)))
    (l_law_right : K.lookup f_law_right = some ⟨oc_law_right, od_law_right, .func (PySem.W.fnOf "_law_right" "_law_right" (defArgs s_law_right) (defBody s_law_right) (defScope s_law_right) .none kV_law_right dc_law_right pm_law_right an_law_right cd_law_right ct_law_right), sl_law_right⟩)
    (c_law_right : PySem.W.codeIn K cd_law_right "_law_right" = true) (k_law_right : PySem.W.keepIn K (.ref f_law_right) = true)
    (a_law : PySem.W.nsIn K mainGlobals "law" = some (some (.ref f_law)))
    (l_law : K.lookup f_law = some ⟨oc_law, od_law, .func (PySem.W.fnOf "law" "law" (defArgs s_law) (defBody s_law) (defScope s_law) .none kV_law dc_law pm_law an_law cd_law ct_law), sl_law⟩)
    (c_law : PySem.W.codeIn K cd_law "law" = true) (k_law : PySem.W.keepIn K (.ref f_law) = true)
    (z_all : PySem.W.nsIn K mainGlobals "all" = some none)
    (z_any : PySem.W.nsIn K mainGlobals "any" = some none)
    (z_bool : PySem.W.nsIn K mainGlobals "bool" = some none)
    (z_int : PySem.W.nsIn K mainGlobals "int" = some none)
    (z_isinstance : PySem.W.nsIn K mainGlobals "isinstance" = some none)
    (z_len : PySem.W.nsIn K mainGlobals "len" = some none)
    (z_max : PySem.W.nsIn K mainGlobals "max" = some none)
    (z_min : PySem.W.nsIn K mainGlobals "min" = some none)
    (z_range : PySem.W.nsIn K mainGlobals "range" = some none)
    (z_str : PySem.W.nsIn K mainGlobals "str" = some none)
    (z_tuple : PySem.W.nsIn K mainGlobals "tuple" = some none)
    (z_zip : PySem.W.nsIn K mainGlobals "zip" = some none)
    (aC_StemError : PySem.W.nsIn K mainGlobals "StemError" = some (some (.ref C_StemError)))
    (eC_StemError : PySem.W.subIn K (.ref C_StemError) (.type "BaseException") = some true) (tC_StemError : PySem.W.typeIn K (.ref C_StemError) = some (.type "type")) (iC_StemError : PySem.W.isClsIn K C_StemError = true)
    (aC_InvalidText : PySem.W.nsIn K mainGlobals "InvalidText" = some (some (.ref C_InvalidText)))
    (eC_InvalidText : PySem.W.subIn K (.ref C_InvalidText) (.type "BaseException") = some true) (tC_InvalidText : PySem.W.typeIn K (.ref C_InvalidText) = some (.type "type")) (iC_InvalidText : PySem.W.isClsIn K C_InvalidText = true)
    (x_InvalidText : K.lookup C_InvalidText = some (excClassObj nm_InvalidText q_InvalidText C_InvalidText N_InvalidText bs_InvalidText [.ref C_StemError, .type "ValueError", .type "Exception", .type "BaseException", .type "object"] true sn_InvalidText sub_InvalidText ab_InvalidText col_InvalidText dd_InvalidText m0_InvalidText m1_InvalidText m2_InvalidText m3_InvalidText m5_InvalidText "ValueError.__new__"))
    (sa_InvalidText : PySem.W.findIn K (.ref C_InvalidText) "__setattr__" = some (some (.builtin "object.__setattr__"))) (ga_InvalidText : PySem.W.findIn K (.ref C_InvalidText) "__getattribute__" = some (some (.builtin "BaseException.__getattribute__"))) (gg_InvalidText : PySem.W.findIn K (.ref C_InvalidText) "__getattr__" = some none)
    (i_InvalidText : PySem.W.findIn K (.ref C_InvalidText) "__init__" = some (some (.ref g_InvalidText))) (t_InvalidText : PySem.W.typeIn K (.ref g_InvalidText) = some (.type "function"))
    (il_InvalidText : K.lookup g_InvalidText = some ⟨ioc_InvalidText, iod_InvalidText, .func (PySem.W.fnOf "__init__" "InvalidText.__init__" (defArgs s_InvalidText_init) (defBody s_InvalidText_init) (defScope s_InvalidText_init) .none ikV_InvalidText idc_InvalidText ipm_InvalidText ian_InvalidText icd_InvalidText ict_InvalidText), isl_InvalidText⟩)
    (ic_InvalidText : PySem.W.codeIn K icd_InvalidText "InvalidText.__init__" = true) (ik_InvalidText : PySem.W.keepIn K (.ref g_InvalidText) = true) (kC_InvalidText : PySem.W.keepIn K (.ref C_InvalidText) = true) (hC_InvalidText : PySem.W.hasDictIn K C_InvalidText = true)
    (n_InvalidText_thing : PySem.W.findIn K (.ref C_InvalidText) "thing" = some none)
    (aC_InvalidConditions : PySem.W.nsIn K mainGlobals "InvalidConditions" = some (some (.ref C_InvalidConditions)))
    (eC_InvalidConditions : PySem.W.subIn K (.ref C_InvalidConditions) (.type "BaseException") = some true) (tC_InvalidConditions : PySem.W.typeIn K (.ref C_InvalidConditions) = some (.type "type")) (iC_InvalidConditions : PySem.W.isClsIn K C_InvalidConditions = true)
    (x_InvalidConditions : K.lookup C_InvalidConditions = some (excClassObj nm_InvalidConditions q_InvalidConditions C_InvalidConditions N_InvalidConditions bs_InvalidConditions [.ref C_StemError, .type "ValueError", .type "Exception", .type "BaseException", .type "object"] true sn_InvalidConditions sub_InvalidConditions ab_InvalidConditions col_InvalidConditions dd_InvalidConditions m0_InvalidConditions m1_InvalidConditions m2_InvalidConditions m3_InvalidConditions m5_InvalidConditions "ValueError.__new__"))
    (sa_InvalidConditions : PySem.W.findIn K (.ref C_InvalidConditions) "__setattr__" = some (some (.builtin "object.__setattr__"))) (ga_InvalidConditions : PySem.W.findIn K (.ref C_InvalidConditions) "__getattribute__" = some (some (.builtin "BaseException.__getattribute__"))) (gg_InvalidConditions : PySem.W.findIn K (.ref C_InvalidConditions) "__getattr__" = some none)
    (i_InvalidConditions : PySem.W.findIn K (.ref C_InvalidConditions) "__init__" = some (some (.ref g_InvalidConditions))) (t_InvalidConditions : PySem.W.typeIn K (.ref g_InvalidConditions) = some (.type "function"))
    (il_InvalidConditions : K.lookup g_InvalidConditions = some ⟨ioc_InvalidConditions, iod_InvalidConditions, .func (PySem.W.fnOf "__init__" "InvalidConditions.__init__" (defArgs s_InvalidConditions_init) (defBody s_InvalidConditions_init) (defScope s_InvalidConditions_init) .none ikV_InvalidConditions idc_InvalidConditions ipm_InvalidConditions ian_InvalidConditions icd_InvalidConditions ict_InvalidConditions), isl_InvalidConditions⟩)
    (ic_InvalidConditions : PySem.W.codeIn K icd_InvalidConditions "InvalidConditions.__init__" = true) (ik_InvalidConditions : PySem.W.keepIn K (.ref g_InvalidConditions) = true) (kC_InvalidConditions : PySem.W.keepIn K (.ref C_InvalidConditions) = true) (hC_InvalidConditions : PySem.W.hasDictIn K C_InvalidConditions = true)
    (n_InvalidConditions_place : PySem.W.findIn K (.ref C_InvalidConditions) "place" = some none)
    (s_InvalidText_StemError : PySem.W.subIn K (.ref C_InvalidText) (.ref C_StemError) = some true)
    (s_InvalidText_InvalidText : PySem.W.subIn K (.ref C_InvalidText) (.ref C_InvalidText) = some true)
    (s_InvalidText_InvalidConditions : PySem.W.subIn K (.ref C_InvalidText) (.ref C_InvalidConditions) = some false)
    (s_InvalidConditions_StemError : PySem.W.subIn K (.ref C_InvalidConditions) (.ref C_StemError) = some true)
    (s_InvalidConditions_InvalidText : PySem.W.subIn K (.ref C_InvalidConditions) (.ref C_InvalidText) = some false)
    (s_InvalidConditions_InvalidConditions : PySem.W.subIn K (.ref C_InvalidConditions) (.ref C_InvalidConditions) = some true) :
    ∃ fd : FuncData, (∀ (s : Shared) (v : Value), BindsTo s fd ⟨[v], []⟩ [("script", v)]) ∧ ∀ base : Heap, K.In base → base.Ns mainGlobals mg → FnG l.prog w K mg base 8 fa fd ["script"] (spLaw K) := by
  cases hfa.symm.trans (PySem.W.mg_of X G a_law)
  let T : Txt K mg := {
    a_is_number := f_is_number
    fd_is_number := _
    F_is_number := fun_mk (st := s_is_number) l_is_number c_is_number k_is_number
    m_is_number := PySem.W.mg_of X G a_is_number
    b_is_number := (fun_mk (st := s_is_number) l_is_number c_is_number k_is_number).binds (ps := ["thing"]) fun _ _ _ _ _ _ us hl => match us, hl with | [_], _ => rfl
    a_is_text_of := f_is_text_of
    fd_is_text_of := _
    F_is_text_of := fun_mk (st := s_is_text_of) l_is_text_of c_is_text_of k_is_text_of
    m_is_text_of := PySem.W.mg_of X G a_is_text_of
    b_is_text_of := (fun_mk (st := s_is_text_of) l_is_text_of c_is_text_of k_is_text_of).binds (ps := ["thing", "letters"]) fun _ _ _ _ _ _ us hl => match us, hl with | [_, _], _ => rfl
    a_is_condition := f_is_condition
    fd_is_condition := _
    F_is_condition := fun_mk (st := s_is_condition) l_is_condition c_is_condition k_is_condition
    m_is_condition := PySem.W.mg_of X G a_is_condition
    b_is_condition := (fun_mk (st := s_is_condition) l_is_condition c_is_condition k_is_condition).binds (ps := ["thing"]) fun _ _ _ _ _ _ us hl => match us, hl with | [_], _ => rfl
    a_holds := f_holds
    fd_holds := _
    F_holds := fun_mk (st := s_holds) l_holds c_holds k_holds
    m_holds := PySem.W.mg_of X G a_holds
    b_holds := (fun_mk (st := s_holds) l_holds c_holds k_holds).binds (ps := ["condition", "rest", "vowels"]) fun _ _ _ _ _ _ us hl => match us, hl with | [_, _, _], _ => rfl
    a_is_met := f_is_met
    fd_is_met := _
    F_is_met := fun_mk (st := s_is_met) l_is_met c_is_met k_is_met
    m_is_met := PySem.W.mg_of X G a_is_met
    b_is_met := (fun_mk (st := s_is_met) l_is_met c_is_met k_is_met).binds (ps := ["condition", "rest", "vowels"]) fun _ _ _ _ _ _ us hl => match us, hl with | [_, _, _], _ => rfl
    a_has_vowel := f_has_vowel
    fd_has_vowel := _
    F_has_vowel := fun_mk (st := s_has_vowel) l_has_vowel c_has_vowel k_has_vowel
    m_has_vowel := PySem.W.mg_of X G a_has_vowel
    b_has_vowel := (fun_mk (st := s_has_vowel) l_has_vowel c_has_vowel k_has_vowel).binds (ps := ["text", "vowels"]) fun _ _ _ _ _ _ us hl => match us, hl with | [_, _], _ => rfl
    a_count_runs := f_count_runs
    fd_count_runs := _
    F_count_runs := fun_mk (st := s_count_runs) l_count_runs c_count_runs k_count_runs
    m_count_runs := PySem.W.mg_of X G a_count_runs
    b_count_runs := (fun_mk (st := s_count_runs) l_count_runs c_count_runs k_count_runs).binds (ps := ["text", "vowels"]) fun _ _ _ _ _ _ us hl => match us, hl with | [_, _], _ => rfl
    a_is_plain := f_is_plain
    fd_is_plain := _
    F_is_plain := fun_mk (st := s_is_plain) l_is_plain c_is_plain k_is_plain
    m_is_plain := PySem.W.mg_of X G a_is_plain
    b_is_plain := (fun_mk (st := s_is_plain) l_is_plain c_is_plain k_is_plain).binds (ps := ["thing"]) fun _ _ _ _ _ _ us hl => match us, hl with | [_], _ => rfl
    a_is_plain_met := f_is_plain_met
    fd_is_plain_met := _
    F_is_plain_met := fun_mk (st := s_is_plain_met) l_is_plain_met c_is_plain_met k_is_plain_met
    m_is_plain_met := PySem.W.mg_of X G a_is_plain_met
    b_is_plain_met := (fun_mk (st := s_is_plain_met) l_is_plain_met c_is_plain_met k_is_plain_met).binds (ps := ["condition", "rest", "vowels"]) fun _ _ _ _ _ _ us hl => match us, hl with | [_, _, _], _ => rfl
    a_ends_double := f_ends_double
    fd_ends_double := _
    F_ends_double := fun_mk (st := s_ends_double) l_ends_double c_ends_double k_ends_double
    m_ends_double := PySem.W.mg_of X G a_ends_double
    b_ends_double := (fun_mk (st := s_ends_double) l_ends_double c_ends_double k_ends_double).binds (ps := ["rest", "vowels"]) fun _ _ _ _ _ _ us hl => match us, hl with | [_, _], _ => rfl
    a_has_shape := f_has_shape
    fd_has_shape := _
    F_has_shape := fun_mk (st := s_has_shape) l_has_shape c_has_shape k_has_shape
    m_has_shape := PySem.W.mg_of X G a_has_shape
    b_has_shape := (fun_mk (st := s_has_shape) l_has_shape c_has_shape k_has_shape).binds (ps := ["rest", "shape", "vowels"]) fun _ _ _ _ _ _ us hl => match us, hl with | [_, _, _], _ => rfl
    a_law_mixed := f_law_mixed
    fd_law_mixed := _
    F_law_mixed := fun_mk (st := s_law_mixed) l_law_mixed c_law_mixed k_law_mixed
    m_law_mixed := PySem.W.mg_of X G a_law_mixed
    b_law_mixed := (fun_mk (st := s_law_mixed) l_law_mixed c_law_mixed k_law_mixed).binds (ps := ["cell", "k"]) fun _ _ _ _ _ _ us hl => match us, hl with | [_, _], _ => rfl
    a_law_purse := f_law_purse
    fd_law_purse := _
    F_law_purse := fun_mk (st := s_law_purse) l_law_purse c_law_purse k_law_purse
    m_law_purse := PySem.W.mg_of X G a_law_purse
    b_law_purse := (fun_mk (st := s_law_purse) l_law_purse c_law_purse k_law_purse).binds (ps := ["cells", "at"]) fun _ _ _ _ _ _ us hl => match us, hl with | [_, _], _ => rfl
    a_law_draw := f_law_draw
    fd_law_draw := _
    F_law_draw := fun_mk (st := s_law_draw) l_law_draw c_law_draw k_law_draw
    m_law_draw := PySem.W.mg_of X G a_law_draw
    b_law_draw := (fun_mk (st := s_law_draw) l_law_draw c_law_draw k_law_draw).binds (ps := ["purse", "out_of"]) fun _ _ _ _ _ _ us hl => match us, hl with | [_, _], _ => rfl
    a_law_letters := f_law_letters
    fd_law_letters := _
    F_law_letters := fun_mk (st := s_law_letters) l_law_letters c_law_letters k_law_letters
    m_law_letters := PySem.W.mg_of X G a_law_letters
    b_law_letters := (fun_mk (st := s_law_letters) l_law_letters c_law_letters k_law_letters).binds (ps := ["purse"]) fun _ _ _ _ _ _ us hl => match us, hl with | [_], _ => rfl
    a_law_text := f_law_text
    fd_law_text := _
    F_law_text := fun_mk (st := s_law_text) l_law_text c_law_text k_law_text
    m_law_text := PySem.W.mg_of X G a_law_text
    b_law_text := (fun_mk (st := s_law_text) l_law_text c_law_text k_law_text).binds (ps := ["purse", "signs", "least", "top"]) fun _ _ _ _ _ _ us hl => match us, hl with | [_, _, _, _], _ => rfl
    a_law_condition := f_law_condition
    fd_law_condition := _
    F_law_condition := fun_mk (st := s_law_condition) l_law_condition c_law_condition k_law_condition
    m_law_condition := PySem.W.mg_of X G a_law_condition
    b_law_condition := (fun_mk (st := s_law_condition) l_law_condition c_law_condition k_law_condition).binds (ps := ["purse", "signs"]) fun _ _ _ _ _ _ us hl => match us, hl with | [_, _], _ => rfl
    a_law_runs := f_law_runs
    fd_law_runs := _
    F_law_runs := fun_mk (st := s_law_runs) l_law_runs c_law_runs k_law_runs
    m_law_runs := PySem.W.mg_of X G a_law_runs
    b_law_runs := (fun_mk (st := s_law_runs) l_law_runs c_law_runs k_law_runs).binds (ps := ["text", "soft"]) fun _ _ _ _ _ _ us hl => match us, hl with | [_, _], _ => rfl
    a_law_holds := f_law_holds
    fd_law_holds := _
    F_law_holds := fun_mk (st := s_law_holds) l_law_holds c_law_holds k_law_holds
    m_law_holds := PySem.W.mg_of X G a_law_holds
    b_law_holds := (fun_mk (st := s_law_holds) l_law_holds c_law_holds k_law_holds).binds (ps := ["wish", "ahead", "soft"]) fun _ _ _ _ _ _ us hl => match us, hl with | [_, _, _], _ => rfl
    a_law_caught := f_law_caught
    fd_law_caught := _
    F_law_caught := fun_mk (st := s_law_caught) l_law_caught c_law_caught k_law_caught
    m_law_caught := PySem.W.mg_of X G a_law_caught
    b_law_caught := (fun_mk (st := s_law_caught) l_law_caught c_law_caught k_law_caught).binds (ps := ["wish", "ahead", "soft"]) fun _ _ _ _ _ _ us hl => match us, hl with | [_, _, _], _ => rfl
    a_law_doors_right := f_law_doors_right
    fd_law_doors_right := _
    F_law_doors_right := fun_mk (st := s_law_doors_right) l_law_doors_right c_law_doors_right k_law_doors_right
    m_law_doors_right := PySem.W.mg_of X G a_law_doors_right
    b_law_doors_right := (fun_mk (st := s_law_doors_right) l_law_doors_right c_law_doors_right k_law_doors_right).binds (ps := ["purse"]) fun _ _ _ _ _ _ us hl => match us, hl with | [_], _ => rfl
    a_law_right := f_law_right
    fd_law_right := _
    F_law_right := fun_mk (st := s_law_right) l_law_right c_law_right k_law_right
    m_law_right := PySem.W.mg_of X G a_law_right
    b_law_right := (fun_mk (st := s_law_right) l_law_right c_law_right k_law_right).binds (ps := ["purse"]) fun _ _ _ _ _ _ us hl => match us, hl with | [_], _ => rfl
    a_law := fa
    fd_law := _
    F_law := fun_mk (st := s_law) l_law c_law k_law
    m_law := PySem.W.mg_of X G a_law
    b_law := (fun_mk (st := s_law) l_law c_law k_law).binds (ps := ["script"]) fun _ _ _ _ _ _ us hl => match us, hl with | [_], _ => rfl
    kb_is_condition_0_thing := (fun_mk (st := s_is_condition) l_is_condition c_is_condition k_is_condition).kbn fun _ _ _ _ _ _ us ws h1 h2 => match us, h1, ws, h2 with | [], _, [_], _ => rfl
    kb_holds_0_vowels_rest_condition := (fun_mk (st := s_holds) l_holds c_holds k_holds).kbn fun _ _ _ _ _ _ us ws h1 h2 => match us, h1, ws, h2 with | [], _, [_, _, _], _ => rfl
    z_all := PySem.W.mg_none_of X G z_all
    z_any := PySem.W.mg_none_of X G z_any
    z_bool := PySem.W.mg_none_of X G z_bool
    z_int := PySem.W.mg_none_of X G z_int
    z_isinstance := PySem.W.mg_none_of X G z_isinstance
    z_len := PySem.W.mg_none_of X G z_len
    z_max := PySem.W.mg_none_of X G z_max
    z_min := PySem.W.mg_none_of X G z_min
    z_range := PySem.W.mg_none_of X G z_range
    z_str := PySem.W.mg_none_of X G z_str
    z_tuple := PySem.W.mg_none_of X G z_tuple
    z_zip := PySem.W.mg_none_of X G z_zip
    C_StemError := C_StemError
    mc_StemError := PySem.W.mg_of X G aC_StemError
    C_InvalidText := C_InvalidText
    mc_InvalidText := PySem.W.mg_of X G aC_InvalidText
    x_InvalidText := { cls := ⟨_, _, _, _, _, _, _, _, _, _, _, _, _, _, _, x_InvalidText, rfl⟩, sa := sa_InvalidText, exC := eC_InvalidText, tyC := tC_InvalidText, kC := kC_InvalidText }
    xf_InvalidText := { ga := ga_InvalidText, gg := gg_InvalidText, exC := eC_InvalidText, hdC := hC_InvalidText }
    aI_InvalidText := g_InvalidText
    fdI_InvalidText := _
    FI_InvalidText := fun_mk (st := s_InvalidText_init) il_InvalidText ic_InvalidText ik_InvalidText
    bI_InvalidText := (fun_mk (st := s_InvalidText_init) il_InvalidText ic_InvalidText ik_InvalidText).binds (ps := ["self", "thing"]) fun _ _ _ _ _ _ us hl => match us, hl with | [_, _], _ => rfl
    i_InvalidText := i_InvalidText
    t_InvalidText := t_InvalidText
    n_InvalidText_thing := n_InvalidText_thing
    C_InvalidConditions := C_InvalidConditions
    mc_InvalidConditions := PySem.W.mg_of X G aC_InvalidConditions
    x_InvalidConditions := { cls := ⟨_, _, _, _, _, _, _, _, _, _, _, _, _, _, _, x_InvalidConditions, rfl⟩, sa := sa_InvalidConditions, exC := eC_InvalidConditions, tyC := tC_InvalidConditions, kC := kC_InvalidConditions }
    xf_InvalidConditions := { ga := ga_InvalidConditions, gg := gg_InvalidConditions, exC := eC_InvalidConditions, hdC := hC_InvalidConditions }
    aI_InvalidConditions := g_InvalidConditions
    fdI_InvalidConditions := _
    FI_InvalidConditions := fun_mk (st := s_InvalidConditions_init) il_InvalidConditions ic_InvalidConditions ik_InvalidConditions
    bI_InvalidConditions := (fun_mk (st := s_InvalidConditions_init) il_InvalidConditions ic_InvalidConditions ik_InvalidConditions).binds (ps := ["self", "place"]) fun _ _ _ _ _ _ us hl => match us, hl with | [_, _], _ => rfl
    i_InvalidConditions := i_InvalidConditions
    t_InvalidConditions := t_InvalidConditions
    n_InvalidConditions_place := n_InvalidConditions_place
    e_InvalidText_StemError := exm_of eC_StemError iC_StemError tC_StemError s_InvalidText_StemError
    e_InvalidText_InvalidText := exm_of eC_InvalidText iC_InvalidText tC_InvalidText s_InvalidText_InvalidText
    e_InvalidText_InvalidConditions := exm_of eC_InvalidConditions iC_InvalidConditions tC_InvalidConditions s_InvalidText_InvalidConditions
    e_InvalidConditions_StemError := exm_of eC_StemError iC_StemError tC_StemError s_InvalidConditions_StemError
    e_InvalidConditions_InvalidText := exm_of eC_InvalidText iC_InvalidText tC_InvalidText s_InvalidConditions_InvalidText
    e_InvalidConditions_InvalidConditions := exm_of eC_InvalidConditions iC_InvalidConditions tC_InvalidConditions s_InvalidConditions_InvalidConditions }
  exact ⟨T.fd_law, fun s v => .of_eq rfl, fun base _ _ => ok_law T⟩

end K01
open PySem PySem.W PyProof.Rows
set_option maxHeartbeats 0 in
theorem PySem.Challenge.cw_stemsteps_k01_conditions_holds : PySem.Challenge.rw_stemsteps_k01_conditions.Holds := by
  w_on; o_law; k_head; (case hw => w_witness2)
  k_fill
  refine L2.walk_ofG (l := PySem.Challenge.rw_stemsteps_k01_conditions) (n := 63) (k := 8) (x := "script") (sp := fun w => K01.spLaw _) rfl (by decide) rfl ⟨rfl, by decide, by decide⟩ (fun w h Y => PySem.W.kIn_of Y) ?F (fun _ _ a ns hl _ hS => ⟨a, ns, rfl, hS, hl, fun _ => rfl⟩)
  case F =>
    intro w mg fa h KX G hmg
    refine' K01.all_mk KX G hmg ?a_is_number ?l_is_number ?c_is_number ?k_is_number ?a_is_text_of ?l_is_text_of ?c_is_text_of ?k_is_text_of ?a_is_condition ?l_is_condition ?c_is_condition ?k_is_condition ?a_holds ?l_holds ?c_holds ?k_holds ?a_is_met ?l_is_met ?c_is_met ?k_is_met ?a_has_vowel ?l_has_vowel ?c_has_vowel ?k_has_vowel ?a_count_runs ?l_count_runs ?c_count_runs ?k_count_runs ?a_is_plain ?l_is_plain ?c_is_plain ?k_is_plain ?a_is_plain_met ?l_is_plain_met ?c_is_plain_met ?k_is_plain_met ?a_ends_double ?l_ends_double ?c_ends_double ?k_ends_double ?a_has_shape ?l_has_shape ?c_has_shape ?k_has_shape ?a_law_mixed ?l_law_mixed ?c_law_mixed ?k_law_mixed ?a_law_purse ?l_law_purse ?c_law_purse ?k_law_purse ?a_law_draw ?l_law_draw ?c_law_draw ?k_law_draw ?a_law_letters ?l_law_letters ?c_law_letters ?k_law_letters ?a_law_text ?l_law_text ?c_law_text ?k_law_text ?a_law_condition ?l_law_condition ?c_law_condition ?k_law_condition ?a_law_runs ?l_law_runs ?c_law_runs ?k_law_runs ?a_law_holds ?l_law_holds ?c_law_holds ?k_law_holds ?a_law_caught ?l_law_caught ?c_law_caught ?k_law_caught ?a_law_doors_right ?l_law_doors_right ?c_law_doors_right ?k_law_doors_right ?a_law_right ?l_law_right ?c_law_right ?k_law_right ?a_law ?l_law ?c_law ?k_law ?z_all ?z_any ?z_bool ?z_int ?z_isinstance ?z_len ?z_max ?z_min ?z_range ?z_str ?z_tuple ?z_zip ?aC_StemError ?eC_StemError ?tC_StemError ?iC_StemError ?aC_InvalidText ?eC_InvalidText ?tC_InvalidText ?iC_InvalidText ?x_InvalidText ?sa_InvalidText ?ga_InvalidText ?gg_InvalidText ?i_InvalidText ?t_InvalidText ?il_InvalidText ?ic_InvalidText ?ik_InvalidText ?kC_InvalidText ?hC_InvalidText ?n_InvalidText_thing ?aC_InvalidConditions ?eC_InvalidConditions ?tC_InvalidConditions ?iC_InvalidConditions ?x_InvalidConditions ?sa_InvalidConditions ?ga_InvalidConditions ?gg_InvalidConditions ?i_InvalidConditions ?t_InvalidConditions ?il_InvalidConditions ?ic_InvalidConditions ?ik_InvalidConditions ?kC_InvalidConditions ?hC_InvalidConditions ?n_InvalidConditions_place ?s_InvalidText_StemError ?s_InvalidText_InvalidText ?s_InvalidText_InvalidConditions ?s_InvalidConditions_StemError ?s_InvalidConditions_InvalidText ?s_InvalidConditions_InvalidConditions
    (case a_is_number => k_is)
    (case l_is_number => k_is)
    (case c_is_number => k_is)
    (case k_is_number => k_is)
    (case a_is_text_of => k_is)
    (case l_is_text_of => k_is)
    (case c_is_text_of => k_is)
    (case k_is_text_of => k_is)
    (case a_is_condition => k_is)
    (case l_is_condition => k_is)
    (case c_is_condition => k_is)
    (case k_is_condition => k_is)
    (case a_holds => k_is)
    (case l_holds => k_is)
    (case c_holds => k_is)
    (case k_holds => k_is)
    (case a_is_met => k_is)
    (case l_is_met => k_is)
    (case c_is_met => k_is)
    (case k_is_met => k_is)
    (case a_has_vowel => k_is)
    (case l_has_vowel => k_is)
    (case c_has_vowel => k_is)
    (case k_has_vowel => k_is)
    (case a_count_runs => k_is)
    (case l_count_runs => k_is)
    (case c_count_runs => k_is)
    (case k_count_runs => k_is)
    (case a_is_plain => k_is)
    (case l_is_plain => k_is)
    (case c_is_plain => k_is)
    (case k_is_plain => k_is)
    (case a_is_plain_met => k_is)
    (case l_is_plain_met => k_is)
    (case c_is_plain_met => k_is)
    (case k_is_plain_met => k_is)
    (case a_ends_double => k_is)
    (case l_ends_double => k_is)
    (case c_ends_double => k_is)
    (case k_ends_double => k_is)
    (case a_has_shape => k_is)
    (case l_has_shape => k_is)
    (case c_has_shape => k_is)
    (case k_has_shape => k_is)
    (case a_law_mixed => k_is)
    (case l_law_mixed => k_is)
    (case c_law_mixed => k_is)
    (case k_law_mixed => k_is)
    (case a_law_purse => k_is)
    (case l_law_purse => k_is)
    (case c_law_purse => k_is)
    (case k_law_purse => k_is)
    (case a_law_draw => k_is)
    (case l_law_draw => k_is)
    (case c_law_draw => k_is)
    (case k_law_draw => k_is)
    (case a_law_letters => k_is)
    (case l_law_letters => k_is)
    (case c_law_letters => k_is)
    (case k_law_letters => k_is)
    (case a_law_text => k_is)
    (case l_law_text => k_is)
    (case c_law_text => k_is)
    (case k_law_text => k_is)
    (case a_law_condition => k_is)
    (case l_law_condition => k_is)
    (case c_law_condition => k_is)
    (case k_law_condition => k_is)
    (case a_law_runs => k_is)
    (case l_law_runs => k_is)
    (case c_law_runs => k_is)
    (case k_law_runs => k_is)
    (case a_law_holds => k_is)
    (case l_law_holds => k_is)
    (case c_law_holds => k_is)
    (case k_law_holds => k_is)
    (case a_law_caught => k_is)
    (case l_law_caught => k_is)
    (case c_law_caught => k_is)
    (case k_law_caught => k_is)
    (case a_law_doors_right => k_is)
    (case l_law_doors_right => k_is)
    (case c_law_doors_right => k_is)
    (case k_law_doors_right => k_is)
    (case a_law_right => k_is)
    (case l_law_right => k_is)
    (case c_law_right => k_is)
    (case k_law_right => k_is)
    (case a_law => k_is)
    (case l_law => k_is)
    (case c_law => k_is)
    (case k_law => k_is)
    (case z_all => k_is)
    (case z_any => k_is)
    (case z_bool => k_is)
    (case z_int => k_is)
    (case z_isinstance => k_is)
    (case z_len => k_is)
    (case z_max => k_is)
    (case z_min => k_is)
    (case z_range => k_is)
    (case z_str => k_is)
    (case z_tuple => k_is)
    (case z_zip => k_is)
    (case aC_StemError => k_is)
    (case eC_StemError => k_is)
    (case tC_StemError => k_is)
    (case iC_StemError => k_is)
    (case aC_InvalidText => k_is)
    (case eC_InvalidText => k_is)
    (case tC_InvalidText => k_is)
    (case iC_InvalidText => k_is)
    (case x_InvalidText => k_is)
    (case sa_InvalidText => k_is)
    (case ga_InvalidText => k_is)
    (case gg_InvalidText => k_is)
    (case i_InvalidText => k_is)
    (case t_InvalidText => k_is)
    (case il_InvalidText => k_is)
    (case ic_InvalidText => k_is)
    (case ik_InvalidText => k_is)
    (case kC_InvalidText => k_is)
    (case hC_InvalidText => k_is)
    (case n_InvalidText_thing => k_is)
    (case aC_InvalidConditions => k_is)
    (case eC_InvalidConditions => k_is)
    (case tC_InvalidConditions => k_is)
    (case iC_InvalidConditions => k_is)
    (case x_InvalidConditions => k_is)
    (case sa_InvalidConditions => k_is)
    (case ga_InvalidConditions => k_is)
    (case gg_InvalidConditions => k_is)
    (case i_InvalidConditions => k_is)
    (case t_InvalidConditions => k_is)
    (case il_InvalidConditions => k_is)
    (case ic_InvalidConditions => k_is)
    (case ik_InvalidConditions => k_is)
    (case kC_InvalidConditions => k_is)
    (case hC_InvalidConditions => k_is)
    (case n_InvalidConditions_place => k_is)
    (case s_InvalidText_StemError => k_is)
    (case s_InvalidText_InvalidText => k_is)
    (case s_InvalidText_InvalidConditions => k_is)
    (case s_InvalidConditions_StemError => k_is)
    (case s_InvalidConditions_InvalidText => k_is)
    (case s_InvalidConditions_InvalidConditions => k_is)

