import PyProof.Rows.All
import Wide.All
import OpenK.AllK
import Wide.FinOn
import HandS.ForMost
import HandS.Gcd
import HandS.Wide
import HandS.WideBits
import HandS.IsInst
import HandS.Style
import HandS.TupAny
import HandS.Conv
import PySem.Challenge.RW_quitsways_k02_whole_totals_people_and_me
set_option Elab.async false
set_option linter.all false
set_option maxRecDepth 100000
set_option maxHeartbeats 4000000
set_option exponentiation.threshold 20000

namespace QW
open PySem L2

/-! ### what changes: nothing (Same), or one list (KL m) -/
structure KL (m : Addr) (H H' : Hp) : Prop where
  keep : ∀ b o, b ≠ m → H b = some o → H' b = some o
  tup : ∀ b xs, H b = some (.tup xs) → H' b = some (.tup xs)
  ins : ∀ b C dx fs, H b = some (.ins C dx fs) → H' b = some (.ins C dx fs)
  live : ∀ b, H' b = none → H b = none

theorem Same.kl {m : Addr} {H H' : Hp} (s : Same H H') : KL m H H' :=
  ⟨fun b o _ e => s b o e, fun b xs e => s b _ e, fun b C dx fs e => s b _ e, fun b e => s.free e⟩
theorem KL.refl {m : Addr} {H : Hp} : KL m H H := Same.kl (Same.refl H)
theorem KL.trans {m : Addr} {H H1 H2 : Hp} (a : KL m H H1) (b : KL m H1 H2) : KL m H H2 :=
  ⟨fun c o hc e => b.keep c o hc (a.keep c o hc e), fun c xs e => b.tup c xs (a.tup c xs e), fun c C dx fs e => b.ins c C dx fs (a.ins c C dx fs e), fun c e => a.live c (b.live c e)⟩
theorem KL.same {m : Addr} {H H1 H2 : Hp} (a : KL m H H1) (s : Same H1 H2) : KL m H H2 := a.trans (Same.kl s)
/-- a list that is newer than H is changed -/
theorem KL.loc {m l : Addr} {H H1 H2 : Hp} (a : KL m H H1) (b : KL l H1 H2) (hl : H l = none) : KL m H H2 :=
  ⟨fun c o hc e => b.keep c o (ne_of_none e hl) (a.keep c o hc e), fun c xs e => b.tup c xs (a.tup c xs e), fun c C dx fs e => b.ins c C dx fs (a.ins c C dx fs e), fun c e => a.live c (b.live c e)⟩
theorem same_loc {l : Addr} {H H1 H2 : Hp} (a : Same H H1) (b : KL l H1 H2) (hl : H l = none) : Same H H2 :=
  fun c o e => b.keep c o (ne_of_none e hl) (a c o e)
theorem same_upd {H : Hp} {p : Addr} {o : HO} (h : H p = none) : Same H (upd H p o) := fun b u e => by rw [upd_ne (ne_of_none e h)]; exact e
theorem kl_upd {H : Hp} {p : Addr} {xs : List V} {ys : List V} (h : H p = some (.lst xs)) : KL p H (upd H p (.lst ys)) := by
  refine ⟨fun b o hb e => by rw [upd_ne hb]; exact e, fun b zs e => ?_, fun b C dx fs e => ?_, fun b e => ?_⟩
  · rw [upd_ne (ne_of e h (by intro q; cases q))]; exact e
  · rw [upd_ne (ne_of e h (by intro q; cases q))]; exact e
  · by_cases hb : b = p
    · subst hb; rw [upd_same] at e; cases e
    · rw [upd_ne hb] at e; exact e
theorem Same.free' {H H' : Hp} {l : Addr} (s : Same H H') (h : H' l = none) : H l = none := s.free h
theorem KL.free {m : Addr} {H H' : Hp} {l : Addr} (s : KL m H H') (h : H' l = none) : H l = none := s.live l h
/-- a new object -/
theorem new_obj {H : Hp} {o : HO} {Q : V → Hp → Prop} (q : ∀ p H', H p = none → Same H H' → H' p = some o → Q (.ref p) H') : ∀ p, H p = none → Q (.ref p) (upd H p o) :=
  fun p hp => q p _ hp (same_upd hp) upd_same
theorem ne_fresh {H : Hp} {a b : Addr} {o : HO} (h : H a = none) (h' : H b = some o) : a ≠ b := fun e => by rw [e, h'] at h; cases h
theorem ne_fresh' {H : Hp} {a b : Addr} {o : HO} (h : H b = none) (h' : H a = some o) : a ≠ b := fun e => by rw [← e, h'] at h; cases h

/-! ### immutable data -/
mutual
def Im (H : Hp) : V → PyData → Prop
  | v, .none => v = .non
  | v, .bool b => v = .bl b
  | v, .int i => v = .int i
  | v, .str x => v = .str x
  | v, .tuple ds => ∃ a vs, v = .ref a ∧ H a = some (.tup vs) ∧ ImL H vs ds
  | _, .list _ => False
  | _, .dict _ => False
def ImL (H : Hp) : List V → List PyData → Prop
  | [], [] => True
  | v :: vs, d :: ds => Im H v d ∧ ImL H vs ds
  | [], _ :: _ => False
  | _ :: _, [] => False
end
mutual
theorem Im.mono {H H' : Hp} (t : ∀ b xs, H b = some (.tup xs) → H' b = some (.tup xs)) : ∀ {v : V} (d : PyData), Im H v d → Im H' v d
  | _, .none, h => by simpa [Im] using h
  | _, .bool _, h => by simpa [Im] using h
  | _, .int _, h => by simpa [Im] using h
  | _, .str _, h => by simpa [Im] using h
  | _, .tuple ds, h => by
    simp only [Im] at h ⊢
    obtain ⟨a, vs, e, ha, hl⟩ := h
    exact ⟨a, vs, e, t _ _ ha, ImL.mono t ds hl⟩
  | _, .list _, h => by simp [Im] at h
  | _, .dict _, h => by simp [Im] at h
theorem ImL.mono {H H' : Hp} (t : ∀ b xs, H b = some (.tup xs) → H' b = some (.tup xs)) : ∀ {vs : List V} (ds : List PyData), ImL H vs ds → ImL H' vs ds
  | [], [], _ => by simp [ImL]
  | v :: vs, d :: ds, h => by
    simp only [ImL] at h ⊢
    exact ⟨Im.mono t d h.1, ImL.mono t ds h.2⟩
  | [], _ :: _, h => by simp [ImL] at h
  | _ :: _, [], h => by simp [ImL] at h
end
mutual
theorem Im.dp {K : PySem.W.Frag} {H : Hp} : ∀ {v : V} (d : PyData), Im H v d → Dp K H v d
  | _, .none, h => by simp only [Im] at h; subst h; exact .non
  | _, .bool _, h => by simp only [Im] at h; subst h; exact .bl _
  | _, .int _, h => by simp only [Im] at h; subst h; exact .int _
  | _, .str _, h => by simp only [Im] at h; subst h; exact .str _
  | _, .tuple ds, h => by
    simp only [Im] at h
    obtain ⟨a, vs, e, ha, hl⟩ := h
    subst e
    exact .tup (SqT.of ha) (ImL.dp ds hl)
  | _, .list _, h => by simp [Im] at h
  | _, .dict _, h => by simp [Im] at h
theorem ImL.dp {K : PySem.W.Frag} {H : Hp} : ∀ {vs : List V} (ds : List PyData), ImL H vs ds → DpAll K H vs ds
  | [], [], _ => .nil
  | v :: vs, d :: ds, h => by
    simp only [ImL] at h
    exact .cons (Im.dp d h.1) (ImL.dp ds h.2)
  | [], _ :: _, h => by simp [ImL] at h
  | _ :: _, [], h => by simp [ImL] at h
end
theorem ImL.length {H : Hp} : ∀ {vs : List V} {ds : List PyData}, ImL H vs ds → vs.length = ds.length
  | [], [], _ => rfl
  | v :: vs, d :: ds, h => by
    simp only [ImL] at h
    simp [ImL.length h.2]
  | [], _ :: _, h => by simp [ImL] at h
  | _ :: _, [], h => by simp [ImL] at h
theorem ImL.get {H : Hp} : ∀ {vs : List V} {ds : List PyData} {i : Nat} {v : V}, ImL H vs ds → vs[i]? = some v → ∃ d, ds[i]? = some d ∧ Im H v d
  | [], [], _, _, _, e => by simp at e
  | v :: vs, d :: ds, 0, w, h, e => by
    simp only [ImL] at h
    simp at e
    subst e
    exact ⟨d, rfl, h.1⟩
  | v :: vs, d :: ds, i + 1, w, h, e => by
    simp only [ImL] at h
    obtain ⟨x, h1, h2⟩ := ImL.get (i := i) h.2 (by simpa using e)
    exact ⟨x, by simpa using h1, h2⟩
  | [], _ :: _, _, _, h, _ => by simp [ImL] at h
  | _ :: _, [], _, _, h, _ => by simp [ImL] at h
theorem ImL.get' {H : Hp} {vs : List V} {ds : List PyData} {i : Nat} {d : PyData} (h : ImL H vs ds) (e : ds[i]? = some d) : ∃ v, vs[i]? = some v ∧ Im H v d := by
  have hl := h.length
  have hi : i < ds.length := by
    rcases Nat.lt_or_ge i ds.length with h1 | h1
    · exact h1
    · rw [List.getElem?_eq_none h1] at e; cases e
  have hv : vs[i]? = some vs[i] := List.getElem?_eq_getElem (by omega)
  obtain ⟨d', h1, h2⟩ := h.get hv
  rw [e] at h1
  cases h1
  exact ⟨_, hv, h2⟩
theorem ImL.append {H : Hp} : ∀ {vs : List V} {ds : List PyData} {ws : List V} {es : List PyData}, ImL H vs ds → ImL H ws es → ImL H (vs ++ ws) (ds ++ es)
  | [], [], _, _, _, q => q
  | v :: vs, d :: ds, _, _, h, q => by
    simp only [ImL] at h
    simp only [List.cons_append, ImL]
    exact ⟨h.1, ImL.append h.2 q⟩
  | [], _ :: _, _, _, h, _ => by simp [ImL] at h
  | _ :: _, [], _, _, h, _ => by simp [ImL] at h
theorem ImL.take {H : Hp} : ∀ {vs : List V} {ds : List PyData} (n : Nat), ImL H vs ds → ImL H (vs.take n) (ds.take n)
  | _, _, 0, _ => by simp [ImL]
  | [], [], n + 1, h => by simp [ImL]
  | v :: vs, d :: ds, n + 1, h => by
    simp only [ImL] at h
    simp only [List.take_succ_cons, ImL]
    exact ⟨h.1, ImL.take n h.2⟩
  | [], _ :: _, _ + 1, h => by simp [ImL] at h
  | _ :: _, [], _ + 1, h => by simp [ImL] at h
theorem ImL.drop {H : Hp} : ∀ {vs : List V} {ds : List PyData} (n : Nat), ImL H vs ds → ImL H (vs.drop n) (ds.drop n)
  | _, _, 0, h => h
  | [], [], n + 1, h => by simp [ImL]
  | v :: vs, d :: ds, n + 1, h => by
    simp only [ImL] at h
    simp only [List.drop_succ_cons]
    exact ImL.drop n h.2
  | [], _ :: _, _ + 1, h => by simp [ImL] at h
  | _ :: _, [], _ + 1, h => by simp [ImL] at h
theorem ImL.ints {H : Hp} : ∀ (ns : List Int), ImL H (ns.map V.int) (ns.map PyData.int)
  | [] => by simp [ImL]
  | n :: ns => by simp only [List.map_cons, ImL, Im]; exact ⟨trivial, ImL.ints ns⟩
theorem Im.tup {H : Hp} {a : Addr} {vs : List V} {ds : List PyData} (h : H a = some (.tup vs)) (l : ImL H vs ds) : Im H (.ref a) (.tuple ds) := by
  simp only [Im]; exact ⟨a, vs, rfl, h, l⟩
theorem Im.int' {H : Hp} {i : Int} : Im H (.int i) (.int i) := by simp [Im]

/-! ### keeping: transport along Same and KL -/
section
variable {m l : Addr} {H H' : Hp}
theorem sm_at {o : HO} {b : Addr} (s : Same H H') (h : H b = some o) : H' b = some o := s b o h
theorem kl_at {o : HO} {b : Addr} (s : KL m H H') (n : b ≠ m) (h : H b = some o) : H' b = some o := s.keep b o n h
theorem kl_tup {b : Addr} {xs : List V} (s : KL m H H') (h : H b = some (.tup xs)) : H' b = some (.tup xs) := s.tup b xs h
theorem kl_ins {b C dx : Addr} {fs : List (Str × V)} (s : KL m H H') (h : H b = some (.ins C dx fs)) : H' b = some (.ins C dx fs) := s.ins b C dx fs h
theorem sm_im {v : V} {d : PyData} (s : Same H H') (h : Im H v d) : Im H' v d := Im.mono (fun b xs e => s b _ e) d h
theorem kl_im {v : V} {d : PyData} (s : KL m H H') (h : Im H v d) : Im H' v d := Im.mono s.tup d h
theorem sm_iml {v : List V} {d : List PyData} (s : Same H H') (h : ImL H v d) : ImL H' v d := ImL.mono (fun b xs e => s b _ e) d h
theorem kl_iml {v : List V} {d : List PyData} (s : KL m H H') (h : ImL H v d) : ImL H' v d := ImL.mono s.tup d h
theorem sm_sql {K : PySem.W.Frag} {a : Addr} {xs : List V} (s : Same H H') (h : SqL K H a xs) : SqL K H' a xs := s.seq h
theorem kl_sql {K : PySem.W.Frag} {a : Addr} {xs : List V} (s : KL m H H') (n : a ≠ m) (h : SqL K H a xs) : SqL K H' a xs := by
  rcases h with (h | ⟨o, h⟩) | h
  · exact .inl (.inl (s.keep _ _ n h))
  · exact .inl (.inr ⟨o, s.keep _ _ n h⟩)
  · exact .inr h
end

/-! ### the law's hand: a list that draws change -/
def Hand (H : Hp) (m c : Addr) : Prop := ∃ (i h s k : Int) (cells : List Int), H m = some (.lst [.ref c, .int i, .int h, .int s, .int k]) ∧ H c = some (.lst (cells.map V.int)) ∧ c ≠ m ∧ 0 ≤ i
theorem sm_hand {m c : Addr} {H H' : Hp} (s : Same H H') (h : Hand H m c) : Hand H' m c := by
  obtain ⟨i, x, y, z, cells, e, q, n, i0⟩ := h
  exact ⟨i, x, y, z, cells, s _ _ e, s _ _ q, n, i0⟩
theorem hand_ne {H : Hp} {m c l : Addr} (h : H l = none) (hd : Hand H m c) : m ≠ l ∧ c ≠ l := by
  obtain ⟨i, x, y, z, cells, e, q, n, i0⟩ := hd
  exact ⟨ne_fresh' h e, ne_fresh' h q⟩
theorem kl_hand {m c l : Addr} {H0 H H' : Hp} (s : KL l H H') (h0 : H0 l = none) (hd : Hand H0 m c) (h : Hand H m c) : Hand H' m c := by
  obtain ⟨n1, n2⟩ := hand_ne h0 hd
  obtain ⟨i, x, y, z, cells, e, q, n, i0⟩ := h
  exact ⟨i, x, y, z, cells, s.keep _ _ n1 e, s.keep _ _ n2 q, n, i0⟩
end QW

namespace QW
open PySem L2

/-! ### readings, one lemma a construct -/
abbrev oAdd : R2 := rI0 fun i j => .int (i + j)
abbrev oSub : R2 := rI0 fun i j => .int (i - j)
abbrev oMul : R2 := rI IntMulOk fun i j => .int (i * j)
theorem op_mulA {X : Cx} : OpR X (binaryOp .Mult) oMul := opI fun _ _ _ _ _ _ _ hc q => PyProof.Rows.mul_int q hc
theorem mul_wide {i j : Int} {a b : Nat} (ha : i.natAbs < 2 ^ a) (hb : j.natAbs < 2 ^ b) (h : a + b ≤ 134217728) : IntMulOk i j := (mulx_ok ha hb h).ok
abbrev oDiv : R2 := rI CDivW fun i j => .int (i / j)
abbrev oMod : R2 := rI (fun _ j => 0 < j) fun i j => .int (i % j)
abbrev oPow : R2 := rI CPow fun i j => .int (i ^ j.toNat)
abbrev oShl : R2 := rI CPow fun i j => .int (i * 2 ^ j.toNat)
abbrev oAnd : R2 := rI0 fun i j => .int (Builtin.bitAnd i j)
abbrev oLt : R2 := rI0 fun i j => .bl (decide (i < j))
abbrev oLe : R2 := rI0 fun i j => .bl (decide (i ≤ j))
abbrev oGt : R2 := rI0 fun i j => .bl (decide (j < i))
abbrev oGe : R2 := rI0 fun i j => .bl (decide (j ≤ i))
abbrev oIsN : R2 := fun x y H Q => y = .non ∧ Q (.bl (decide (x = .non))) H
abbrev oNotN : R2 := fun x y H Q => y = .non ∧ Q (.bl (!decide (x = .non))) H
abbrev uNeg : V → Hp → VK → Prop := rU fun i => .int (-i)
abbrev cLen (K : PySem.W.Frag) : List V → Hp → VK → Prop := fun xs H Q => ∃ x n, xs = [x] ∧ LenV K x H n ∧ Q (V.int (n : Nat)) H
abbrev cAbs : List V → Hp → VK → Prop := fun xs H Q => ∃ i, xs = [.int i] ∧ Q (.int (if i < 0 then -i else i)) H
abbrev cMax2 : List V → Hp → VK → Prop := fun xs H Q => ∃ i j, xs = [.int i, .int j] ∧ Q (.int (if j > i then j else i)) H
abbrev cMin2 : List V → Hp → VK → Prop := fun xs H Q => ∃ i j, xs = [.int i, .int j] ∧ Q (.int (if j < i then j else i)) H
abbrev cInt1 : List V → Hp → VK → Prop := fun xs H Q => (∃ i, xs = [.int i] ∧ Q (.int i) H) ∨ ∃ k, xs = [.bl k] ∧ Q (.int (if k then 1 else 0)) H
abbrev cTup (K : PySem.W.Frag) : List V → Hp → VK → Prop := fun xs H Q => ∃ p ys, xs = [.ref p] ∧ ((SqL K H p ys ∧ ∀ l, H l = none → Q (.ref l) (upd H l (.tup ys))) ∨ (SqT K H p ys ∧ Q (.ref p) H))
abbrev cList (K : PySem.W.Frag) : List V → Hp → VK → Prop := fun xs H Q => ∃ p ys, xs = [.ref p] ∧ (SqL K H p ys ∨ SqT K H p ys) ∧ ∀ l, H l = none → Q (.ref l) (upd H l (.lst ys))
def rLcm : List V → Hp → VK → Prop := fun vs H Q => ∃ a b : Int, vs = [.int a, .int b] ∧ 0 < a ∧ 0 < b ∧ a.natAbs.log2 < 13000 ∧ b.natAbs.log2 < 13000 ∧ Q (.int ((Nat.lcm a.natAbs b.natAbs : Nat) : Int)) H

section
variable {K : PySem.W.Frag} {D : Ends} {σ : St} {H : Hp} {Q : VK}
theorem i_seq {t u : TS} (h : t { D with nx := u D } σ H) : tSeq t u D σ H := h
theorem i_cut {t u : TS} (R : St → Hp → Prop) (h1 : ∀ N : St → Hp → Prop, (∀ σ H, R σ H → N σ H) → t { D with nx := N } σ H) (h2 : ∀ σ H, R σ H → u D σ H) : tSeq t u D σ H := h1 (u D) h2
theorem i_set {te : TE} {i : Nat} (h : te σ H (fun x H1 => D.nx (σ.set i (some x)) H1)) : tAsg te (gName i) D σ H := h
theorem i_asg {te : TE} {g : TG} (h : te σ H (fun x H1 => g x σ H1 D.nx)) : tAsg te g D σ H := h
theorem i_drop {te : TE} (h : te σ H fun _ H1 => D.nx σ H1) : tDrop te D σ H := h
theorem i_ret {te : TE} (h : te σ H D.rt) : tRet te D σ H := h
theorem i_next (h : D.nx σ H) : tNext D σ H := h
theorem i_break (h : D.bk σ H) : tBreak D σ H := h
theorem i_cont (h : D.ct σ H) : tCont D σ H := h
theorem i_ifS {c : TT} {t u : TS} (h : c σ H fun b H1 => if b = true then t D σ H1 else u D σ H1) : tIfS c t u D σ H := h
theorem i_var {i : Nat} {v : V} (h : σ[i]? = some (some v)) (q : Q v H) : tVar i σ H Q := ⟨v, h, q⟩
theorem i_c {v : V} (q : Q v H) : tC v σ H Q := q
theorem i_op {r : R2} {ta tb : TE} (h : ta σ H fun x H1 => tb σ H1 fun y H2 => r x y H2 Q) : tOp r ta tb σ H Q := h
theorem i_un {r : V → Hp → VK → Prop} {ta : TE} (h : ta σ H fun x H1 => r x H1 Q) : tUn r ta σ H Q := h
theorem i_rI0 {g : Int → Int → V} {i j : Int} (q : Q (g i j) H) : rI0 g (.int i) (.int j) H Q := ⟨i, j, rfl, rfl, q⟩
theorem i_rI {C : Int → Int → Prop} {g : Int → Int → V} {i j : Int} (c : C i j) (q : Q (g i j) H) : rI C g (.int i) (.int j) H Q := ⟨i, j, rfl, rfl, c, q⟩
theorem i_rU {g : Int → V} {i : Int} (q : Q (g i) H) : rU g (.int i) H Q := ⟨i, rfl, q⟩
theorem i_eq {x y : V} (hs : scal x y = true) (q : Q (.bl (decide (x = y))) H) : rEq x y H Q := ⟨hs, q⟩
theorem i_ne {x y : V} (hs : scal x y = true) (q : Q (.bl (!decide (x = y))) H) : rNe x y H Q := ⟨hs, q⟩
theorem i_eqD {x y : V} {d e : PyData} (h1 : Im H x d) (h2 : Im H y e) (s1 : SeqAt.shaped d = true) (s2 : SeqAt.shaped e = true) (q : Q (.bl (PyData.eqv d e)) H) : rEqD K x y H Q := ⟨d, e, Im.dp d h1, Im.dp e h2, s1, s2, q⟩
theorem i_neD {x y : V} {d e : PyData} (h1 : Im H x d) (h2 : Im H y e) (s1 : SeqAt.shaped d = true) (s2 : SeqAt.shaped e = true) (q : Q (.bl (!PyData.eqv d e)) H) : rNeD K x y H Q := ⟨d, e, Im.dp d h1, Im.dp e h2, s1, s2, q⟩
theorem i_test {te : TE} {QB : Bool → Hp → Prop} (h : te σ H fun x H' => ∃ k, x = .bl k ∧ QB k H') : tTest te σ H QB := h
theorem i_b {te : TE} {QB : Bool → Hp → Prop} (h : te σ H fun x H1 => ∃ c, x = .bl c ∧ QB c H1) : tB te σ H QB := h
theorem i_bk {QB : Bool → Prop} {k : Bool} (h : QB k) : ∃ c, V.bl k = V.bl c ∧ QB c := ⟨k, rfl, h⟩
theorem i_and {t u : TT} {QB : Bool → Hp → Prop} (h : t σ H fun c H1 => if c = true then u σ H1 QB else QB false H1) : tAnd t u σ H QB := h
theorem i_or {t u : TT} {QB : Bool → Hp → Prop} (h : t σ H fun c H1 => if c = true then QB true H1 else u σ H1 QB) : tOr t u σ H QB := h
theorem i_not {t : TT} {QB : Bool → Hp → Prop} (h : t σ H fun c H1 => QB (!c) H1) : tNot t σ H QB := h
theorem i_andV {ta tb : TE} (h : ta σ H fun x H1 => ∃ c, x = .bl c ∧ if c = true then tb σ H1 Q else Q (.bl false) H1) : tAndV ta tb σ H Q := h
theorem i_orV {ta tb : TE} (h : ta σ H fun x H1 => ∃ c, x = .bl c ∧ if c = true then Q (.bl true) H1 else tb σ H1 Q) : tOrV ta tb σ H Q := h
theorem i_notV {ta : TE} (h : ta σ H fun x H1 => ∃ c, x = .bl c ∧ Q (.bl (!c)) H1) : tNotV ta σ H Q := h
theorem i_ifE {t : TT} {ta tb : TE} (h : t σ H fun c H1 => if c = true then ta σ H1 Q else tb σ H1 Q) : tIf t ta tb σ H Q := h
theorem i_chain {r r' : R2} {ta tb tc : TE} (h : ta σ H fun x H1 => tb σ H1 fun y H2 => r x y H2 fun z H3 => ∃ k, z = .bl k ∧ (if k = true then tc σ H3 fun w' H4 => r' y w' H4 Q else Q (.bl false) H3)) : tChain r r' ta tb tc σ H Q := h
theorem i_nil {QA : List V → Hp → Prop} (q : QA [] H) : tNil σ H QA := q
theorem i_cons {ta : TE} {tr : TA} {QA : List V → Hp → Prop} (h : ta σ H fun x H1 => tr σ H1 fun xs H2 => QA (x :: xs) H2) : tCons ta tr σ H QA := h
def NewO (n : Nat) (H : Hp) (o : HO) (Q : VK) : Prop := n ≤ sizeLine ∧ ∀ p, H p = none → Q (.ref p) (upd H p o)
theorem i_newO {o : HO} {n : Nat} (hn : n ≤ sizeLine) (q : ∀ p H', H p = none → Same H H' → H' p = some o → Q (.ref p) H') : NewO n H o Q := ⟨hn, new_obj q⟩
theorem i_tupE {t : TA} (h : t σ H fun xs H1 => NewO xs.length H1 (.tup xs) Q) : tTup t σ H Q := h
theorem i_lstE {t : TA} (h : t σ H fun xs H1 => NewO xs.length H1 (.lst xs) Q) : tLst t σ H Q := h
theorem i_new {o : HO} {n : Nat} (hn : n ≤ sizeLine) (q : ∀ p H', H p = none → Same H H' → H' p = some o → Q (.ref p) H') : n ≤ sizeLine ∧ ∀ p, H p = none → Q (.ref p) (upd H p o) := ⟨hn, new_obj q⟩
theorem i_call {sp : Sp} {t : TA} {E : XK} (h : t σ H fun vs H1 => sp vs H1 Q E) (mono : ∀ {H : Hp} {QA QA' : List V → Hp → Prop}, (∀ xs H, QA xs H → QA' xs H) → t σ H QA → t σ H QA') : tCall sp [] E t σ H Q :=
  mono (fun xs H1 q => by rw [List.append_nil]; exact q) h
theorem i_callE {sp : Sp} {t : TA} {E : XK} (h : t σ H fun vs H1 => sp (vs ++ []) H1 Q E) : tCall sp [] E t σ H Q := h
def MakeO (Cc : Addr) (sp : Sp) (vs : List V) (H1 : Hp) (Q : VK) (E : XK) : Prop := ∀ x dx, H1 x = none → H1 dx = none → dx ≠ x → sp (.ref x :: (vs ++ [])) (upd (upd H1 dx (.own x)) x (.ins Cc dx [])) (fun v H2 => v = .non ∧ Q (.ref x) H2) E
theorem i_make {Cc : Addr} {sp : Sp} {t : TA} {E : XK} (h : t σ H fun vs H1 => MakeO Cc sp vs H1 Q E) : tMake Cc sp [] E t σ H Q := h
theorem makeO_of {Cc : Addr} {sp : Sp} {vs : List V} {E : XK} (h : ∀ x dx H', H x = none → Same H H' → H' x = some (.ins Cc dx []) → sp (.ref x :: (vs ++ [])) H' (fun v H2 => v = .non ∧ Q (.ref x) H2) E) : MakeO Cc sp vs H Q E :=
  fun x dx nx nd ne => h x dx _ nx (fun b u hb => by rw [upd_ne (ne_of_none hb nx), upd_ne (ne_of_none hb nd)]; exact hb) upd_same
theorem i_cb {r : List V → Hp → VK → Prop} {t : TA} (h : t σ H fun vs H1 => r vs H1 Q) : tCB r t σ H Q := h
theorem i_len {p : Addr} {xs : List V} (h : H p = some (.lst xs)) (q : Q (.int (xs.length : Nat)) H) : cLen K [.ref p] H Q := ⟨_, _, rfl, .inl ⟨xs, SqL.of h, rfl⟩, q⟩
theorem i_lenT {p : Addr} {xs : List V} (h : H p = some (.tup xs)) (q : Q (.int (xs.length : Nat)) H) : cLen K [.ref p] H Q := ⟨_, _, rfl, .inr ⟨xs, SqT.of h, rfl⟩, q⟩
theorem i_abs {i : Int} (q : Q (.int (i.natAbs : Nat)) H) : cAbs [.int i] H Q := ⟨i, rfl, by
  have e : (if i < 0 then -i else i) = (i.natAbs : Nat) := by split <;> omega
  rw [e]; exact q⟩
theorem i_int1 {i : Int} (q : Q (.int i) H) : cInt1 [.int i] H Q := .inl ⟨i, rfl, q⟩
theorem i_max2 {i j : Int} (q : Q (.int (max i j)) H) : cMax2 [.int i, .int j] H Q := ⟨i, j, rfl, by
  have e : (if j > i then j else i) = max i j := by rw [Int.max_def]; split <;> split <;> omega
  rw [e]; exact q⟩
theorem i_min2 {i j : Int} (q : Q (.int (min i j)) H) : cMin2 [.int i, .int j] H Q := ⟨i, j, rfl, by
  have e : (if j < i then j else i) = min i j := by rw [Int.min_def]; split <;> split <;> omega
  rw [e]; exact q⟩
theorem i_ctupL {p : Addr} {ys : List V} (h : H p = some (.lst ys)) (q : ∀ l H', H l = none → Same H H' → H' l = some (.tup ys) → Q (.ref l) H') : cTup K [.ref p] H Q := ⟨p, ys, rfl, .inl ⟨SqL.of h, new_obj q⟩⟩
theorem i_ixL {p : Addr} {xs : List V} {i : Int} {v : V} (h : H p = some (.lst xs)) (e : atI xs i = some v) (q : Q v H) : rIxL K (.ref p) (.int i) H Q := ⟨p, xs, i, v, rfl, rfl, SqL.of h, e, q⟩
theorem atI_i {xs : List V} {i : Int} (h0 : 0 ≤ i) (h1 : i < (xs.length : Nat)) : ∃ v, xs[i.toNat]? = some v ∧ atI xs i = some v := by
  have hl : i.toNat < xs.length := by omega
  refine ⟨xs[i.toNat], List.getElem?_eq_getElem hl, ?_⟩
  unfold atI ixN
  rw [if_pos h0, if_pos h1]
  exact List.getElem?_eq_getElem hl
theorem atI_ints {ns : List Int} {i : Int} (h0 : 0 ≤ i) (h1 : i < (ns.length : Nat)) : ∃ n, ns[i.toNat]? = some n ∧ atI (ns.map V.int) i = some (.int n) := by
  obtain ⟨v, e1, e2⟩ := atI_i (xs := ns.map V.int) h0 (by rw [List.length_map]; exact h1)
  rw [List.getElem?_map] at e1
  cases q : ns[i.toNat]? with
  | none => rw [q] at e1; cases e1
  | some n => rw [q] at e1; cases e1; exact ⟨n, rfl, e2⟩
theorem i_ixT {p : Addr} {xs : List V} {i : Int} {v : V} (h : H p = some (.tup xs)) (e : atI xs i = some v) (q : Q v H) : rIxT K (.ref p) (.int i) H Q := ⟨p, xs, i, v, rfl, rfl, SqT.of h, e, q⟩
theorem i_setL {p : Addr} {xs : List V} {k : Int} {j : Nat} {v : V} {QH : Hp → Prop} (h : H p = some (.lst xs)) (e : ixN xs.length k = some j) (q : ∀ H', KL p H H' → H' p = some (.lst (xs.set j v)) → QH H') : rSetL (.ref p) (.int k) v H QH :=
  ⟨p, xs, k, j, rfl, rfl, h, e, q _ (kl_upd h) upd_same⟩
theorem i_gsub {to ti : TE} {t : TSet} {v : V} {QG : St → Hp → Prop} (h : to σ H fun o H1 => ti σ H1 fun i H2 => t o i v H2 fun H3 => QG σ H3) : gSub to ti t v σ H QG := h
theorem i_gname {i : Nat} {v : V} {QG : St → Hp → Prop} (h : QG (σ.set i (some v)) H) : gName i v σ H QG := h
theorem i_gtup2 {a : Addr} {x y : V} {i j : Nat} {QG : St → Hp → Prop} (h : H a = some (.tup [x, y])) (q : QG ((σ.set i (some x)).set j (some y)) H) : gTup K 2 (gCons (gName i) (gCons (gName j) gNil)) (.ref a) σ H QG :=
  ⟨a, [x, y], rfl, SqT.of h, rfl, x, [y], rfl, y, [], rfl, rfl, q⟩
theorem i_append {l : Addr} {xs : List V} {y : V} (h : H l = some (.lst xs)) (n : xs.length < sizeLine) (q : ∀ H', KL l H H' → H' l = some (.lst (xs ++ [y])) → Q .non H') : rAppend (.ref l) [y] H Q :=
  ⟨l, xs, y, rfl, rfl, h, n, q _ (kl_upd h) upd_same⟩
theorem i_bm {T : String} {r : V → List V → Hp → VK → Prop} {to : TE} {t : TA} (h : to σ H fun x H1 => tyV K T x H1 ∧ t σ H1 fun xs H2 => r x xs H2 Q) : tBM K T r to t σ H Q := h
theorem i_tyL {l : Addr} {xs : List V} {P : Prop} (h : H l = some (.lst xs)) (q : P) : tyV K "list" (.ref l) H ∧ P := ⟨.inl ⟨rfl, _, SqL.of h⟩, q⟩
theorem i_cat {l b : Addr} {xs zs : List V} (h : H l = some (.lst xs)) (h' : H b = some (.lst zs)) (n : xs.length + zs.length ≤ sizeLine) (q : ∀ p H', H p = none → Same H H' → H' p = some (.lst (xs ++ zs)) → Q (.ref p) H') : rCat (.ref l) (.ref b) H Q :=
  ⟨l, b, xs, zs, rfl, rfl, h, h', n, new_obj q⟩
theorem i_sl {r : V → Option Int → Option Int → Hp → VK → Prop} {te : TE} {tl th : TO} (h : te σ H fun x H1 => tl σ H1 fun l H2 => th σ H2 fun u H3 => r x l u H3 Q) : tSl r te tl th σ H Q := h
theorem i_noPart {QO : Option Int → Hp → Prop} (q : QO none H) : tNoPart σ H QO := q
theorem i_part {t : TE} {QO : Option Int → Hp → Prop} (h : t σ H fun x H1 => ∃ i, x = .int i ∧ QO (some i) H1) : tPart t σ H QO := h
theorem i_partI {QO : Int → Prop} {i : Int} (q : QO i) : ∃ j, V.int i = .int j ∧ QO j := ⟨i, rfl, q⟩
theorem i_slL {a : Addr} {xs : List V} {lo hi : Option Int} (h : H a = some (.lst xs)) (q : ∀ p H', H p = none → Same H H' → H' p = some (.lst (cutV xs lo hi)) → Q (.ref p) H') : rSlL K (.ref a) lo hi H Q := ⟨a, xs, rfl, SqL.of h, new_obj q⟩
def RevO (K : PySem.W.Frag) (x : V) (H1 : Hp) (Q : VK) : Prop := ∃ a xs, x = .ref a ∧ SqL K H1 a xs ∧ ∀ p, H1 p = none → Q (.ref p) (upd H1 p (.lst xs.reverse))
theorem i_revL {te : TE} (h : te σ H fun x H1 => RevO K x H1 Q) : tRevL K te σ H Q := h
theorem i_revL' {a : Addr} {xs : List V} (h : H a = some (.lst xs)) (q : ∀ p H', H p = none → Same H H' → H' p = some (.lst xs.reverse) → Q (.ref p) H') : RevO K (.ref a) H Q := ⟨a, xs, rfl, SqL.of h, new_obj q⟩
theorem i_gcd {a b : Int} (q : Q (.int ((Nat.gcd a.natAbs b.natAbs : Nat) : Int)) H) : rGcd [.int a, .int b] H Q := ⟨a, b, rfl, q⟩
theorem i_fld {ta : TE} {f : Str} (h : ta σ H fun x H1 => ∃ a C dx fs v, x = .ref a ∧ H1 a = some (.ins C dx fs) ∧ Cls K C ∧ NoAttr K C f ∧ fs.lookup f = some v ∧ Q v H1) : tFld K ta f σ H Q := h
theorem i_fld' {P : V → Prop} {a C dx : Addr} {fs : List (Str × V)} {v : V} {f : Str} (h : H a = some (.ins C dx fs)) (c : Cls K C) (n : NoAttr K C f) (e : fs.lookup f = some v) (q : P v) : ∃ b C dx fs v, V.ref a = .ref b ∧ H b = some (.ins C dx fs) ∧ Cls K C ∧ NoAttr K C f ∧ fs.lookup f = some v ∧ P v := ⟨a, C, dx, fs, v, rfl, h, c, n, e, q⟩
theorem i_rsum {a : Addr} {ns : List Int} (h : H a = some (.lst (ns.map V.int))) (q : Q (.int ns.sum) H) : rSum K [.ref a] H Q := ⟨a, ns, rfl, SqL.of h, q⟩
theorem i_rall {a : Addr} {bs : List Bool} (h : H a = some (.lst (bs.map V.bl))) (q : Q (.bl (bs.all id)) H) : rAll K [.ref a] H Q := ⟨a, bs, rfl, SqL.of h, q⟩
theorem ite_d {c : Prop} [Decidable c] {A B : Prop} (h1 : c → A) (h2 : ¬ c → B) : if decide c = true then A else B := by
  by_cases h : c
  · rw [decide_eq_true h]; exact iteT (h1 h)
  · rw [decide_eq_false h]; exact iteF (h2 h)
theorem ite_nd {c : Prop} [Decidable c] {A B : Prop} (h1 : ¬ c → A) (h2 : c → B) : if (!decide c) = true then A else B := by
  by_cases h : c
  · rw [decide_eq_true h]; exact iteF (h2 h)
  · rw [decide_eq_false h]; exact iteT (h1 h)
theorem ite_nT {A B : Prop} (h : B) : if (!true) = true then A else B := iteF h
theorem ite_nF {A B : Prop} (h : A) : if (!false) = true then A else B := iteT h
theorem ite_b {c : Bool} {A B : Prop} (h1 : c = true → A) (h2 : c = false → B) : if c = true then A else B := by
  cases c
  · exact iteF (h2 rfl)
  · exact iteT (h1 rfl)
theorem ite_nb {c : Bool} {A B : Prop} (h1 : c = false → A) (h2 : c = true → B) : if (!c) = true then A else B := by
  cases c
  · exact iteT (h1 rfl)
  · exact iteF (h2 rfl)
end

/-! ### loops -/
section
variable {K : PySem.W.Frag} {D : Ends} {σ : St} {H : Hp} {Q : VK}
def ForR (g : TG) (tb : TS) (D : Ends) (σ : St) (vs : List V) (H1 : Hp) : Prop := ∃ j : Int, vs = [.int j] ∧ -(2 ^ 62) ≤ j ∧ j < 2 ^ 62 ∧ ∃ W : Nat → Nat → St → Hp → Prop, (∃ m, W 0 m σ H1) ∧ ∀ i m σ H, W i m σ H →
  ((Itr 0 j.toNat).stop i H ∧ D.nx σ H) ∨ ((Itr 0 j.toNat).go i H ∧ ∃ N : St → Hp → Prop, (∀ σ' H', N σ' H' → ∃ m', m' < m ∧ W (i + 1) m' σ' H') ∧ ∀ x H', (Itr 0 j.toNat).yld i H x H' → g x σ H' fun σ2 H2 => tb { D with nx := N, ct := N, bk := D.nx } σ2 H2)
theorem i_forR {ta : TA} {g : TG} {tb : TS} (h : ta σ H fun vs H1 => ForR g tb D σ vs H1) : tFor (iRng1 ta) g tb D σ H := h
theorem forR_of {k : Nat} {tb : TS} {j : Int} {n : Nat} (Pv : Nat → St → Hp → Prop) (Bk : St → Hp → Prop) (hj : j = (n : Nat)) (hn : n < 4000000000) (h0 : Pv 0 σ H)
    (hs : ∀ (i : Nat) (σ : St) (H : Hp) (N B : St → Hp → Prop), i < n → Pv i σ H → (∀ σ H, Pv (i + 1) σ H → N σ H) → (∀ σ H, Bk σ H → B σ H) → tb { D with nx := N, ct := N, bk := B } (σ.set k (some (.int (i : Nat)))) H)
    (hd : ∀ σ H, Pv n σ H → D.nx σ H) (hb : ∀ σ H, Bk σ H → D.nx σ H) : ForR (gName k) tb D σ [.int j] H := by
  subst hj
  refine ⟨_, rfl, by omega, by omega, ?_⟩
  rw [Int.toNat_natCast]
  refine for_range (lo := 0) (n := n) Pv h0 (fun i σ H hi p => ?_) hd
  have h := hs i σ H (Pv (i + 1)) D.nx hi p (fun _ _ q => q) hb
  have e : (0 : Int) + ((i : Nat) : Int) = (i : Nat) := by omega
  rw [e]
  exact h
def ForT (K : PySem.W.Frag) (g : TG) (tb : TS) (D : Ends) (σ : St) (x : V) (H1 : Hp) : Prop := ∃ a, x = .ref a ∧ (∃ xs, SqT K H1 a xs) ∧ ∃ W : Nat → Nat → St → Hp → Prop, (∃ m, W 0 m σ H1) ∧ ∀ i m σ H, W i m σ H →
  ((Itt K a).stop i H ∧ D.nx σ H) ∨ ((Itt K a).go i H ∧ ∃ N : St → Hp → Prop, (∀ σ' H', N σ' H' → ∃ m', m' < m ∧ W (i + 1) m' σ' H') ∧ ∀ x H', (Itt K a).yld i H x H' → g x σ H' fun σ2 H2 => tb { D with nx := N, ct := N, bk := D.nx } σ2 H2)
theorem i_forT {tl : TE} {g : TG} {tb : TS} (h : tl σ H fun x H1 => ForT K g tb D σ x H1) : tFor (iTup K tl) g tb D σ H := h
theorem forT_of {g : TG} {tb : TS} {a : Addr} {xs : List V} (ha : H a = some (.tup xs)) (Pv : Nat → St → Hp → Prop) (Bk : St → Hp → Prop) (h0 : Pv 0 σ H) (hl : ∀ i σ H', Pv i σ H' → ∀ b ys, H b = some (.tup ys) → H' b = some (.tup ys))
    (hs : ∀ (i : Nat) (x : V) (σ : St) (H : Hp) (N B : St → Hp → Prop), xs[i]? = some x → Pv i σ H → (∀ σ H, Pv (i + 1) σ H → N σ H) → (∀ σ H, Bk σ H → B σ H) → g x σ H fun σ2 H2 => tb { D with nx := N, ct := N, bk := B } σ2 H2)
    (hd : ∀ σ H, Pv xs.length σ H → D.nx σ H) (hb : ∀ σ H, Bk σ H → D.nx σ H) : ForT K g tb D σ (.ref a) H :=
  ⟨a, rfl, ⟨xs, SqT.of ha⟩, for_tup (K := K) (a := a) (xs := xs) Pv h0 (fun i σ H' _ p => SqT.of (hl i σ H' p a xs ha)) (fun i x σ H hi p => hs i x σ H (Pv (i + 1)) D.nx hi p (fun _ _ q => q) hb) hd⟩
/-! ### comprehensions -/
def LcT (K : PySem.W.Frag) (g : TG) (te : TE) (vs : List Nat) (σ : St) (Q : VK) (x : V) (H1 : Hp) : Prop := ∃ a, x = .ref a ∧ (∃ xs, SqT K H1 a xs) ∧ ∀ D, H1 D = none → ∃ W : Nat → Nat → Hp → Prop, (∃ m, W 0 m (upd H1 D (.lst []))) ∧ ∀ i m H, W i m H →
  ((Itt K a).stop i H ∧ Q (.ref D) H) ∨ ((Itt K a).go i H ∧ ∃ Nx : Hp → Prop, (∀ H', Nx H' → ∃ m', m' < m ∧ W (i + 1) m' H') ∧ ∀ x H', (Itt K a).yld i H x H' → g x (wipe σ vs) H' fun σ2 H2 => wipe σ2 vs = wipe σ vs ∧ tYes σ2 H2 fun b H3 =>
    if b = true then te σ2 H3 fun y H4 => ∃ acc, H4 D = some (.lst acc) ∧ acc.length < sizeLine ∧ Nx (upd H4 D (.lst (acc ++ [y]))) else Nx H3)
theorem i_lcT {tl te : TE} {g : TG} {vs : List Nat} (h : tl σ H fun x H1 => LcT K g te vs σ Q x H1) : tLc (iTup K tl) g tYes te vs σ H Q := h
def LcL (K : PySem.W.Frag) (g : TG) (te : TE) (vs : List Nat) (σ : St) (Q : VK) (x : V) (H1 : Hp) : Prop := ∃ a, x = .ref a ∧ (∃ xs, SqL K H1 a xs) ∧ ∀ D, H1 D = none → ∃ W : Nat → Nat → Hp → Prop, (∃ m, W 0 m (upd H1 D (.lst []))) ∧ ∀ i m H, W i m H →
  ((Itl K a).stop i H ∧ Q (.ref D) H) ∨ ((Itl K a).go i H ∧ ∃ Nx : Hp → Prop, (∀ H', Nx H' → ∃ m', m' < m ∧ W (i + 1) m' H') ∧ ∀ x H', (Itl K a).yld i H x H' → g x (wipe σ vs) H' fun σ2 H2 => wipe σ2 vs = wipe σ vs ∧ tYes σ2 H2 fun b H3 =>
    if b = true then te σ2 H3 fun y H4 => ∃ acc, H4 D = some (.lst acc) ∧ acc.length < sizeLine ∧ Nx (upd H4 D (.lst (acc ++ [y]))) else Nx H3)
theorem i_lcL {tl te : TE} {g : TG} {vs : List Nat} (h : tl σ H fun x H1 => LcL K g te vs σ Q x H1) : tLc (iList K tl) g tYes te vs σ H Q := h
/-- what holds between two turns of a comprehension over data -/
def LcI (H : Hp) (Dl : Addr) (es : List PyData) (F : PyData → PyData) (i : Nat) (H1 : Hp) : Prop :=
  (∀ b o, H b = some o → H1 b = some o) ∧ ∃ ys, H1 Dl = some (.lst ys) ∧ ImL H1 ys ((es.take i).map F)
theorem lcI_0 {H : Hp} {Dl : Addr} {es : List PyData} {F : PyData → PyData} (hD : H Dl = none) : LcI H Dl es F 0 (upd H Dl (.lst [])) :=
  ⟨same_upd hD, [], upd_same, by simp [ImL]⟩
theorem lcI_turn {H : Hp} {Dl : Addr} {es : List PyData} {F : PyData → PyData} {i : Nat} {H1 H3 : Hp} {e : PyData} {y : V} (hD : H Dl = none) (hs : es.length < sizeLine) (he : es[i]? = some e) (p : LcI H Dl es F i H1) (s : Same H1 H3) (hy : Im H3 y (F e)) :
    ∃ acc, H3 Dl = some (.lst acc) ∧ acc.length < sizeLine ∧ LcI H Dl es F (i + 1) (upd H3 Dl (.lst (acc ++ [y]))) := by
  obtain ⟨k, ys, h1, h2⟩ := p
  have hl := h2.length
  refine ⟨ys, s _ _ h1, ?_, ?_, ys ++ [y], upd_same, ?_⟩
  · rw [hl, List.length_map, List.length_take]
    omega
  · exact same_loc (Same.trans k s) (kl_upd (s _ _ h1)) hD
  · have kl := kl_upd (ys := ys ++ [y]) (s _ _ h1)
    have e1 : (es.take (i + 1)).map F = (es.take i).map F ++ [F e] := by
      rw [List.take_add_one, he]; simp
    rw [e1]
    exact ImL.append (kl_iml kl (sm_iml s h2)) (by simp only [ImL]; exact ⟨kl_im kl hy, trivial⟩)
theorem lcT_of {g : TG} {te : TE} {vs : List Nat} {a : Addr} {xs : List V} {es : List PyData} (F : PyData → PyData) (ha : H a = some (.tup xs)) (hl : ImL H xs es) (hz : es.length < sizeLine)
    (turn : ∀ (e : PyData) (x : V) (H1 : Hp) (N : V → Hp → Prop), e ∈ es → Same H H1 → Im H1 x e → (∀ y H3, Same H1 H3 → Im H3 y (F e) → N y H3) → g x (wipe σ vs) H1 fun σ2 H2 => wipe σ2 vs = wipe σ vs ∧ te σ2 H2 N)
    (done : ∀ D H1 ys, H D = none → Same H H1 → H1 D = some (.lst ys) → ImL H1 ys (es.map F) → Q (.ref D) H1) : LcT K g te vs σ Q (.ref a) H := by
  refine ⟨a, rfl, ⟨xs, SqT.of ha⟩, fun Dl hD => ?_⟩
  refine lc_tup (K := K) (a := a) (xs := xs) (tt := tYes) (LcI H Dl es F) (lcI_0 hD) (fun i H' _ p => SqT.of (p.1 _ _ ha)) (fun i x H' hx p => ?_) (fun H' p => ?_)
  · obtain ⟨e, he, hi⟩ := hl.get hx
    exact turn e x H' _ (List.mem_of_getElem? he) p.1 (Im.mono (fun b ys q => p.1 b _ q) e hi) (fun y H3 s hy => lcI_turn hD hz he p s hy)
  · obtain ⟨k, ys, h1, h2⟩ := p
    rw [List.take_of_length_le (by rw [hl.length]; exact Nat.le_refl _)] at h2
    exact done Dl H' ys hD k h1 h2
theorem lcL_of {g : TG} {te : TE} {vs : List Nat} {a : Addr} {xs : List V} {es : List PyData} (F : PyData → PyData) (ha : SqL K H a xs) (hl : ImL H xs es) (hz : es.length < sizeLine)
    (turn : ∀ (e : PyData) (x : V) (H1 : Hp) (N : V → Hp → Prop), e ∈ es → Same H H1 → Im H1 x e → (∀ y H3, Same H1 H3 → Im H3 y (F e) → N y H3) → g x (wipe σ vs) H1 fun σ2 H2 => wipe σ2 vs = wipe σ vs ∧ te σ2 H2 N)
    (done : ∀ D H1 ys, H D = none → Same H H1 → H1 D = some (.lst ys) → ImL H1 ys (es.map F) → Q (.ref D) H1) : LcL K g te vs σ Q (.ref a) H := by
  refine ⟨a, rfl, ⟨xs, ha⟩, fun Dl hD => ?_⟩
  refine lc_list (K := K) (a := a) (xs := xs) (tt := tYes) (LcI H Dl es F) (lcI_0 hD) (fun i H' _ p => Same.seq p.1 ha) (fun i x H' hx p => ?_) (fun H' p => ?_)
  · obtain ⟨e, he, hi⟩ := hl.get hx
    exact turn e x H' _ (List.mem_of_getElem? he) p.1 (Im.mono (fun b ys q => p.1 b _ q) e hi) (fun y H3 s hy => lcI_turn hD hz he p s hy)
  · obtain ⟨k, ys, h1, h2⟩ := p
    rw [List.take_of_length_le (by rw [hl.length]; exact Nat.le_refl _)] at h2
    exact done Dl H' ys hD k h1 h2
theorem i_slLq {a : Addr} {xs : List V} {lo hi : Option Int} (h : SqL K H a xs) (q : ∀ p H', H p = none → Same H H' → H' p = some (.lst (cutV xs lo hi)) → Q (.ref p) H') : rSlL K (.ref a) lo hi H Q := ⟨a, xs, rfl, h, new_obj q⟩
theorem cutV_map (ns : List Int) (lo hi : Option Int) : ∃ ms : List Int, cutV (ns.map V.int) lo hi = ms.map V.int ∧ ms.length ≤ ns.length := by
  refine ⟨(ns.drop (HT.sIx (ns.map V.int).length 0 lo)).take (HT.sIx (ns.map V.int).length (ns.map V.int).length hi - HT.sIx (ns.map V.int).length 0 lo), ?_, ?_⟩
  · unfold cutV
    rw [List.map_take, List.map_drop]
  · rw [List.length_take, List.length_drop]
    omega
end

/-! ### calls -/
structure Okd (P : Program) (w : World) (K : PySem.W.Frag) (mg : Str → Option Value) (base : Heap) (k : Nat) (x : Str) (ps : List Str) (sp : Sp) : Prop where
  ex : ∃ f fd, FnOk P w K mg base CX0 k f fd ps sp ∧ mg x = some (.ref f) ∧ PySem.W.keepIn K (.ref f) = true ∧ Binds K fd ps []
section
variable {X : Cx} {x : Str} {p pos : Pos} {e : Expr} {es : List Expr} {t : TA} {k : Nat} {ps : List Str} {sp : Sp}
theorem pe_callD (Dd : Okd X.prog X.w X.K X.mg X.base k x ps sp) (hr : Room k X.A) (ha : PA X (e :: es) t) (hg : Gl X x := by rfl) (hdb : (x == ("__debug__" : Str)) = false := by decide)
    (he : starEach (e :: es) X.env = (false, eval e X.env) :: starEach es X.env := by rfl) (hpl : (backTo pos (starEach es X.env)).any (·.1) = false := by rfl) : PE X (.Call (.Name x p) (e :: es) [] pos) (tCall sp [] E0 t) := by
  obtain ⟨f, fd, F, h1, h2, h3⟩ := Dd.ex
  exact pe_call F hr hg h1 h2 h3 .nil pass0 ha hdb he hpl
end

/-! ### math.lcm of positive numbers -/
theorem log2_div (n : Nat) (h : n.log2 < 13001) : ¬ n.log2 / 30 + 1 > 450 := by omega
theorem max_log2 {a b c : Nat} (ha : a.log2 < c) (hb : b.log2 < c) : (max a b).log2 < c := by
  rcases Nat.le_total a b with h | h
  · rw [Nat.max_eq_right h]; exact hb
  · rw [Nat.max_eq_left h]; exact ha
theorem log2_mul_lt {a b i j : Nat} (ha : a.log2 < i) (hb : b.log2 < j) (h0 : a ≠ 0) (h1 : b ≠ 0) : (a * b).log2 < i + j := by
  have x : a < 2 ^ i := (Nat.log2_lt h0).mp ha
  have y : b < 2 ^ j := (Nat.log2_lt h1).mp hb
  refine (Nat.log2_lt (Nat.mul_ne_zero h0 h1)).mpr ?_
  rw [Nat.pow_add]
  exact Nat.mul_lt_mul'' x y
theorem log2_le {a b : Nat} (h : a ≤ b) (h0 : a ≠ 0) : a.log2 ≤ b.log2 := by
  have hb : b ≠ 0 := by omega
  have y : b < 2 ^ (b.log2 + 1) := (Nat.log2_lt hb).mp (Nat.lt_succ_self _)
  have z : a.log2 < b.log2 + 1 := (Nat.log2_lt h0).mpr (Nat.lt_of_le_of_lt h y)
  omega
section
variable {X : Cx}
theorem cr_lcm : CallR X (.builtin "math.lcm") rLcm := by
  intro pins s σ H vs us Q I r h
  obtain ⟨a, b, rfl, ha, hb, la, lb, q⟩ := h
  obtain ⟨t, u, rfl⟩ := Vals.int2 r
  have e1 : Nat.lcm 1 a.natAbs = a.natAbs := by simp [Nat.lcm]
  have na : a.natAbs ≠ 0 := by omega
  have nb : b.natAbs ≠ 0 := by omega
  have hle : a.natAbs.lcm b.natAbs ≤ a.natAbs * b.natAbs := Nat.le_of_dvd (Nat.mul_pos (by omega) (by omega)) ⟨a.natAbs.gcd b.natAbs, by rw [Nat.mul_comm (Nat.lcm _ _)]; exact (Nat.gcd_mul_lcm _ _).symm⟩
  have hpos : a.natAbs.lcm b.natAbs ≠ 0 := Nat.pos_iff_ne_zero.mp (Nat.lcm_pos (by omega) (by omega))
  have hl : (a.natAbs.lcm b.natAbs).log2 < 26001 := Nat.lt_of_le_of_lt (log2_le hle hpos) (Nat.lt_of_lt_of_le (log2_mul_lt la lb na nb) (by decide))
  have hm : (max a.natAbs b.natAbs).log2 < 13000 := max_log2 la lb
  have hm1 : (max 1 a.natAbs).log2 < 13000 := max_log2 (by decide) la
  have hz : ((((Nat.lcm 1 a.natAbs).lcm b.natAbs : Nat) : Int)).natAbs.log2 < bitsLine := by
    rw [e1, Int.natAbs_natCast, show bitsLine = 134217728 by decide]
    omega
  have g := PySem.W.mg_run_lcm a t b u (by omega) (by omega) hz
  rw [e1] at g
  exact call_function_meets PySem.W.MGF.kind_lcm PySem.W.MGF.plain_lcm PySem.W.MGF.entry_lcm (PySem.W.MGF.args_lcm _ _) g.meets ⟨.int _, H, I.tok _, ⟨_, rfl⟩, q⟩
end
theorem i_lcm {H : Hp} {Q : VK} {a b : Int} (ha : 0 < a) (hb : 0 < b) (la : a.natAbs.log2 < 13000) (lb : b.natAbs.log2 < 13000) (q : Q (.int ((Nat.lcm a.natAbs b.natAbs : Nat) : Int)) H) : rLcm [.int a, .int b] H Q := ⟨a, b, rfl, ha, hb, la, lb, q⟩
/-! ### answers -/
/-- a value that is d, all that stood stands -/
def Ret (H : Hp) (Q : VK) (d : PyData) : Prop := ∀ v H', Same H H' → Im H' v d → Q v H'
/-- the same, the hand at m drawn from -/
def RetM (m c : Addr) (H : Hp) (Q : VK) (d : PyData) : Prop := ∀ v H', KL m H H' → Hand H' m c → Im H' v d → Q v H'
theorem Ret.tup {H : Hp} {Q : VK} {ds : List PyData} {vs : List V} (r : Ret H Q (.tuple ds)) (H1 : Hp) (s : Same H H1) (l : ImL H1 vs ds) : ∀ p H', H1 p = none → Same H1 H' → H' p = some (.tup vs) → Q (.ref p) H' :=
  fun p H' _ s' e => r _ _ (s.trans s') (Im.tup e (sm_iml s' l))
theorem Ret.int {H : Hp} {Q : VK} {i : Int} (r : Ret H Q (.int i)) (H1 : Hp) (s : Same H H1) : Q (.int i) H1 := r _ _ s Im.int'
/-- shaped data -/
def Fl : PyData → Bool
  | .int _ => true
  | _ => false
theorem canAll_of {ds : List PyData} : (∀ d ∈ ds, d.canLay0 = true) → PyData.canLayAll0 ds = true := by
  induction ds with
  | nil => intro _; rfl
  | cons d ds ih =>
    intro h
    simp only [PyData.canLayAll0, Bool.and_eq_true]
    exact ⟨h d List.mem_cons_self, ih fun e he => h e (List.mem_cons_of_mem _ he)⟩
theorem depthAll_of {ds : List PyData} {n : Nat} : (∀ d ∈ ds, d.depth ≤ n) → PyData.depthAll ds ≤ n := by
  induction ds with
  | nil => intro _; exact Nat.zero_le _
  | cons d ds ih =>
    intro h
    simp only [PyData.depthAll]
    exact Nat.max_le.mpr ⟨h d List.mem_cons_self, ih fun e he => h e (List.mem_cons_of_mem _ he)⟩
theorem shaped_tup {ds : List PyData} {n : Nat} (hn : n < 64) (h : ∀ d ∈ ds, d.canLay0 = true ∧ d.depth ≤ n) : SeqAt.shaped (.tuple ds) = true := by
  unfold SeqAt.shaped
  have h1 := canAll_of fun d hd => (h d hd).1
  have h2 := depthAll_of fun d hd => (h d hd).2
  rw [Bool.and_eq_true]
  exact ⟨by simp only [PyData.canLay0]; exact h1, decide_eq_true (by simp only [PyData.depth]; omega)⟩
theorem Im.tup_at' {H : Hp} {v : V} {ds : List PyData} (h : Im H v (.tuple ds)) : ∃ a vs, v = .ref a ∧ H a = some (.tup vs) ∧ ImL H vs ds := by
  simpa only [Im] using h
/-- tuples put together, neither empty -/
theorem i_catT {K : PySem.W.Frag} {H : Hp} {Q : VK} {x y : V} {ds es : List PyData} (h1 : Im H x (.tuple ds)) (h2 : Im H y (.tuple es)) (n1 : ds ≠ []) (n2 : es ≠ []) (hz : ds.length + es.length ≤ sizeLine)
    (q : Ret H Q (.tuple (ds ++ es))) : rCatA K x y H Q := by
  obtain ⟨a, xs, rfl, ha, la⟩ := h1.tup_at'
  obtain ⟨b, ys, rfl, hb, lb⟩ := h2.tup_at'
  have e1 := la.length
  have e2 := lb.length
  refine ⟨a, b, xs, ys, rfl, rfl, SqT.of ha, SqT.of hb, by omega, fun z => ?_, fun _ z => ?_, fun _ _ => new_obj fun p H' hp s e => ?_⟩
  · subst z; exact absurd (List.eq_nil_of_length_eq_zero e1.symm) n1
  · subst z; exact absurd (List.eq_nil_of_length_eq_zero e2.symm) n2
  · exact q _ _ s (Im.tup e (sm_iml s (ImL.append la lb)))
theorem i_isiB {K : PySem.W.Frag} {H : Hp} {Q : VK} {x : V} {t n : String} {b : Bool} (ty : TyX K H x (.type t)) (h : kitB t n = some b) (q : Q (.bl b) H) : rIsi K [x, .ty n] H Q := ⟨x, .ty n, .type t, .type n, b, rfl, .ty n, ty, kit_ty h, q⟩
theorem kit_ii : kitB "int" "int" = some true := by decide +kernel
theorem kit_ib : kitB "int" "bool" = some false := by decide +kernel
theorem kit_tt : kitB "tuple" "tuple" = some true := by decide +kernel
theorem i_isi_ii {K : PySem.W.Frag} {H : Hp} {Q : VK} {i : Int} (q : Q (.bl true) H) : rIsi K [.int i, .ty "int"] H Q := i_isiB (.base (.int i)) kit_ii q
theorem i_isi_ib {K : PySem.W.Frag} {H : Hp} {Q : VK} {i : Int} (q : Q (.bl false) H) : rIsi K [.int i, .ty "bool"] H Q := i_isiB (.base (.int i)) kit_ib q
theorem i_isi_tt {K : PySem.W.Frag} {H : Hp} {Q : VK} {a : Addr} {xs : List V} (h : H a = some (.tup xs)) (q : Q (.bl true) H) : rIsi K [.ref a, .ty "tuple"] H Q := i_isiB (.base (.tup h)) kit_tt q
/-- list slices -/
theorem cutV_from {xs : List V} {i : Int} (h0 : 0 ≤ i) (h1 : i ≤ (xs.length : Nat)) : cutV xs (some i) none = xs.drop i.toNat := by
  have e : HT.sIx xs.length 0 (some i) = i.toNat := by
    obtain ⟨k, rfl⟩ : ∃ k : Nat, i = (k : Nat) := ⟨i.toNat, by omega⟩
    rw [HT.sIx_nat]
    omega
  have e2 : HT.sIx xs.length xs.length none = xs.length := rfl
  unfold cutV
  rw [e, e2]
  exact List.take_of_length_le (by rw [List.length_drop]; exact Nat.le_refl _)
theorem cutV_to {xs : List V} {i : Int} (h0 : 0 ≤ i) (h1 : i ≤ (xs.length : Nat)) : cutV xs none (some i) = xs.take i.toNat := by
  have e : HT.sIx xs.length xs.length (some i) = i.toNat := by
    obtain ⟨k, rfl⟩ : ∃ k : Nat, i = (k : Nat) := ⟨i.toNat, by omega⟩
    rw [HT.sIx_nat]
    omega
  have e2 : HT.sIx xs.length 0 none = 0 := rfl
  unfold cutV
  rw [e, e2, List.drop_zero]
  rfl
/-! ### fractions as data -/
def fr (q : Rat) : PyData := .tuple [.int q.num, .int (q.den : Nat)]
theorem fr_can (q : Rat) : (fr q).canLay0 = true ∧ (fr q).depth ≤ 1 := ⟨rfl, by simp [fr, PyData.depth, PyData.depthAll]⟩
theorem fr_shaped (q : Rat) : SeqAt.shaped (fr q) = true := by
  unfold SeqAt.shaped
  rw [(fr_can q).1]
  have := (fr_can q).2
  simp only [Bool.true_and, decide_eq_true_eq]
  omega
theorem frs_shaped (qs : List Rat) : SeqAt.shaped (.tuple (qs.map fr)) = true := shaped_tup (n := 1) (by decide) fun d hd => by
  obtain ⟨q, _, rfl⟩ := List.mem_map.mp hd
  exact fr_can q
theorem rat_ext {a b : Rat} (h1 : a.num = b.num) (h2 : a.den = b.den) : a = b := by
  cases a; cases b; simp_all
theorem eqv_fr (a b : Rat) : PyData.eqv (fr a) (fr b) = decide (a = b) := by
  simp only [fr, PyData.eqv, PyData.eqvAll, Bool.and_true]
  by_cases h : a = b
  · subst h; simp
  · rw [decide_eq_false h]
    by_cases h1 : a.num = b.num
    · by_cases h2 : (a.den : Int) = (b.den : Int)
      · exact absurd (rat_ext h1 (by omega)) h
      · simp [h1, h2]
    · simp [h1]
theorem eqvAll_frs : ∀ (as bs : List Rat), PyData.eqvAll (as.map fr) (bs.map fr) = decide (as = bs)
  | [], [] => by simp [PyData.eqvAll]
  | a :: as, b :: bs => by
    simp only [List.map_cons, PyData.eqvAll, eqv_fr, eqvAll_frs as bs]
    by_cases h : a = b <;> by_cases h2 : as = bs <;> simp [h, h2]
  | [], _ :: _ => by simp [PyData.eqvAll]
  | _ :: _, [] => by simp [PyData.eqvAll]
theorem eqv_frs (as bs : List Rat) : PyData.eqv (.tuple (as.map fr)) (.tuple (bs.map fr)) = decide (as = bs) := by
  simp only [PyData.eqv]; exact eqvAll_frs as bs
theorem Im.fr_at {H : Hp} {v : V} {q : Rat} (h : Im H v (fr q)) : ∃ a, v = .ref a ∧ H a = some (.tup [.int q.num, .int (q.den : Nat)]) := by
  simp only [fr, Im] at h
  obtain ⟨a, vs, e, ha, hl⟩ := h
  match vs, hl with
  | [x, y], hl =>
    simp only [ImL, Im] at hl
    obtain ⟨rfl, rfl, _⟩ := hl
    exact ⟨a, e, ha⟩
theorem Im.fr_of {H : Hp} {a : Addr} {q : Rat} (h : H a = some (.tup [.int q.num, .int (q.den : Nat)])) : Im H (.ref a) (fr q) := by
  simp only [fr, Im, ImL]; exact ⟨a, _, rfl, h, rfl, rfl, trivial⟩
theorem Im.tup_at {H : Hp} {v : V} {ds : List PyData} (h : Im H v (.tuple ds)) : ∃ a vs, v = .ref a ∧ H a = some (.tup vs) ∧ ImL H vs ds := by
  simpa only [Im] using h
end QW
namespace QW
open PySem L2
/-! ### what the top has written, def by def -/
def DefAt (K : PySem.W.Frag) (x : Str) (st : Stmt) : Prop := ∃ (f : Addr) (oc : Value) (od : Option Addr) (kV doc pm : Value) (an : Option Addr) (cdv ct : Value) (osl : Array (Option Value)),
  PySem.W.nsIn K mainGlobals x = some (some (.ref f)) ∧ K.lookup f = some ⟨oc, od, .func (PySem.W.fnOf x x (defArgs st) (defBody st) (defScope st) .none kV doc pm an cdv ct), osl⟩ ∧ PySem.W.codeIn K cdv x = true ∧ PySem.W.keepIn K (.ref f) = true
/-- a method m (by its long name q) of the class at Cc -/
def MethAt (K : PySem.W.Frag) (Cc : Addr) (m q : Str) (st : Stmt) : Prop := ∃ (f : Addr) (oc : Value) (od : Option Addr) (kV doc pm : Value) (an : Option Addr) (cdv ct : Value) (osl : Array (Option Value)),
  PySem.W.findIn K (.ref Cc) m = some (some (.ref f)) ∧ PySem.W.isFn K (.ref f) = true ∧ K.lookup f = some ⟨oc, od, .func (PySem.W.fnOf m q (defArgs st) (defBody st) (defScope st) .none kV doc pm an cdv ct), osl⟩ ∧ PySem.W.codeIn K cdv q = true ∧ PySem.W.keepIn K (.ref f) = true
/-- how the arguments of a def without defaults bind -/
def BindsBy (x q : Str) (st : Stmt) (ps : List Str) : Prop := ∀ (kV doc pm : Value) (an : Option Addr) (cdv ct : Value) (us : List Value), us.length = ps.length →
  bindArgs (PySem.W.fnOf x q (defArgs st) (defBody st) (defScope st) .none kV doc pm an cdv ct) ⟨us, []⟩ = pure (ps.zip us)
section
variable {P : Program} {w : World} {K : PySem.W.Frag} {mg : Str → Option Value} {base h : Heap} {k : Nat} {x q : Str} {ps : List Str} {sp : Sp} {st : Stmt} {Cc : Addr}
theorem DefAt.okd (D : DefAt K x st) (X : K.In h) (G : h.Ns mainGlobals mg) (hb : BindsBy x x st ps) (ok : ∀ f fd, Fun K x x st f fd → FnOk P w K mg base CX0 k f fd ps sp) : Okd P w K mg base k x ps sp := by
  obtain ⟨f, oc, od, kV, doc, pm, an, cdv, ct, osl, a, l, c, kp⟩ := D
  have F := fun_mk (st := st) l c kp
  exact ⟨⟨f, _, ok _ _ F, PySem.W.mg_of X G a, kp, F.binds hb⟩⟩
structure Okm (P : Program) (w : World) (K : PySem.W.Frag) (mg : Str → Option Value) (base : Heap) (k : Nat) (x : Str) (Cc : Addr) (ps : List Str) (sp : Sp) : Prop where
  ex : ∃ f fd, Mk K Cc f ∧ FnOk P w K mg base CX0 k f fd ps sp ∧ mg x = some (.ref Cc) ∧ Binds K fd ps []
theorem MethAt.okm (D : MethAt K Cc "__init__" q st) (hm : mg x = some (.ref Cc)) (mk : PySem.W.makesIn K Cc = true) (kc : PySem.W.keepIn K (.ref Cc) = true) (hb : BindsBy "__init__" q st ps) (ok : ∀ f fd, Fun K "__init__" q st f fd → FnOk P w K mg base CX0 k f fd ps sp) :
    Okm P w K mg base k x Cc ps sp := by
  obtain ⟨f, oc, od, kV, doc, pm, an, cdv, ct, osl, a, i, l, c, kp⟩ := D
  have F := fun_mk (st := st) l c kp
  exact ⟨⟨f, _, ⟨mk, a, i, kc⟩, ok _ _ F, hm, F.binds hb⟩⟩
structure Okf (P : Program) (w : World) (K : PySem.W.Frag) (mg : Str → Option Value) (base : Heap) (k : Nat) (m : Str) (Cc : Addr) (ps : List Str) (sp : Sp) : Prop where
  ex : ∃ f fd, Meth K Cc m f ∧ FnOk P w K mg base CX0 k f fd ps sp ∧ Binds K fd ps []
  cl : Cls K Cc
theorem MethAt.okf {m : Str} (D : MethAt K Cc m q st) (cl : Cls K Cc) (hb : BindsBy m q st ps) (ok : ∀ f fd, Fun K m q st f fd → FnOk P w K mg base CX0 k f fd ps sp) :
    Okf P w K mg base k m Cc ps sp := by
  obtain ⟨f, oc, od, kV, doc, pm, an, cdv, ct, osl, a, i, l, c, kp⟩ := D
  have F := fun_mk (st := st) l c kp
  exact ⟨⟨f, _, ⟨a, i, kp⟩, ok _ _ F, F.binds hb⟩, cl⟩
end
section
variable {X : Cx} {x m : Str} {p pos apos : Pos} {o e : Expr} {es : List Expr} {to : TE} {t : TA} {k : Nat} {Cc : Addr} {ps : List Str} {sp : Sp}
theorem pe_makeD (Dd : Okm X.prog X.w X.K X.mg X.base k x Cc ps sp) (hr : Room (k + 1) X.A) (ha : PA X (e :: es) t) (hg : Gl X x := by rfl) (hdb : (x == ("__debug__" : Str)) = false := by decide)
    (he : starEach (e :: es) X.env = (false, eval e X.env) :: starEach es X.env := by rfl) (hpl : (backTo pos (starEach es X.env)).any (·.1) = false := by rfl) : PE X (.Call (.Name x p) (e :: es) [] pos) (tMake Cc sp [] E0 t) := by
  obtain ⟨f, fd, M, F, h1, h3⟩ := Dd.ex
  exact pe_make M F hr hg h1 h3 .nil pass0 ha hdb he hpl
end
/-! ### the built-ins by their names -/
theorem bt_len : bootBuiltins "len" = some (.builtin "len") := PySem.boot_len
theorem bt_abs : bootBuiltins "abs" = some (.builtin "abs") := PyProof.Rows.boot_abs
theorem bt_max : bootBuiltins "max" = some (.builtin "max") := PyProof.Rows.boot_max
theorem bt_min : bootBuiltins "min" = some (.builtin "min") := PyProof.Rows.boot_min
theorem bt_sum : bootBuiltins "sum" = some (.builtin "sum") := PyProof.Rows.boot_sum
theorem bt_all : bootBuiltins "all" = some (.builtin "all") := PyProof.Rows.boot_all
theorem bt_isinstance : bootBuiltins "isinstance" = some (.builtin "isinstance") := PyProof.Rows.boot_isinstance
theorem bt_int : bootBuiltins "int" = some (.type "int") := PyProof.Rows.boot_int
theorem bt_bool : bootBuiltins "bool" = some (.type "bool") := PyProof.Rows.boot_bool
theorem bt_tuple : bootBuiltins "tuple" = some (.type "tuple") := PyProof.Rows.boot_tuple
theorem bt_range : bootBuiltins "range" = some (.type "range") := PyProof.Rows.boot_range
end QW

namespace QW
open PySem L2
/-! ### fractions -/
theorem low_num (n : Int) (d : Nat) (h : 0 < d) : (mkRat n d).num = n / ((n.natAbs.gcd d : Nat) : Int) := by
  rw [Rat.num_mkRat, if_neg (by omega), Nat.gcd_comm]
theorem low_den (n : Int) (d : Nat) (h : 0 < d) : (((mkRat n d).den : Nat) : Int) = (d : Int) / ((n.natAbs.gcd d : Nat) : Int) := by
  rw [Rat.den_mkRat, if_neg (by omega), Nat.gcd_comm]
  exact Int.natCast_ediv _ _
theorem gcd_le (n : Int) (d : Nat) (h : 0 < d) : 0 < n.natAbs.gcd d ∧ n.natAbs.gcd d ≤ d :=
  ⟨Nat.gcd_pos_of_pos_right _ h, Nat.le_of_dvd h (Nat.gcd_dvd_right _ _)⟩
theorem log2_lt_of_le {a b k : Nat} (h : a ≤ b) (hb : b.log2 < k) (hk : 0 < k) : a.log2 < k := by
  by_cases h0 : a = 0
  · subst h0; simpa using hk
  · exact Nat.lt_of_le_of_lt (log2_le h h0) hb
theorem div_ok {i : Int} {d : Nat} (h : 0 < d) (hk : d.log2 < 9000) : CDivW i (d : Int) := ⟨by omega, by rw [Int.natAbs_natCast]; exact hk⟩
theorem log2_of_lt {a k : Nat} (h : a < 2 ^ k) (hk : 0 < k) : a.log2 < k := by
  by_cases h0 : a = 0
  · subst h0; simpa using hk
  · exact (Nat.log2_lt h0).mpr h
/-- a common multiple of the bottoms -/
def ComM (qs : List Rat) (M : Nat) : Prop := 0 < M ∧ ∀ q ∈ qs, q.den ∣ M
/-- sums by a common bottom -/
theorem units_sum (L : Nat) (hL : 0 < L) : ∀ qs : List Rat, (∀ q ∈ qs, q.den ∣ L) → mkRat ((qs.map fun q => q.num * ((L : Int) / (q.den : Int))).sum) L = qs.sum
  | [], _ => by simp
  | q :: qs, h => by
    have ih := units_sum L hL qs fun x hx => h x (List.mem_cons_of_mem _ hx)
    obtain ⟨k, hk⟩ := h q List.mem_cons_self
    rw [List.map_cons, List.sum_cons, List.sum_cons, ← ih]
    have hd : q.den ≠ 0 := q.den_nz
    have e : (L : Int) / (q.den : Int) = (k : Int) := by
      rw [hk]; push_cast; exact Int.mul_ediv_cancel_left _ (by omega)
    rw [e]
    have hk0 : k ≠ 0 := by rintro rfl; omega
    have e1 : mkRat (q.num * k) L = q := by
      rw [hk, Int.mul_comm, Nat.mul_comm, Rat.mkRat_mul_left hk0, Rat.mkRat_self]
    generalize (qs.map fun q => q.num * ((L : Int) / (q.den : Int))).sum = S
    conv => rhs; rw [← e1]
    rw [Rat.mkRat_add_mkRat _ _ (by omega) (by omega)]
    rw [show q.num * ↑k * (L : Int) + S * (L : Int) = (L : Int) * (q.num * k + S) by grind, Rat.mkRat_mul_left (by omega)]
theorem fr_inj {a b : Rat} (h : fr a = fr b) : a = b := by
  simp only [fr, PyData.tuple.injEq, List.cons.injEq, PyData.int.injEq, and_true] at h
  exact rat_ext h.1 (by omega)
theorem mem_frs {qs : List Rat} {e : PyData} (h : e ∈ qs.map fr) : ∃ q ∈ qs, e = fr q := by
  obtain ⟨q, hq, rfl⟩ := List.mem_map.mp h
  exact ⟨q, hq, rfl⟩
theorem get_frs {qs : List Rat} {i : Nat} {e : PyData} (h : (qs.map fr)[i]? = some e) : ∃ q, qs[i]? = some q ∧ e = fr q := by
  rw [List.getElem?_map] at h
  cases e1 : qs[i]? with
  | none => rw [e1] at h; cases h
  | some q => rw [e1] at h; exact ⟨q, rfl, (Option.some.inj h).symm⟩
end QW
namespace QW
open PySem L2
/-! ### bounds of fractions -/
/-- bounds of fractions: a common bottom and the tops -/
def Bd (B : Nat) (qs : List Rat) : Prop := qs.length ≤ 1000 ∧ (∃ M, ComM qs M ∧ M < 2 ^ B) ∧ ∀ q ∈ qs, q.num.natAbs < 2 ^ B
/-- small ones: what the law's own adding can go through -/
def Bs (qs : List Rat) : Prop := qs.length ≤ 1000 ∧ (∃ M, ComM qs M ∧ M < 2 ^ 48) ∧ ∀ q ∈ qs, q.num.natAbs < 2 ^ 88
theorem Bs.bd {qs : List Rat} (h : Bs qs) : Bd 8000 qs := by
  obtain ⟨h1, ⟨M, h2, h3⟩, h4⟩ := h
  exact ⟨h1, ⟨M, h2, Nat.lt_trans h3 (Nat.pow_lt_pow_right (by decide) (by decide))⟩, fun q hq => Nat.lt_trans (h4 q hq) (Nat.pow_lt_pow_right (by decide) (by decide))⟩
theorem Bs.sub {qs rs : List Rat} (h : Bs qs) (hl : rs.length ≤ 1000) (hs : ∀ q ∈ rs, q ∈ qs) : Bs rs := by
  obtain ⟨h1, ⟨M, ⟨h2, h2'⟩, h3⟩, h4⟩ := h
  exact ⟨hl, ⟨M, ⟨h2, fun q hq => h2' q (hs q hq)⟩, h3⟩, fun q hq => h4 q (hs q hq)⟩
theorem Bs.take {qs : List Rat} (h : Bs qs) (i : Nat) : Bs (qs.take i) :=
  h.sub (Nat.le_trans (by rw [List.length_take]; omega) h.1) fun q hq => List.mem_of_mem_take hq
theorem sum_abs (M B : Nat) : ∀ qs : List Rat, (∀ q ∈ qs, q.num.natAbs ≤ B) → ((qs.map fun q => q.num * ((M : Int) / (q.den : Int))).sum).natAbs ≤ qs.length * (B * M)
  | [], _ => by simp
  | q :: qs, h => by
    have ih := sum_abs M B qs fun x hx => h x (List.mem_cons_of_mem _ hx)
    rw [List.map_cons, List.sum_cons, List.length_cons, Nat.succ_mul]
    refine Nat.le_trans (Int.natAbs_add_le _ _) ?_
    rw [Int.natAbs_mul, ← Int.natCast_ediv, Int.natAbs_natCast]
    have h1 : q.num.natAbs * (M / q.den) ≤ B * M := Nat.mul_le_mul (h q List.mem_cons_self) (Nat.div_le_self _ _)
    omega
theorem mkRat_num_le (n : Int) (d : Nat) (h : 0 < d) : (mkRat n d).num.natAbs ≤ n.natAbs := by
  rw [low_num n d h, Int.natAbs_ediv_of_dvd (Int.natCast_dvd_natCast.mpr (Nat.gcd_dvd_left _ _) |> fun h => Int.dvd_trans h (Int.natAbs_dvd.mpr (Int.dvd_refl _))), Int.natAbs_natCast]
  exact Nat.div_le_self _ _
theorem mkRat_den_dvd (n : Int) (d : Nat) (h : 0 < d) : (mkRat n d).den ∣ d := by
  rw [Rat.den_mkRat, if_neg (by omega)]
  exact Nat.div_dvd_of_dvd (Nat.gcd_dvd_left _ _)
/-- what a sum of small ones comes to -/
theorem Bs.sum {qs : List Rat} (h : Bs qs) : qs.sum.num.natAbs < 2 ^ 148 ∧ qs.sum.den < 2 ^ 148 := by
  obtain ⟨h1, ⟨M, ⟨h2, h2'⟩, h3⟩, h4⟩ := h
  have e := units_sum M h2 qs h2'
  have hs := sum_abs M (2 ^ 88) qs fun q hq => Nat.le_of_lt (h4 q hq)
  rw [← e]
  have l1 := mkRat_num_le ((qs.map fun q => q.num * ((M : Int) / (q.den : Int))).sum) M h2
  have l2 := Nat.le_of_dvd h2 (mkRat_den_dvd ((qs.map fun q => q.num * ((M : Int) / (q.den : Int))).sum) M h2)
  have l3 : qs.length * (2 ^ 88 * M) ≤ 1000 * (2 ^ 88 * 2 ^ 48) := Nat.mul_le_mul h1 (Nat.mul_le_mul_left _ (Nat.le_of_lt h3))
  have l4 : 1000 * (2 ^ 88 * 2 ^ 48) < 2 ^ 148 := by decide
  have l5 : (2 : Nat) ^ 48 < 2 ^ 148 := by decide
  omega
theorem Bs.den {qs : List Rat} (h : Bs qs) {q : Rat} (hq : q ∈ qs) : q.num.natAbs < 2 ^ 148 ∧ q.den < 2 ^ 148 := by
  obtain ⟨h1, ⟨M, ⟨h2, h2'⟩, h3⟩, h4⟩ := h
  have l := Nat.le_of_dvd h2 (h2' q hq)
  have l4 : (2 : Nat) ^ 88 < 2 ^ 148 := by decide
  have l5 : (2 : Nat) ^ 48 < 2 ^ 148 := by decide
  have := h4 q hq
  omega
/-- all whole numbers times one fraction -/
theorem sum_mul (u : Rat) : ∀ ns : List Int, (ns.map fun n : Int => (n : Rat) * u).sum = ((ns.sum : Int) : Rat) * u
  | [] => by simp
  | n :: ns => by
    rw [List.map_cons, List.sum_cons, List.sum_cons, sum_mul u ns]
    push_cast
    grind
theorem small_log {a : Int} (h : a.natAbs < 2 ^ 70) : a.natAbs.log2 < 9000 := Nat.lt_trans (log2_of_lt h (by decide)) (by decide)
theorem sum_rot (xs : List Int) (i : Nat) : (xs.drop i ++ xs.take i).sum = xs.sum := by
  conv => rhs; rw [← List.take_append_drop i xs]
  rw [List.sum_append, List.sum_append, Int.add_comm]
theorem sum_rev (xs : List Int) : xs.reverse.sum = xs.sum := by
  induction xs with
  | nil => rfl
  | cons x xs ih =>
    rw [List.reverse_cons, List.sum_append, ih, List.sum_cons]
    simp only [List.sum_cons, List.sum_nil]
    omega
theorem le_sum {ns : List Int} (h : ∀ n ∈ ns, 1 ≤ n) : ∀ n ∈ ns, n ≤ ns.sum := by
  induction ns with
  | nil => intro n hn; cases hn
  | cons x xs ih =>
    have hx := h x List.mem_cons_self
    have ih' := ih fun n hn => h n (List.mem_cons_of_mem _ hn)
    have h0 : 0 ≤ xs.sum := by
      cases xs with
      | nil => simp
      | cons y ys =>
        have a := ih' y List.mem_cons_self
        have b := h y (by simp)
        omega
    intro n hn
    rw [List.sum_cons]
    rcases List.mem_cons.mp hn with rfl | hn
    · omega
    · have := ih' n hn
      omega
theorem times_num {n : Int} {u : Rat} (hn : 1 ≤ n) (hu : 0 < u.num) : 0 < ((n : Rat) * u).num ∧ ((n : Rat) * u).num.natAbs ≤ n.natAbs * u.num.natAbs ∧ ((n : Rat) * u).den ∣ u.den := by
  have hd : 0 < u.den := Nat.pos_of_ne_zero u.den_nz
  have e : (n : Rat) * u = mkRat (n * u.num) u.den := by
    conv => lhs; rw [← Rat.mkRat_self u]
    rw [show (n : Rat) = mkRat n 1 from (Rat.mkRat_one n).symm, Rat.mkRat_mul_mkRat, Nat.one_mul]
  rw [e]
  have hp : 0 < n * u.num := Int.mul_pos (by omega) hu
  refine ⟨?_, ?_, mkRat_den_dvd _ _ hd⟩
  · rw [low_num _ _ hd]
    have g0 := (gcd_le (n * u.num) u.den hd).1
    have gd : ((((n * u.num).natAbs.gcd u.den : Nat)) : Int) ∣ n * u.num := Int.dvd_trans (Int.natCast_dvd_natCast.mpr (Nat.gcd_dvd_left _ _)) (Int.natAbs_dvd.mpr (Int.dvd_refl _))
    exact Int.ediv_pos_of_pos_of_dvd hp (by omega) gd
  · rw [← Int.natAbs_mul]
    exact mkRat_num_le _ _ hd
theorem drawn_bs {ns : List Int} {u : Rat} (h : ∀ n ∈ ns, 1 ≤ n) (hs : ns.sum < 2000000000000) (hu : 0 < u.num) (hu2 : u.num ≤ 1000000000000) :
    ∀ q ∈ ns.map (fun n : Int => (n : Rat) * u), 0 < q.num ∧ q.num.natAbs < 2 ^ 88 ∧ q.den ∣ u.den := by
  intro q hq
  obtain ⟨n, hn, rfl⟩ := List.mem_map.mp hq
  obtain ⟨h1, h2, h3⟩ := times_num (h n hn) hu
  have h4 := le_sum h n hn
  have h5 := h n hn
  refine ⟨h1, ?_, h3⟩
  have h6 : n.natAbs * u.num.natAbs ≤ 2000000000000 * 1000000000000 := Nat.mul_le_mul (by omega) (by omega)
  have h7 : 2000000000000 * 1000000000000 < 2 ^ 88 := by decide
  omega
/-- what is drawn: both sides of fractions above 0, of one sum -/
def Drawn (side : Nat) (o d : List Rat) : Prop := 1 ≤ o.length ∧ o.length ≤ side ∧ 1 ≤ d.length ∧ d.length ≤ side ∧ o.sum = d.sum ∧ (∀ q ∈ o, 0 < q.num) ∧ (∀ q ∈ d, 0 < q.num) ∧ Bs (o ++ d)
end QW

namespace QW
open PySem L2

structure CA where
  Evening : Addr
structure CT (K : PySem.W.Frag) (C : CA) : Prop where
  cl : Cls K C.Evening
  nO : NoAttr K C.Evening "owed"
  nD : NoAttr K C.Evening "due"
/-- an evening at v -/
def EvAt (C : CA) (H : Hp) (v : V) (o d : List Rat) : Prop := ∃ e dx vo vd, v = .ref e ∧ H e = some (.ins C.Evening dx [("owed", vo), ("due", vd)]) ∧ Im H vo (.tuple (o.map fr)) ∧ Im H vd (.tuple (d.map fr))
theorem sm_ev {C : CA} {H H' : Hp} {v : V} {o d : List Rat} (s : Same H H') (h : EvAt C H v o d) : EvAt C H' v o d := by
  obtain ⟨e, dx, vo, vd, h1, h2, h3, h4⟩ := h
  exact ⟨e, dx, vo, vd, h1, s _ _ h2, sm_im s h3, sm_im s h4⟩
theorem kl_ev {C : CA} {m : Addr} {H H' : Hp} {v : V} {o d : List Rat} (s : KL m H H') (h : EvAt C H v o d) : EvAt C H' v o d := by
  obtain ⟨e, dx, vo, vd, h1, h2, h3, h4⟩ := h
  exact ⟨e, dx, vo, vd, h1, s.ins _ _ _ _ h2, kl_im s h3, kl_im s h4⟩
/-- g is the greatest divisor of all tops -/
def TopG (qs : List Rat) (g : Nat) : Prop := (∀ q ∈ qs, g ∣ q.num.natAbs) ∧ ∀ m : Nat, (∀ q ∈ qs, m ∣ q.num.natAbs) → m ∣ g
/-- L is the least common bottom -/
def BotL (qs : List Rat) (L : Nat) : Prop := 0 < L ∧ (∀ q ∈ qs, q.den ∣ L) ∧ ∀ m : Nat, (∀ q ∈ qs, q.den ∣ m) → L ∣ m

local macro_rules | `(tactic| walk_at "side") => `(tactic| first
  | exact ⟨by decide, by decide⟩
  | exact ⟨by decide, by decide, by decide⟩
  | decide
  | assumption
  | omega
  | (show (0 : Int) < _; omega)
  | exact ⟨by omega, by assumption⟩
  | exact IntMulOk.of_right (PySem.intBits_le_64 (by omega) (by omega))
  | exact IntMulOk.of_left (PySem.intBits_le_64 (by omega) (by omega)))
local macro_rules | `(tactic| walk_at "ne") => `(tactic| first
  | assumption
  | (apply Ne.symm; assumption)
  | ((with_reducible refine' ne_fresh (by assumption) ?h); (case h => walk_at "keep"))
  | ((with_reducible refine' ne_fresh' (by assumption) ?h); (case h => walk_at "keep")))
local macro_rules | `(tactic| walk_at "keep") => `(tactic| first
  | assumption
  | (with_reducible exact upd_same)
  | ((with_reducible refine sm_at (by assumption) ?_); walk_at "keep")
  | ((with_reducible refine sm_im (by assumption) ?_); walk_at "keep")
  | ((with_reducible refine sm_iml (by assumption) ?_); walk_at "keep")
  | ((with_reducible refine sm_hand (by assumption) ?_); walk_at "keep")
  | ((with_reducible refine kl_im (by assumption) ?_); walk_at "keep")
  | ((with_reducible refine sm_ev (by assumption) ?_); walk_at "keep")
  | ((with_reducible refine kl_ev (by assumption) ?_); walk_at "keep")
  | ((with_reducible refine kl_iml (by assumption) ?_); walk_at "keep")
  | ((with_reducible refine kl_tup (by assumption) ?_); walk_at "keep")
  | ((with_reducible refine kl_ins (by assumption) ?_); walk_at "keep")
  | ((with_reducible refine kl_at (by assumption) ?_ ?_); (focus (walk_at "ne")); walk_at "keep")
  | ((with_reducible refine kl_hand (by assumption) (by assumption) ?_ ?_) <;> walk_at "keep"))
local macro_rules | `(tactic| walk_at "sm") => `(tactic| first
  | assumption
  | (with_reducible exact Same.refl _)
  | (with_reducible exact KL.refl)
  | ((with_reducible refine Same.trans ?_ (by assumption)); walk_at "sm")
  | ((with_reducible refine KL.same ?_ (by assumption)); walk_at "sm")
  | ((with_reducible refine KL.trans ?_ (by assumption)); walk_at "sm")
  | ((with_reducible refine same_loc ?_ (by assumption) ?_); (focus (walk_at "sm")); walk_at "free")
  | ((with_reducible refine KL.loc ?_ (by assumption) ?_); (focus (walk_at "sm")); walk_at "free")
  | ((with_reducible refine Same.kl ?_); walk_at "sm"))
local macro_rules | `(tactic| walk_at "free") => `(tactic| first
  | assumption
  | ((with_reducible refine' Same.free' (by assumption) ?_); walk_at "free")
  | ((with_reducible refine' KL.free (by assumption) ?_); walk_at "free"))
local macro_rules | `(tactic| walk_at "st") => `(tactic| first
  | with_reducible apply i_seq
  | with_reducible apply i_set
  | ((with_reducible apply i_var); exact rfl)
  | with_reducible apply i_c
  | with_reducible apply i_op
  | with_reducible apply i_rI0
  | with_reducible apply i_ret
  | with_reducible apply i_test
  | with_reducible apply i_bk
  | with_reducible apply i_nil
  | with_reducible apply i_cons
  | with_reducible apply i_drop
  | with_reducible apply i_ifS
  | with_reducible apply i_and
  | with_reducible apply i_or
  | with_reducible apply i_not
  | with_reducible apply i_andV
  | with_reducible apply i_orV
  | with_reducible apply i_notV
  | with_reducible apply i_ifE
  | with_reducible apply i_chain
  | with_reducible apply i_b
  | with_reducible apply i_cb
  | with_reducible apply i_un
  | with_reducible apply i_rU
  | with_reducible apply i_next
  | with_reducible apply i_break
  | with_reducible apply i_cont
  | with_reducible apply i_asg
  | with_reducible apply i_gname
  | with_reducible apply i_gsub
  | with_reducible apply i_tupE
  | with_reducible apply i_lstE
  | with_reducible apply i_callE
  | with_reducible apply i_make
  | with_reducible apply i_abs
  | with_reducible apply i_int1
  | with_reducible apply i_max2
  | with_reducible apply i_min2
  | with_reducible apply i_bm
  | with_reducible apply i_sl
  | with_reducible apply i_noPart
  | with_reducible apply i_part
  | with_reducible apply i_partI
  | with_reducible apply i_gcd
  | with_reducible apply i_fld
  | with_reducible apply i_revL
  | with_reducible apply i_forR
  | with_reducible apply i_forT
  | with_reducible apply i_lcT
  | with_reducible apply i_lcL
  | with_reducible apply i_isi_ii
  | with_reducible apply i_isi_ib
  | ((with_reducible refine' i_isi_tt ?h ?_); (case h => walk_at "keep"))
  | ((with_reducible apply i_eq); exact rfl)
  | ((with_reducible apply i_ne); exact rfl)
  | ((with_reducible refine' i_ixL ?h ?e ?_); (case h => walk_at "keep"); (case e => exact rfl))
  | ((with_reducible refine' i_ixT ?h ?e ?_); (case h => walk_at "keep"); (case e => exact rfl))
  | ((with_reducible refine' i_setL ?h ?e ?_); (case h => walk_at "keep"); (case e => exact rfl); intro H' s e)
  | ((with_reducible refine' i_len ?h ?_); (case h => walk_at "keep"))
  | ((with_reducible refine' i_lenT ?h ?_); (case h => walk_at "keep"))
  | ((with_reducible refine' i_revL' ?h ?_); (case h => walk_at "keep"); intro p H' hp s e)
  | ((with_reducible refine' i_slL ?h ?_); (case h => walk_at "keep"); intro p H' hp s e)
  | ((with_reducible refine' i_gtup2 ?h ?_); (case h => walk_at "keep"))
  | ((with_reducible refine' i_tyL ?h ?_); (case h => walk_at "keep"))
  | ((with_reducible refine' i_newO ?h ?_); (case h => (simp only [List.length_cons, List.length_nil]; decide)); intro p H' hp s e)
  | ((with_reducible refine' i_rI ?c ?_); (case c => walk_at "side"))
  | (with_reducible refine' iteT ?_)
  | (with_reducible refine' iteF ?_)
  | (with_reducible refine' ite_nT ?_)
  | (with_reducible refine' ite_nF ?_))
local macro_rules | `(tactic| walk_at "go") => `(tactic| repeat (walk_at "st"))

structure Bi (mg : Str → Option Value) (C : CA) : Prop where
  b_abs : mg "abs" = none
  b_all : mg "all" = none
  b_bool : mg "bool" = none
  b_int : mg "int" = none
  b_isinstance : mg "isinstance" = none
  b_len : mg "len" = none
  b_max : mg "max" = none
  b_min : mg "min" = none
  b_range : mg "range" = none
  b_sum : mg "sum" = none
  b_tuple : mg "tuple" = none
  g_MOST_SUMS : ∃ u, mg "MOST_SUMS" = some (u) ∧ RelV (.int 100) u
  g_gcd : mg "gcd" = some (.builtin "math.gcd")
  g_lcm : mg "lcm" = some (.builtin "math.lcm")

def top (i : Nat) : Stmt := PySem.Challenge.pw_quitsways_k02_whole_totals_people_and_me.main.body.getD i (.Pass ⟨0, 0, 0, 0⟩)

/-! ### lowest -/
abbrev s_lowest : Stmt := top 6
def sp_lowest (K : PySem.W.Frag) (C : CA) : Sp := fun vs H Q _ => ∃ (n : Int) (d : Nat), vs = [.int n, .int (d : Nat)] ∧ 0 < d ∧ d.log2 < 9000 ∧ Ret H Q (fr (mkRat n d))

@[reducible] def N_lowest : List Str := ["top", "bottom", "shared"]
def t_lowest (K : PySem.W.Frag) (C : CA) : TS :=
  (tSeq (tAsg (tCB rGcd (tCons (tVar 0) (tCons (tVar 1) tNil))) (gName 2)) (tRet (tTup (tCons (tOp oDiv (tVar 0) (tVar 2)) (tCons (tOp oDiv (tVar 1) (tVar 2)) tNil)))))

theorem rd_lowest {K : PySem.W.Frag} {C : CA} {vs : List V} {H : Hp} {Q : VK} {E : XK} (h : sp_lowest K C vs H Q E) : t_lowest K C { nx := fun _ H' => Q .non H', rt := Q } (start N_lowest vs) H := by
  obtain ⟨n, d, rfl, hd, hl, q⟩ := h
  obtain ⟨g0, g1⟩ := gcd_le n d hd
  unfold t_lowest
  walk_at "go"
  simp only [Int.natAbs_natCast]
  refine i_rI (div_ok g0 (log2_lt_of_le g1 hl (by decide))) ?_
  walk_at "go"
  refine i_rI (div_ok g0 (log2_lt_of_le g1 hl (by decide))) ?_
  walk_at "go"
  exact q _ _ (by assumption) (Im.fr_of (by rw [low_num n d hd, low_den n d hd]; assumption))

theorem sc_lowest : FnScope N_lowest ["top", "bottom"] (defScope s_lowest) := ⟨rfl, rfl, rfl, by decide +kernel, rfl, by decide +kernel, by decide +kernel⟩
theorem ok_lowest {P : Program} {w : World} {K : PySem.W.Frag} {mg : Str → Option Value} {base : Heap} {C : CA} {f : Addr} {fd : FuncData} (T : CT K C) (B : Bi mg C) (F : Fun K "lowest" "lowest" s_lowest f fd)  : FnOk P w K mg base CX0 1 f fd ["top", "bottom"] (sp_lowest K C) := by
  refine F.ok sc_lowest (fun vs H Q E h => ?_) (fun cdv A outer s H vs Q E hr h => ⟨t_lowest K C, ?_, rd_lowest h⟩)
  · obtain ⟨_, _, rfl, _⟩ := h
    rfl
  · exact (pss_cons (ps_set (i := 2) sc_lowest.nd rfl (Or.inl rfl) (pe_callBfun cr_gcd rfl B.g_gcd (pa_cons (pv 0) (pa_cons (pv 1) pa_nil)))) (pss_one (ps_ret (pe_tup (pa_cons (pe_op op_fdivW (pv 0) (pv 2)) (pa_cons (pe_op op_fdivW (pv 1) (pv 2)) pa_nil))))))

/-! ### common_bottom -/
abbrev s_common_bottom : Stmt := top 7
def sp_common_bottom (K : PySem.W.Frag) (C : CA) : Sp := fun vs H Q _ => ∃ (v : V) (qs : List Rat) (M : Nat), vs = [v] ∧ Im H v (.tuple (qs.map fr)) ∧ ComM qs M ∧ M.log2 < 9000 ∧
  ∀ L : Nat, 0 < L → L ∣ M → (∀ q ∈ qs, q.den ∣ L) → (∀ m, (∀ q ∈ qs, q.den ∣ m) → L ∣ m) → Q (.int (L : Nat)) H

@[reducible] def N_common_bottom : List Str := ["fractions", "shared", "_", "bottom"]
def t_common_bottom (K : PySem.W.Frag) (C : CA) : TS :=
  (tSeq (tAsg (tC (.int 1)) (gName 1)) (tSeq (tFor (iTup K (tVar 0)) (gTup K 2 (gCons (gName 2) (gCons (gName 3) gNil))) (tAsg (tCB rLcm (tCons (tVar 1) (tCons (tVar 3) tNil))) (gName 1))) (tRet (tVar 1))))

theorem rd_common_bottom {K : PySem.W.Frag} {C : CA} {vs : List V} {H : Hp} {Q : VK} {E : XK} (h : sp_common_bottom K C vs H Q E) : t_common_bottom K C { nx := fun _ H' => Q .non H', rt := Q } (start N_common_bottom vs) H := by
  obtain ⟨v, qs, M, rfl, hv, ⟨hM, hdM⟩, hlog, q⟩ := h
  obtain ⟨a, xs, rfl, ha, hl⟩ := hv.tup_at
  have hlen : xs.length = qs.length := by rw [hl.length, List.length_map]
  unfold t_common_bottom
  walk_at "go"
  refine forT_of ha (fun i σ H' => H' = H ∧ ∃ (L : Nat) (x y : Option V), σ = [some (.ref a), some (.int (L : Nat)), x, y] ∧ 0 < L ∧ L ∣ M ∧ (∀ q ∈ qs.take i, q.den ∣ L) ∧ (∀ m, (∀ q ∈ qs.take i, q.den ∣ m) → L ∣ m)) (fun _ _ => False)
    ⟨rfl, 1, none, none, rfl, by decide, Nat.one_dvd _, by simp, fun m _ => Nat.one_dvd _⟩ (fun i σ H' p b ys e => by rw [p.1]; exact e) ?_ ?_ (fun _ _ h => h.elim)
  · rintro i x σ H' N B hx ⟨rfl, L, y1, y2, rfl, h0, h1, h2, h3⟩ hN hB
    obtain ⟨e, he, hi⟩ := hl.get hx
    obtain ⟨r, hr, rfl⟩ := get_frs he
    obtain ⟨b, rfl, hb⟩ := hi.fr_at
    have hrm : r ∈ qs := List.mem_of_getElem? hr
    have hrd : 0 < r.den := Nat.pos_of_ne_zero r.den_nz
    have lL : L.log2 < 13000 := Nat.lt_trans (log2_lt_of_le (Nat.le_of_dvd hM h1) hlog (by decide)) (by decide)
    have lr : r.den.log2 < 13000 := Nat.lt_trans (log2_lt_of_le (Nat.le_of_dvd hM (hdM r hrm)) hlog (by decide)) (by decide)
    walk_at "go"
    refine i_lcm (by omega) (by omega) (by rw [Int.natAbs_natCast]; exact lL) (by rw [Int.natAbs_natCast]; exact lr) ?_
    rw [Int.natAbs_natCast, Int.natAbs_natCast]
    refine hN _ _ ⟨rfl, L.lcm r.den, _, _, rfl, Nat.lcm_pos h0 hrd, Nat.lcm_dvd h1 (hdM r hrm), ?_, ?_⟩
    · intro z hz
      rw [List.take_add_one, hr] at hz
      rcases List.mem_append.mp hz with hz | hz
      · exact Nat.dvd_trans (h2 z hz) (Nat.dvd_lcm_left _ _)
      · have e : z = r := by simpa using hz
        subst e
        exact Nat.dvd_lcm_right _ _
    · intro m hm
      rw [List.take_add_one, hr] at hm
      exact Nat.lcm_dvd (h3 m fun z hz => hm z (List.mem_append_left _ hz)) (hm r (List.mem_append_right _ (by simp)))
  · rintro σ H' ⟨rfl, L, y1, y2, rfl, h0, h1, h2, h3⟩
    rw [hlen, List.take_length] at h2 h3
    walk_at "go"
    exact q L h0 h1 h2 h3

theorem sc_common_bottom : FnScope N_common_bottom ["fractions"] (defScope s_common_bottom) := ⟨rfl, rfl, rfl, by decide +kernel, rfl, by decide +kernel, by decide +kernel⟩
theorem ok_common_bottom {P : Program} {w : World} {K : PySem.W.Frag} {mg : Str → Option Value} {base : Heap} {C : CA} {f : Addr} {fd : FuncData} (T : CT K C) (B : Bi mg C) (F : Fun K "common_bottom" "common_bottom" s_common_bottom f fd)  : FnOk P w K mg base CX0 1 f fd ["fractions"] (sp_common_bottom K C) := by
  refine F.ok sc_common_bottom (fun vs H Q E h => ?_) (fun cdv A outer s H vs Q E hr h => ⟨t_common_bottom K C, ?_, rd_common_bottom h⟩)
  · obtain ⟨_, _, _, rfl, _⟩ := h
    rfl
  · exact (pss_cons (ps_set (i := 1) sc_common_bottom.nd rfl (Or.inl rfl) pe_int) (pss_cons (ps_for PassesOwn.never rfl (pi_tup (pv 0)) (pg_tup rfl (pgs_cons (pg_name (i := 2) sc_common_bottom.nd rfl (Or.inl rfl)) (pgs_cons (pg_name (i := 3) sc_common_bottom.nd rfl (Or.inl rfl)) pgs_nil))) (pss_one (ps_set (i := 1) sc_common_bottom.nd rfl (Or.inl rfl) (pe_callBfun cr_lcm rfl B.g_lcm (pa_cons (pv 1) (pa_cons (pv 3) pa_nil)))))) (pss_one (ps_ret (pv 1)))))

/-! ### in_units -/
abbrev s_in_units : Stmt := top 8
def sp_in_units (K : PySem.W.Frag) (C : CA) : Sp := fun vs H Q _ => ∃ (v : V) (qs : List Rat) (L : Nat), vs = [v, .int (L : Nat)] ∧ Im H v (.tuple (qs.map fr)) ∧ 0 < L ∧ (∀ q ∈ qs, q.den ∣ L) ∧ L < 2 ^ 9000 ∧ (∀ q ∈ qs, q.num.natAbs < 2 ^ 9000) ∧ qs.length < sizeLine ∧
  ∀ p H', Same H H' → H' p = some (.lst ((qs.map fun q => q.num * ((L : Int) / (q.den : Int))).map V.int)) → Q (.ref p) H'

@[reducible] def N_in_units : List Str := ["fractions", "shared", "top", "bottom"]
def t_in_units (K : PySem.W.Frag) (C : CA) : TS :=
  (tRet (tLc (iTup K (tVar 0)) (gTup K 2 (gCons (gName 2) (gCons (gName 3) gNil))) tYes (tOp oMul (tVar 2) (tOp oDiv (tVar 1) (tVar 3))) [2, 3]))

theorem rd_in_units {K : PySem.W.Frag} {C : CA} {vs : List V} {H : Hp} {Q : VK} {E : XK} (h : sp_in_units K C vs H Q E) : t_in_units K C { nx := fun _ H' => Q .non H', rt := Q } (start N_in_units vs) H := by
  obtain ⟨v, qs, L, rfl, hv, hL, hd, hL2, hn, hz, q⟩ := h
  obtain ⟨a, xs, rfl, ha, hl⟩ := hv.tup_at
  unfold t_in_units
  walk_at "go"
  refine lcT_of (es := qs.map fr) (fun d => match d with | .tuple [.int n, .int d] => .int (n * ((L : Int) / d)) | d => d) ha hl (by rw [List.length_map]; exact hz) (fun e x H2 N he s2 hx hN => ?_) (fun D H2 ys hD s2 e2 hy => ?_)
  · obtain ⟨r, hr, rfl⟩ := mem_frs he
    obtain ⟨b, rfl, hb⟩ := hx.fr_at
    have hrd : 0 < r.den := Nat.pos_of_ne_zero r.den_nz
    have hle : r.den ≤ L := Nat.le_of_dvd hL (hd r hr)
    walk_at "go"
    refine ⟨rfl, ?_⟩
    walk_at "go"
    refine i_rI (div_ok hrd (log2_of_lt (Nat.lt_of_le_of_lt hle hL2) (by decide))) ?_
    have hq : ((L : Int) / (r.den : Int)).natAbs < 2 ^ 9000 := by
      rw [← Int.natCast_ediv, Int.natAbs_natCast]
      exact Nat.lt_of_le_of_lt (Nat.div_le_self _ _) hL2
    refine i_rI (mul_wide (hn r hr) hq (by decide)) ?_
    exact hN _ _ (Same.refl _) (by simp only [fr]; exact Im.int')
  · refine q D H2 s2 ?_
    rw [e2]
    have ey : ys = (qs.map fun q => q.num * ((L : Int) / (q.den : Int))).map V.int := by
      clear e2 hz ha hl hv hd hn q
      induction qs generalizing ys with
      | nil => cases ys with
        | nil => rfl
        | cons y ys => simp [ImL] at hy
      | cons z zs ih => cases ys with
        | nil => simp [ImL] at hy
        | cons y ys =>
          simp only [List.map_cons, ImL, fr, Im] at hy
          simp only [List.map_cons]
          rw [hy.1, ih ys hy.2]
    rw [ey]

theorem sc_in_units : FnScope N_in_units ["fractions", "shared"] (defScope s_in_units) := ⟨rfl, rfl, rfl, by decide +kernel, rfl, by decide +kernel, by decide +kernel⟩
theorem ok_in_units {P : Program} {w : World} {K : PySem.W.Frag} {mg : Str → Option Value} {base : Heap} {C : CA} {f : Addr} {fd : FuncData} (T : CT K C) (B : Bi mg C) (F : Fun K "in_units" "in_units" s_in_units f fd)  : FnOk P w K mg base CX0 1 f fd ["fractions", "shared"] (sp_in_units K C) := by
  refine F.ok sc_in_units (fun vs H Q E h => ?_) (fun cdv A outer s H vs Q E hr h => ⟨t_in_units K C, ?_, rd_in_units h⟩)
  · obtain ⟨_, _, _, rfl, _⟩ := h
    rfl
  · exact (pss_one (ps_ret (pe_lc (own := [("top", 2), ("bottom", 3)]) (g := (gTup K 2 (gCons (gName 2) (gCons (gName 3) gNil)))) (tt := tYes) rfl sc_in_units.nd (pi_tup (pv 0)) (blkOk_by (own := [("top", 2), ("bottom", 3)]) (N := N_in_units) (sc := defScope s_in_units) (by decide +kernel)) (fun _ _ _ _ _ => (pg_tup rfl (pgs_cons (pg_name (i := 2) sc_in_units.nd rfl (Or.inl rfl)) (pgs_cons (pg_name (i := 3) sc_in_units.nd rfl (Or.inl rfl)) pgs_nil)))) (fun _ _ _ _ _ => pts_nil) (fun _ _ _ _ _ => (pe_op op_mulA (pv 2) (pe_op op_fdivW (pv 1) (pv 3)))))))

/-! ### added -/
abbrev s_added : Stmt := top 9
def sp_added (K : PySem.W.Frag) (C : CA) : Sp := fun vs H Q _ => ∃ (v : V) (qs : List Rat), vs = [v] ∧ Im H v (.tuple (qs.map fr)) ∧ Bd 8000 qs ∧ Ret H Q (fr qs.sum)

@[reducible] def N_added : List Str := ["fractions", "shared"]
def t_added (K : PySem.W.Frag) (C : CA) : TS :=
  (tSeq (tAsg (tCall (sp_common_bottom K C) [] E0 (tCons (tVar 0) tNil)) (gName 1)) (tRet (tCall (sp_lowest K C) [] E0 (tCons (tCB (rSum K) (tCons (tCall (sp_in_units K C) [] E0 (tCons (tVar 0) (tCons (tVar 1) tNil))) tNil)) (tCons (tVar 1) tNil)))))

theorem rd_added {K : PySem.W.Frag} {C : CA} {vs : List V} {H : Hp} {Q : VK} {E : XK} (h : sp_added K C vs H Q E) : t_added K C { nx := fun _ H' => Q .non H', rt := Q } (start N_added vs) H := by
  obtain ⟨v, qs, rfl, hv, ⟨hlen, ⟨M, hM, hMB⟩, hn⟩, q⟩ := h
  unfold t_added
  walk_at "go"
  refine ⟨v, qs, M, rfl, hv, hM, log2_of_lt (Nat.lt_trans hMB (Nat.pow_lt_pow_right (by decide) (by decide))) (by decide), fun L hL hLM hd _ => ?_⟩
  have hLB : L < 2 ^ 8000 := Nat.lt_of_le_of_lt (Nat.le_of_dvd hM.1 hLM) hMB
  have h89 : (2 : Nat) ^ 8000 < 2 ^ 9000 := Nat.pow_lt_pow_right (by decide) (by decide)
  walk_at "go"
  refine ⟨v, qs, L, rfl, hv, hL, hd, Nat.lt_trans hLB h89, fun r hr => Nat.lt_trans (hn r hr) h89, small1000 hlen, fun p H1 s1 e1 => ?_⟩
  walk_at "go"
  refine i_rsum e1 ?_
  walk_at "go"
  refine ⟨_, L, rfl, hL, log2_of_lt (Nat.lt_trans hLB h89) (by decide), fun w H2 s2 hw => ?_⟩
  rw [units_sum L hL qs hd] at hw
  exact q w H2 (s1.trans s2) hw

theorem sc_added : FnScope N_added ["fractions"] (defScope s_added) := ⟨rfl, rfl, rfl, by decide +kernel, rfl, by decide +kernel, by decide +kernel⟩
theorem ok_added {P : Program} {w : World} {K : PySem.W.Frag} {mg : Str → Option Value} {base : Heap} {C : CA} {f : Addr} {fd : FuncData} (T : CT K C) (B : Bi mg C) (F : Fun K "added" "added" s_added f fd) (D_lowest : Okd P w K mg base 1 "lowest" ["top", "bottom"] (sp_lowest K C)) (D_common_bottom : Okd P w K mg base 1 "common_bottom" ["fractions"] (sp_common_bottom K C)) (D_in_units : Okd P w K mg base 1 "in_units" ["fractions", "shared"] (sp_in_units K C)) : FnOk P w K mg base CX0 2 f fd ["fractions"] (sp_added K C) := by
  refine F.ok sc_added (fun vs H Q E h => ?_) (fun cdv A outer s H vs Q E hr h => ⟨t_added K C, ?_, rd_added h⟩)
  · obtain ⟨_, _, rfl, _⟩ := h
    rfl
  · exact (pss_cons (ps_set (i := 1) sc_added.nd rfl (Or.inl rfl) (pe_callD D_common_bottom (hr.mono (by decide)) (pa_cons (pv 0) pa_nil))) (pss_one (ps_ret (pe_callD D_lowest (hr.mono (by decide)) (pa_cons (pe_callB (cr_sum rfl) (by rfl) B.b_sum bt_sum (pa_cons (pe_callD D_in_units (hr.mono (by decide)) (pa_cons (pv 0) (pa_cons (pv 1) pa_nil))) pa_nil)) (pa_cons (pv 1) pa_nil))))))

/-! ### total -/
abbrev s_total : Stmt := top 18
def sp_total (K : PySem.W.Frag) (C : CA) : Sp := fun vs H Q _ => ∃ (v : V) (o d : List Rat), vs = [v] ∧ EvAt C H v o d ∧ Bd 8000 o ∧ Ret H Q (fr o.sum)

@[reducible] def N_total : List Str := ["evening"]
def t_total (K : PySem.W.Frag) (C : CA) : TS :=
  (tRet (tCall (sp_added K C) [] E0 (tCons (tFld K (tVar 0) "owed") tNil)))

theorem rd_total {K : PySem.W.Frag} {C : CA} (T : CT K C) {vs : List V} {H : Hp} {Q : VK} {E : XK} (h : sp_total K C vs H Q E) : t_total K C { nx := fun _ H' => Q .non H', rt := Q } (start N_total vs) H := by
  obtain ⟨v, o, d, rfl, ⟨e, dx, vo, vd, rfl, he, ho, hd⟩, hb, q⟩ := h
  unfold t_total
  walk_at "go"
  refine i_fld' he T.cl T.nO rfl ?_
  walk_at "go"
  exact ⟨vo, o, rfl, ho, hb, q⟩

theorem sc_total : FnScope N_total ["evening"] (defScope s_total) := ⟨rfl, rfl, rfl, by decide +kernel, rfl, by decide +kernel, by decide +kernel⟩
theorem ok_total {P : Program} {w : World} {K : PySem.W.Frag} {mg : Str → Option Value} {base : Heap} {C : CA} {f : Addr} {fd : FuncData} (T : CT K C) (B : Bi mg C) (F : Fun K "total" "total" s_total f fd) (D_added : Okd P w K mg base 2 "added" ["fractions"] (sp_added K C)) : FnOk P w K mg base CX0 3 f fd ["evening"] (sp_total K C) := by
  refine F.ok sc_total (fun vs H Q E h => ?_) (fun cdv A outer s H vs Q E hr h => ⟨t_total K C, ?_, rd_total T h⟩)
  · obtain ⟨_, _, _, rfl, _⟩ := h
    rfl
  · exact (pss_one (ps_ret (pe_callD D_added (hr.mono (by decide)) (pa_cons (pe_fld (pv 0) rfl) pa_nil))))

/-! ### people -/
abbrev s_people : Stmt := top 19
def sp_people (K : PySem.W.Frag) (C : CA) : Sp := fun vs H Q _ => ∃ (v : V) (o d : List Rat), vs = [v] ∧ EvAt C H v o d ∧ Q (.int ((o.length + d.length : Nat) : Int)) H

@[reducible] def N_people : List Str := ["evening"]
def t_people (K : PySem.W.Frag) (C : CA) : TS :=
  (tRet (tOp oAdd (tCB (cLen K) (tCons (tFld K (tVar 0) "owed") tNil)) (tCB (cLen K) (tCons (tFld K (tVar 0) "due") tNil))))

theorem rd_people {K : PySem.W.Frag} {C : CA} (T : CT K C) {vs : List V} {H : Hp} {Q : VK} {E : XK} (h : sp_people K C vs H Q E) : t_people K C { nx := fun _ H' => Q .non H', rt := Q } (start N_people vs) H := by
  obtain ⟨v, o, d, rfl, ⟨e, dx, vo, vd, rfl, he, ho, hd⟩, q⟩ := h
  obtain ⟨a, xs, rfl, ha, hl⟩ := ho.tup_at
  obtain ⟨b, ys, rfl, hb, hl2⟩ := hd.tup_at
  unfold t_people
  walk_at "go"
  refine i_fld' he T.cl T.nO rfl ?_
  walk_at "go"
  refine i_fld' he T.cl T.nD rfl ?_
  walk_at "go"
  rw [hl.length, hl2.length, List.length_map, List.length_map]
  simpa using q

theorem sc_people : FnScope N_people ["evening"] (defScope s_people) := ⟨rfl, rfl, rfl, by decide +kernel, rfl, by decide +kernel, by decide +kernel⟩
theorem ok_people {P : Program} {w : World} {K : PySem.W.Frag} {mg : Str → Option Value} {base : Heap} {C : CA} {f : Addr} {fd : FuncData} (T : CT K C) (B : Bi mg C) (F : Fun K "people" "people" s_people f fd)  : FnOk P w K mg base CX0 1 f fd ["evening"] (sp_people K C) := by
  refine F.ok sc_people (fun vs H Q E h => ?_) (fun cdv A outer s H vs Q E hr h => ⟨t_people K C, ?_, rd_people T h⟩)
  · obtain ⟨_, _, _, rfl, _⟩ := h
    rfl
  · exact (pss_one (ps_ret (pe_op op_add (pe_callB call_len (by rfl) B.b_len bt_len (pa_cons (pe_fld (pv 0) rfl) pa_nil)) (pe_callB call_len (by rfl) B.b_len bt_len (pa_cons (pe_fld (pv 0) rfl) pa_nil)))))

/-! ### common_measure -/
abbrev s_common_measure : Stmt := top 10
def sp_common_measure (K : PySem.W.Frag) (C : CA) : Sp := fun vs H Q _ => ∃ (v : V) (qs : List Rat), vs = [v] ∧ Im H v (.tuple (qs.map fr)) ∧ Bd 8000 qs ∧
  ∀ w H' (g L : Nat), Same H H' → TopG qs g → BotL qs L → Im H' w (.tuple [.int (g : Nat), .int (L : Nat)]) → Q w H'

@[reducible] def N_common_measure : List Str := ["fractions", "shared", "top", "_"]
def t_common_measure (K : PySem.W.Frag) (C : CA) : TS :=
  (tSeq (tAsg (tC (.int 0)) (gName 1)) (tSeq (tFor (iTup K (tVar 0)) (gTup K 2 (gCons (gName 2) (gCons (gName 3) gNil))) (tAsg (tCB rGcd (tCons (tVar 1) (tCons (tVar 2) tNil))) (gName 1))) (tRet (tTup (tCons (tVar 1) (tCons (tCall (sp_common_bottom K C) [] E0 (tCons (tVar 0) tNil)) tNil))))))

theorem rd_common_measure {K : PySem.W.Frag} {C : CA} {vs : List V} {H : Hp} {Q : VK} {E : XK} (h : sp_common_measure K C vs H Q E) : t_common_measure K C { nx := fun _ H' => Q .non H', rt := Q } (start N_common_measure vs) H := by
  obtain ⟨v, qs, rfl, hv, ⟨hlen, ⟨M, hM, hMB⟩, hn⟩, q⟩ := h
  obtain ⟨a, xs, rfl, ha, hl⟩ := hv.tup_at
  have hxl : xs.length = qs.length := by rw [hl.length, List.length_map]
  unfold t_common_measure
  walk_at "go"
  refine forT_of ha (fun i σ H' => H' = H ∧ ∃ (g : Nat) (x y : Option V), σ = [some (.ref a), some (.int (g : Nat)), x, y] ∧ TopG (qs.take i) g) (fun _ _ => False)
    ⟨rfl, 0, none, none, rfl, by simp, fun m _ => Nat.dvd_zero m⟩ (fun i σ H' p b ys e => by rw [p.1]; exact e) ?_ ?_ (fun _ _ h => h.elim)
  · rintro i x σ H' N B hx ⟨rfl, g, y1, y2, rfl, h2, h3⟩ hN hB
    obtain ⟨e, he, hi⟩ := hl.get hx
    obtain ⟨r, hr, rfl⟩ := get_frs he
    obtain ⟨b, rfl, hb⟩ := hi.fr_at
    walk_at "go"
    rw [Int.natAbs_natCast]
    refine hN _ _ ⟨rfl, g.gcd r.num.natAbs, _, _, rfl, ?_, ?_⟩
    · intro z hz
      rw [List.take_add_one, hr] at hz
      rcases List.mem_append.mp hz with hz | hz
      · exact Nat.dvd_trans (Nat.gcd_dvd_left _ _) (h2 z hz)
      · have e : z = r := by simpa using hz
        subst e
        exact Nat.gcd_dvd_right _ _
    · intro m hm
      rw [List.take_add_one, hr] at hm
      exact Nat.dvd_gcd (h3 m fun z hz => hm z (List.mem_append_left _ hz)) (hm r (List.mem_append_right _ (by simp)))
  · rintro σ H' ⟨rfl, g, y1, y2, rfl, h2⟩
    rw [hxl, List.take_length] at h2
    walk_at "go"
    refine ⟨_, qs, M, rfl, hv, hM, log2_of_lt (Nat.lt_trans hMB (Nat.pow_lt_pow_right (by decide) (by decide))) (by decide), fun L hL hLM hd hmin => ?_⟩
    walk_at "go"
    refine q _ _ g L ?_ h2 ⟨hL, hd, hmin⟩ ?_
    · walk_at "sm"
    · exact Im.tup (by assumption) (by simp only [ImL, Im]; exact ⟨trivial, trivial, trivial⟩)

theorem sc_common_measure : FnScope N_common_measure ["fractions"] (defScope s_common_measure) := ⟨rfl, rfl, rfl, by decide +kernel, rfl, by decide +kernel, by decide +kernel⟩
theorem ok_common_measure {P : Program} {w : World} {K : PySem.W.Frag} {mg : Str → Option Value} {base : Heap} {C : CA} {f : Addr} {fd : FuncData} (T : CT K C) (B : Bi mg C) (F : Fun K "common_measure" "common_measure" s_common_measure f fd) (D_common_bottom : Okd P w K mg base 1 "common_bottom" ["fractions"] (sp_common_bottom K C)) : FnOk P w K mg base CX0 2 f fd ["fractions"] (sp_common_measure K C) := by
  refine F.ok sc_common_measure (fun vs H Q E h => ?_) (fun cdv A outer s H vs Q E hr h => ⟨t_common_measure K C, ?_, rd_common_measure h⟩)
  · obtain ⟨_, _, rfl, _⟩ := h
    rfl
  · exact (pss_cons (ps_set (i := 1) sc_common_measure.nd rfl (Or.inl rfl) pe_int) (pss_cons (ps_for PassesOwn.never rfl (pi_tup (pv 0)) (pg_tup rfl (pgs_cons (pg_name (i := 2) sc_common_measure.nd rfl (Or.inl rfl)) (pgs_cons (pg_name (i := 3) sc_common_measure.nd rfl (Or.inl rfl)) pgs_nil))) (pss_one (ps_set (i := 1) sc_common_measure.nd rfl (Or.inl rfl) (pe_callBfun cr_gcd rfl B.g_gcd (pa_cons (pv 1) (pa_cons (pv 2) pa_nil)))))) (pss_one (ps_ret (pe_tup (pa_cons (pv 1) (pa_cons (pe_callD D_common_bottom (hr.mono (by decide)) (pa_cons (pv 0) pa_nil)) pa_nil)))))))

/-! ### measure -/
abbrev s_measure : Stmt := top 20
def sp_measure (K : PySem.W.Frag) (C : CA) : Sp := fun vs H Q _ => ∃ (v : V) (o d : List Rat), vs = [v] ∧ EvAt C H v o d ∧ o ≠ [] ∧ d ≠ [] ∧ Bd 8000 (o ++ d) ∧
  ∀ w H' (g L : Nat), Same H H' → TopG (o ++ d) g → BotL (o ++ d) L → Im H' w (.tuple [.int (g : Nat), .int (L : Nat)]) → Q w H'

@[reducible] def N_measure : List Str := ["evening"]
def t_measure (K : PySem.W.Frag) (C : CA) : TS :=
  (tRet (tCall (sp_common_measure K C) [] E0 (tCons (tOp (rCatA K) (tFld K (tVar 0) "owed") (tFld K (tVar 0) "due")) tNil)))

theorem rd_measure {K : PySem.W.Frag} {C : CA} (T : CT K C) {vs : List V} {H : Hp} {Q : VK} {E : XK} (h : sp_measure K C vs H Q E) : t_measure K C { nx := fun _ H' => Q .non H', rt := Q } (start N_measure vs) H := by
  obtain ⟨v, o, d, rfl, ⟨e, dx, vo, vd, rfl, he, ho, hd⟩, no, nd, hb, q⟩ := h
  unfold t_measure
  walk_at "go"
  refine i_fld' he T.cl T.nO rfl ?_
  walk_at "go"
  refine i_fld' he T.cl T.nD rfl ?_
  refine i_catT ho hd (by simpa using no) (by simpa using nd) (by rw [List.length_map, List.length_map, ← List.length_append]; exact Nat.le_of_lt (small1000 hb.1)) (fun w H1 s1 hw => ?_)
  walk_at "go"
  rw [← List.map_append] at hw
  exact ⟨w, o ++ d, rfl, hw, hb, fun w2 H2 g L s2 => q w2 H2 g L (s1.trans s2)⟩

theorem sc_measure : FnScope N_measure ["evening"] (defScope s_measure) := ⟨rfl, rfl, rfl, by decide +kernel, rfl, by decide +kernel, by decide +kernel⟩
theorem ok_measure {P : Program} {w : World} {K : PySem.W.Frag} {mg : Str → Option Value} {base : Heap} {C : CA} {f : Addr} {fd : FuncData} (T : CT K C) (B : Bi mg C) (F : Fun K "measure" "measure" s_measure f fd) (D_common_measure : Okd P w K mg base 2 "common_measure" ["fractions"] (sp_common_measure K C)) : FnOk P w K mg base CX0 3 f fd ["evening"] (sp_measure K C) := by
  refine F.ok sc_measure (fun vs H Q E h => ?_) (fun cdv A outer s H vs Q E hr h => ⟨t_measure K C, ?_, rd_measure T h⟩)
  · obtain ⟨_, _, _, rfl, _⟩ := h
    rfl
  · exact (pss_one (ps_ret (pe_callD D_common_measure (hr.mono (by decide)) (pa_cons (pe_op op_catA (pe_fld (pv 0) rfl) (pe_fld (pv 0) rfl)) pa_nil))))

/-! ### _law_hand -/
abbrev s_L_hand : Stmt := top 22
def sp_L_hand (K : PySem.W.Frag) (C : CA) : Sp := fun vs H Q _ => ∃ (a : Addr) (ns : List Int), vs = [.ref a] ∧ SqL K H a (ns.map V.int) ∧ ns.length ≤ 63 ∧
  ∀ m c H', Same H H' → Hand H' m c → Q (.ref m) H'

@[reducible] def N_L_hand : List Str := ["_law_script", "_law_cells", "_law_cell"]
def t_L_hand (K : PySem.W.Frag) (C : CA) : TS :=
  (tSeq (tAsg (tLc (iList K (tSl (rSlL K) (tVar 0) tNoPart (tPart (tC (.int 63))))) (gName 2) tYes (tCB cAbs (tCons (tCB cInt1 (tCons (tVar 2) tNil)) tNil)) [2]) (gName 1)) (tRet (tLst (tCons (tVar 1) (tCons (tC (.int 0)) (tCons (tC (.int 0)) (tCons (tOp oAdd (tC (.int 1)) (tCB (cLen K) (tCons (tVar 1) tNil))) (tCons (tC (.int 0)) tNil))))))))

theorem rd_L_hand {K : PySem.W.Frag} {C : CA} {vs : List V} {H : Hp} {Q : VK} {E : XK} (h : sp_L_hand K C vs H Q E) : t_L_hand K C { nx := fun _ H' => Q .non H', rt := Q } (start N_L_hand vs) H := by
  obtain ⟨a, ns, rfl, hs, hn, q⟩ := h
  unfold t_L_hand
  walk_at "go"
  refine i_slLq hs ?_
  intro p H1 hp s1 e1
  obtain ⟨ms, em, hl⟩ := cutV_map ns none (some 63)
  rw [em] at e1
  refine lcL_of (es := ms.map PyData.int) (fun d => match d with | .int i => .int (i.natAbs : Nat) | d => d) (SqL.of e1) (ImL.ints ms) (by rw [List.length_map]; exact small1000 (by omega)) (fun e x H2 N he s2 hx hN => ?_) (fun D H2 ys hD s2 e2 hy => ?_)
  · obtain ⟨i, _, rfl⟩ := List.mem_map.mp he
    simp only [Im] at hx
    subst hx
    walk_at "go"
    refine ⟨rfl, ?_⟩
    walk_at "go"
    exact hN _ _ (Same.refl _) Im.int'
  · have ey : ∃ ks : List Int, ys = ks.map V.int := by
      rw [List.map_map] at hy
      clear e2 em hl e1
      induction ms generalizing ys with
      | nil => cases ys with
        | nil => exact ⟨[], rfl⟩
        | cons y ys => simp [ImL] at hy
      | cons z zs ih => cases ys with
        | nil => simp [ImL] at hy
        | cons y ys =>
          simp only [List.map_cons, ImL, Function.comp, Im] at hy
          obtain ⟨ks, rfl⟩ := ih ys hy.2
          exact ⟨_ :: ks, by rw [hy.1]; rfl⟩
    obtain ⟨ks, rfl⟩ := ey
    walk_at "go"
    refine q _ D _ ?_ ?_
    · walk_at "sm"
    · exact ⟨_, _, _, _, _, by assumption, by walk_at "keep", by walk_at "ne", by omega⟩

theorem sc_L_hand : FnScope N_L_hand ["_law_script"] (defScope s_L_hand) := ⟨rfl, rfl, rfl, by decide +kernel, rfl, by decide +kernel, by decide +kernel⟩
theorem ok_L_hand {P : Program} {w : World} {K : PySem.W.Frag} {mg : Str → Option Value} {base : Heap} {C : CA} {f : Addr} {fd : FuncData} (T : CT K C) (B : Bi mg C) (F : Fun K "_law_hand" "_law_hand" s_L_hand f fd)  : FnOk P w K mg base CX0 1 f fd ["_law_script"] (sp_L_hand K C) := by
  refine F.ok sc_L_hand (fun vs H Q E h => ?_) (fun cdv A outer s H vs Q E hr h => ⟨t_L_hand K C, ?_, rd_L_hand h⟩)
  · obtain ⟨_, _, rfl, _⟩ := h
    rfl
  · exact (pss_cons (ps_setLc (i := 1) (own := [("_law_cell", 2)]) (g := (gName 2)) (tt := tYes) rfl sc_L_hand.nd rfl rfl (sw_true rfl rfl rfl (by decide +kernel)) (pi_list (pe_slice sl_list (pv 0) po_none (po_some pe_int))) (blkOk_by (own := [("_law_cell", 2)]) (N := N_L_hand) (sc := defScope s_L_hand) (by decide +kernel)) (fun _ _ _ _ _ => (pg_name (i := 2) sc_L_hand.nd rfl (Or.inl rfl))) (fun _ _ _ _ _ => pts_nil) (fun _ _ _ _ _ => (pe_callB call_abs (by rfl) B.b_abs bt_abs (pa_cons (pe_callTy call_int1 (by rfl) B.b_int bt_int (pa_cons (pv 2) pa_nil)) pa_nil)))) (pss_one (ps_ret (pe_lst (pa_cons (pv 1) (pa_cons pe_int (pa_cons pe_int (pa_cons (pe_op op_add pe_int (pe_callB call_len (by rfl) B.b_len bt_len (pa_cons (pv 1) pa_nil))) (pa_cons pe_int pa_nil)))))))))

/-! ### _law_draw -/
abbrev s_L_draw : Stmt := top 23
def sp_L_draw (K : PySem.W.Frag) (C : CA) : Sp := fun vs H Q _ => ∃ (m c : Addr) (n : Int), vs = [.ref m, .int n] ∧ Hand H m c ∧ 0 < n ∧ n.natAbs.log2 < 9000 ∧
  ∀ d H', 0 ≤ d → d < n → KL m H H' → Hand H' m c → Q (.int d) H'

@[reducible] def N_L_draw : List Str := ["_law_hand_here", "_law_many", "_law_cell", "_law_digit", "_law_number"]
def t_L_draw (K : PySem.W.Frag) (C : CA) : TS :=
  (tSeq (tIfS (tAnd (tTest (tOp rEq (tOp (rIxL K) (tVar 0) (tC (.int 2))) (tC (.int 0)))) (tTest (tOp oLt (tOp (rIxL K) (tVar 0) (tC (.int 1))) (tCB (cLen K) (tCons (tOp (rIxL K) (tVar 0) (tC (.int 0))) tNil))))) (tSeq (tAsg (tOp (rIxL K) (tOp (rIxL K) (tVar 0) (tC (.int 0))) (tOp (rIxL K) (tVar 0) (tC (.int 1)))) (gName 2)) (tSeq (tAsg (tOp oAdd (tOp (rIxL K) (tVar 0) (tC (.int 1))) (tC (.int 1))) (gSub (tVar 0) (tC (.int 1)) rSetL)) (tSeq (tAsg (tOp oMod (tCB cInt1 (tCons (tOp oAdd (tOp oAdd (tOp oMul (tOp (rIxL K) (tVar 0) (tC (.int 3))) (tC (.int 69621))) (tVar 2)) (tC (.int 11))) tNil)) (tC (.int 2147483629))) (gSub (tVar 0) (tC (.int 3)) rSetL)) (tIfS (tTest (tOp oGe (tVar 2) (tOp oPow (tC (.int 10)) (tC (.int 18))))) (tAsg (tVar 2) (gSub (tVar 0) (tC (.int 2)) rSetL)) tNext)))) tNext) (tSeq (tIfS (tTest (tOp oGt (tOp (rIxL K) (tVar 0) (tC (.int 2))) (tC (.int 0)))) (tSeq (tAsg (tOp oMod (tCB cInt1 (tCons (tOp (rIxL K) (tVar 0) (tC (.int 2))) tNil)) (tVar 1)) (gName 3)) (tSeq (tAsg (tOp oDiv (tOp (rIxL K) (tVar 0) (tC (.int 2))) (tVar 1)) (gSub (tVar 0) (tC (.int 2)) rSetL)) (tRet (tVar 3)))) tNext) (tSeq (tAsg (tOp oAdd (tOp (rIxL K) (tVar 0) (tC (.int 4))) (tC (.int 1))) (gSub (tVar 0) (tC (.int 4)) rSetL)) (tSeq (tAsg (tOp oMod (tCB cInt1 (tCons (tOp oMul (tCB cInt1 (tCons (tOp oAdd (tOp (rIxL K) (tVar 0) (tC (.int 3))) (tOp oMul (tC (.int 7919)) (tOp (rIxL K) (tVar 0) (tC (.int 4))))) tNil)) (tC (.int 48271))) tNil)) (tC (.int 2147483647))) (gName 4)) (tSeq (tAsg (tOp oMod (tCB cInt1 (tCons (tOp oMul (tVar 4) (tOp oAdd (tOp oDiv (tVar 4) (tC (.int 1009))) (tC (.int 69621)))) tNil)) (tC (.int 2147483647))) (gName 4)) (tSeq (tAsg (tOp oMod (tCB cInt1 (tCons (tOp oMul (tVar 4) (tOp oAdd (tOp oDiv (tVar 4) (tC (.int 2003))) (tC (.int 40692)))) tNil)) (tC (.int 2147483399))) (gName 4)) (tRet (tOp oMod (tCB cInt1 (tCons (tOp oDiv (tVar 4) (tC (.int 16))) tNil)) (tVar 1)))))))))

theorem rd_L_draw {K : PySem.W.Frag} {C : CA} {vs : List V} {H : Hp} {Q : VK} {E : XK} (h : sp_L_draw K C vs H Q E) : t_L_draw K C { nx := fun _ H' => Q .non H', rt := Q } (start N_L_draw vs) H := by
  obtain ⟨m, c, n, rfl, ⟨i, x, s, k, cells, hm, hc, ne, i0⟩, n0, n1, q⟩ := h
  unfold t_L_draw
  refine i_cut (fun σ' H' => ∃ y, σ' = [some (.ref m), some (.int n), y, none, none] ∧ KL m H H' ∧ Hand H' m c) (fun N hN => ?_) ?_
  · walk_at "go"
    refine ite_d (fun hx => ?_) (fun hx => ?_)
    · walk_at "go"
      refine ite_d (fun hi => ?_) (fun hi => ?_)
      · obtain ⟨z, _, ez⟩ := atI_ints i0 (by simpa using hi)
        walk_at "go"
        refine i_ixL hc ez ?_
        walk_at "go"
        refine ite_d (fun hi => ?_) (fun hi => ?_)
        all_goals (walk_at "go"; exact hN _ _ ⟨_, rfl, by walk_at "sm", _, _, _, _, _, by assumption, by walk_at "keep", ne, by omega⟩)
      · walk_at "go"
        exact hN _ _ ⟨none, rfl, KL.refl, i, x, s, k, cells, hm, hc, ne, i0⟩
    · walk_at "go"
      exact hN _ _ ⟨none, rfl, KL.refl, i, x, s, k, cells, hm, hc, ne, i0⟩
  · rintro σ H1 ⟨y, rfl, kl, i, x, s, k, cells, hm, hc, ne, i0⟩
    walk_at "go"
    refine ite_d (fun hx => ?_) (fun hx => ?_)
    · walk_at "go"
      exact q _ _ (Int.emod_nonneg _ (by omega)) (Int.emod_lt_of_pos _ n0) (by walk_at "sm") ⟨_, _, _, _, _, by assumption, by walk_at "keep", ne, i0⟩
    · walk_at "go"
      exact q _ _ (Int.emod_nonneg _ (by omega)) (Int.emod_lt_of_pos _ n0) (by walk_at "sm") ⟨_, _, _, _, _, by assumption, by walk_at "keep", ne, i0⟩

theorem sc_L_draw : FnScope N_L_draw ["_law_hand_here", "_law_many"] (defScope s_L_draw) := ⟨rfl, rfl, rfl, by decide +kernel, rfl, by decide +kernel, by decide +kernel⟩
theorem ok_L_draw {P : Program} {w : World} {K : PySem.W.Frag} {mg : Str → Option Value} {base : Heap} {C : CA} {f : Addr} {fd : FuncData} (T : CT K C) (B : Bi mg C) (F : Fun K "_law_draw" "_law_draw" s_L_draw f fd)  : FnOk P w K mg base CX0 1 f fd ["_law_hand_here", "_law_many"] (sp_L_draw K C) := by
  refine F.ok sc_L_draw (fun vs H Q E h => ?_) (fun cdv A outer s H vs Q E hr h => ⟨t_L_draw K C, ?_, rd_L_draw h⟩)
  · obtain ⟨_, _, _, rfl, _⟩ := h
    rfl
  · exact (pss_cons (ps_if (PW.pt (pw_and (pt_cmpR op_eq (pe_ix ix_list (pv 0) pe_int (fun _ _ => rfl)) pe_int (nomark _)) (pw_and1 (pt_cmpR op_lt (pe_ix ix_list (pv 0) pe_int (fun _ _ => rfl)) (pe_callB call_len (by rfl) B.b_len bt_len (pa_cons (pe_ix ix_list (pv 0) pe_int (fun _ _ => rfl)) pa_nil)) (nomark _))))) (pss_cons (ps_set (i := 2) sc_L_draw.nd rfl (Or.inl rfl) (pe_ix ix_list (pe_ix ix_list (pv 0) pe_int (fun _ _ => rfl)) (pe_ix ix_list (pv 0) pe_int (fun _ _ => rfl)) (fun _ _ => rfl))) (pss_cons (ps_asg (pe_op op_add (pe_ix ix_list (pv 0) pe_int (fun _ _ => rfl)) pe_int) (pg_sub (pv 0) pe_int set_list)) (pss_cons (ps_asg (pe_op op_mod (pe_callTy call_int1 (by rfl) B.b_int bt_int (pa_cons (pe_op op_add (pe_op op_add (pe_op op_mulA (pe_ix ix_list (pv 0) pe_int (fun _ _ => rfl)) pe_int) (pv 2)) pe_int) pa_nil)) pe_int) (pg_sub (pv 0) pe_int set_list)) (pss_one (ps_if (pt_cmpR op_ge (pv 2) (pe_op op_pow pe_int pe_int) (nomark _)) (pss_one (ps_asg (pv 2) (pg_sub (pv 0) pe_int set_list))) pss_nil))))) pss_nil) (pss_cons (ps_if (pt_cmpR op_gt (pe_ix ix_list (pv 0) pe_int (fun _ _ => rfl)) pe_int (nomark _)) (pss_cons (ps_set (i := 3) sc_L_draw.nd rfl (Or.inl rfl) (pe_op op_mod (pe_callTy call_int1 (by rfl) B.b_int bt_int (pa_cons (pe_ix ix_list (pv 0) pe_int (fun _ _ => rfl)) pa_nil)) (pv 1))) (pss_cons (ps_asg (pe_op op_fdivW (pe_ix ix_list (pv 0) pe_int (fun _ _ => rfl)) (pv 1)) (pg_sub (pv 0) pe_int set_list)) (pss_one (ps_ret (pv 3))))) pss_nil) (pss_cons (ps_asg (pe_op op_add (pe_ix ix_list (pv 0) pe_int (fun _ _ => rfl)) pe_int) (pg_sub (pv 0) pe_int set_list)) (pss_cons (ps_set (i := 4) sc_L_draw.nd rfl (Or.inl rfl) (pe_op op_mod (pe_callTy call_int1 (by rfl) B.b_int bt_int (pa_cons (pe_op op_mulA (pe_callTy call_int1 (by rfl) B.b_int bt_int (pa_cons (pe_op op_add (pe_ix ix_list (pv 0) pe_int (fun _ _ => rfl)) (pe_op op_mulA pe_int (pe_ix ix_list (pv 0) pe_int (fun _ _ => rfl)))) pa_nil)) pe_int) pa_nil)) pe_int)) (pss_cons (ps_set (i := 4) sc_L_draw.nd rfl (Or.inl rfl) (pe_op op_mod (pe_callTy call_int1 (by rfl) B.b_int bt_int (pa_cons (pe_op op_mulA (pv 4) (pe_op op_add (pe_op op_fdivW (pv 4) pe_int) pe_int)) pa_nil)) pe_int)) (pss_cons (ps_set (i := 4) sc_L_draw.nd rfl (Or.inl rfl) (pe_op op_mod (pe_callTy call_int1 (by rfl) B.b_int bt_int (pa_cons (pe_op op_mulA (pv 4) (pe_op op_add (pe_op op_fdivW (pv 4) pe_int) pe_int)) pa_nil)) pe_int)) (pss_one (ps_ret (pe_op op_mod (pe_callTy call_int1 (by rfl) B.b_int bt_int (pa_cons (pe_op op_fdivW (pv 4) pe_int) pa_nil)) (pv 1))))))))))

/-! ### _law_common -/
abbrev s_L_common : Stmt := top 24
def sp_L_common (K : PySem.W.Frag) (C : CA) : Sp := fun vs H Q _ => ∃ a b : Int, vs = [.int a, .int b] ∧ a.natAbs * b.natAbs < 2 ^ 598 ∧ Q (.int ((a.natAbs.gcd b.natAbs : Nat) : Int)) H

@[reducible] def N_L_common : List Str := ["_law_one", "_law_other", "_law_turn", "_law_rest"]
def t_L_common (K : PySem.W.Frag) (C : CA) : TS :=
  (tSeq (tAsg (tCB cAbs (tCons (tVar 0) tNil)) (gName 0)) (tSeq (tAsg (tCB cAbs (tCons (tVar 1) tNil)) (gName 1)) (tSeq (tFor (iRng1 (tCons (tC (.int 600)) tNil)) (gName 2) (tSeq (tIfS (tTest (tOp rEq (tVar 1) (tC (.int 0)))) tBreak tNext) (tSeq (tAsg (tOp oMod (tCB cInt1 (tCons (tVar 0) tNil)) (tVar 1)) (gName 3)) (tSeq (tAsg (tVar 1) (gName 0)) (tAsg (tVar 3) (gName 1)))))) (tRet (tVar 0)))))

theorem euclid_half {x y : Nat} (h : y < x) (h0 : 0 < y) : 2 * (y * (x % y)) < x * y := by
  have h1 := Nat.div_add_mod x y
  have h2 := Nat.mod_lt x h0
  have h3 : 1 ≤ x / y := (Nat.le_div_iff_mul_le h0).mpr (by omega)
  have h4 : y * 1 ≤ y * (x / y) := Nat.mul_le_mul_left _ h3
  have h5 : 2 * (x % y) < x := by omega
  have h6 : y * (2 * (x % y)) < y * x := Nat.mul_lt_mul_of_pos_left h5 h0
  calc 2 * (y * (x % y)) = y * (2 * (x % y)) := by rw [Nat.mul_left_comm]
    _ < y * x := h6
    _ = x * y := Nat.mul_comm _ _
theorem rd_L_common {K : PySem.W.Frag} {C : CA} {vs : List V} {H : Hp} {Q : VK} {E : XK} (h : sp_L_common K C vs H Q E) : t_L_common K C { nx := fun _ H' => Q .non H', rt := Q } (start N_L_common vs) H := by
  obtain ⟨a, b, rfl, hb, q⟩ := h
  unfold t_L_common
  walk_at "go"
  refine forR_of (n := 600) (fun i σ H' => H' = H ∧ ∃ (x y : Nat) (v w : Option V), σ = [some (.int (x : Nat)), some (.int (y : Nat)), v, w] ∧ x.gcd y = a.natAbs.gcd b.natAbs ∧ (i = 0 → x * y < 2 ^ 598) ∧ (1 ≤ i → y < x ∧ x * y < 2 ^ (599 - i)))
    (fun σ H' => H' = H ∧ ∃ (x : Nat) (u v w : Option V), σ = [some (.int (x : Nat)), u, v, w] ∧ x = a.natAbs.gcd b.natAbs) rfl (by decide)
    ⟨rfl, a.natAbs, b.natAbs, none, none, rfl, rfl, fun _ => hb, fun h => absurd h (by decide)⟩ ?_ ?_ ?_
  · rintro i σ H' N B hi ⟨rfl, x, y, v, w, rfl, hg, h0, h1⟩ hN hB
    walk_at "go"
    refine ite_d (fun hy => ?_) (fun hy => ?_)
    · walk_at "go"
      have hy0 : y = 0 := by injection hy with e; omega
      subst hy0
      exact hB _ _ ⟨rfl, x, _, _, _, rfl, by rw [← hg, Nat.gcd_zero_right]⟩
    · have hy0 : 0 < y := by
        rcases Nat.eq_zero_or_pos y with e | e
        · subst e; exact absurd rfl hy
        · exact e
      walk_at "go"
      rw [← Int.natCast_emod]
      refine hN _ _ ⟨rfl, y, x % y, _, _, rfl, ?_, fun h => absurd h (by omega), fun _ => ⟨Nat.mod_lt _ hy0, ?_⟩⟩
      · rw [← hg, Nat.gcd_comm x y, Nat.gcd_rec y x, Nat.gcd_comm]
      · by_cases hi0 : i = 0
        · subst hi0
          have e := h0 rfl
          exact Nat.lt_of_le_of_lt (Nat.le_trans (Nat.mul_le_mul_left y (Nat.mod_le x y)) (Nat.le_of_eq (Nat.mul_comm y x))) e
        · obtain ⟨l1, l2⟩ := h1 (by omega)
          have e := euclid_half l1 hy0
          have e2 : 599 - i = (599 - (i + 1)) + 1 := by
            have : i ≠ 599 := by
              rintro rfl
              have : x * y = 0 := by simpa using l2
              have : 0 < x * y := Nat.mul_pos (by omega) hy0
              omega
            omega
          rw [e2, Nat.pow_succ] at l2
          omega
  · rintro σ H' ⟨rfl, x, y, v, w, rfl, hg, h0, h1⟩
    obtain ⟨l1, l2⟩ := h1 (by decide)
    have hy0 : y = 0 := by
      have l3 : x * y < 1 := l2
      rcases Nat.eq_zero_or_pos y with e | e
      · exact e
      · have := Nat.mul_pos (show 0 < x by omega) e
        omega
    subst hy0
    rw [Nat.gcd_zero_right] at hg
    walk_at "go"
    rw [hg]
    exact q
  · rintro σ H' ⟨rfl, x, u, v, w, rfl, hg⟩
    walk_at "go"
    rw [hg]
    exact q

theorem sc_L_common : FnScope N_L_common ["_law_one", "_law_other"] (defScope s_L_common) := ⟨rfl, rfl, rfl, by decide +kernel, rfl, by decide +kernel, by decide +kernel⟩
theorem ok_L_common {P : Program} {w : World} {K : PySem.W.Frag} {mg : Str → Option Value} {base : Heap} {C : CA} {f : Addr} {fd : FuncData} (T : CT K C) (B : Bi mg C) (F : Fun K "_law_common" "_law_common" s_L_common f fd)  : FnOk P w K mg base CX0 1 f fd ["_law_one", "_law_other"] (sp_L_common K C) := by
  refine F.ok sc_L_common (fun vs H Q E h => ?_) (fun cdv A outer s H vs Q E hr h => ⟨t_L_common K C, ?_, rd_L_common h⟩)
  · obtain ⟨_, _, rfl, _⟩ := h
    rfl
  · exact (pss_cons (ps_set (i := 0) sc_L_common.nd rfl (Or.inl rfl) (pe_callB call_abs (by rfl) B.b_abs bt_abs (pa_cons (pv 0) pa_nil))) (pss_cons (ps_set (i := 1) sc_L_common.nd rfl (Or.inl rfl) (pe_callB call_abs (by rfl) B.b_abs bt_abs (pa_cons (pv 1) pa_nil))) (pss_cons (ps_for PassesOwn.never rfl (pi_range1 rfl B.b_range (pa_cons pe_int pa_nil)) (pg_name (i := 2) sc_L_common.nd rfl (Or.inl rfl)) (pss_cons (ps_if (pt_cmpR op_eq (pv 1) pe_int (nomark _)) (pss_one ps_break) pss_nil) (pss_cons (ps_set (i := 3) sc_L_common.nd rfl (Or.inl rfl) (pe_op op_mod (pe_callTy call_int1 (by rfl) B.b_int bt_int (pa_cons (pv 0) pa_nil)) (pv 1))) (pss_cons (ps_set (i := 0) sc_L_common.nd rfl (Or.inl rfl) (pv 1)) (pss_one (ps_set (i := 1) sc_L_common.nd rfl (Or.inl rfl) (pv 3))))))) (pss_one (ps_ret (pv 0))))))

/-! ### _law_fraction -/
abbrev s_L_fraction : Stmt := top 25
def sp_L_fraction (K : PySem.W.Frag) (C : CA) : Sp := fun vs H Q _ => ∃ (n : Int) (d : Nat), vs = [.int n, .int (d : Nat)] ∧ 0 < d ∧ d < 2 ^ 299 ∧ n.natAbs < 2 ^ 299 ∧ Ret H Q (fr (mkRat n d))

@[reducible] def N_L_fraction : List Str := ["_law_top", "_law_bottom", "_law_divisor"]
def t_L_fraction (K : PySem.W.Frag) (C : CA) : TS :=
  (tSeq (tAsg (tCall (sp_L_common K C) [] E0 (tCons (tVar 0) (tCons (tVar 1) tNil))) (gName 2)) (tRet (tTup (tCons (tOp oDiv (tVar 0) (tVar 2)) (tCons (tOp oDiv (tVar 1) (tVar 2)) tNil)))))

theorem rd_L_fraction {K : PySem.W.Frag} {C : CA} {vs : List V} {H : Hp} {Q : VK} {E : XK} (h : sp_L_fraction K C vs H Q E) : t_L_fraction K C { nx := fun _ H' => Q .non H', rt := Q } (start N_L_fraction vs) H := by
  obtain ⟨n, d, rfl, hd, hl, hn, q⟩ := h
  obtain ⟨g0, g1⟩ := gcd_le n d hd
  have hl9 : (n.natAbs.gcd d).log2 < 9000 := log2_of_lt (Nat.lt_of_le_of_lt g1 (Nat.lt_trans hl (Nat.pow_lt_pow_right (by decide) (by decide)))) (by decide)
  unfold t_L_fraction
  walk_at "go"
  refine ⟨n, (d : Nat), rfl, ?_, ?_⟩
  · rw [Int.natAbs_natCast]
    exact Nat.lt_of_lt_of_le (Nat.mul_lt_mul'' hn hl) (by rw [← Nat.pow_add]; exact Nat.le_refl _)
  rw [Int.natAbs_natCast]
  walk_at "go"
  exact q _ _ (by assumption) (Im.fr_of (by rw [low_num n d hd, low_den n d hd]; assumption))

theorem sc_L_fraction : FnScope N_L_fraction ["_law_top", "_law_bottom"] (defScope s_L_fraction) := ⟨rfl, rfl, rfl, by decide +kernel, rfl, by decide +kernel, by decide +kernel⟩
theorem ok_L_fraction {P : Program} {w : World} {K : PySem.W.Frag} {mg : Str → Option Value} {base : Heap} {C : CA} {f : Addr} {fd : FuncData} (T : CT K C) (B : Bi mg C) (F : Fun K "_law_fraction" "_law_fraction" s_L_fraction f fd) (D_L_common : Okd P w K mg base 1 "_law_common" ["_law_one", "_law_other"] (sp_L_common K C)) : FnOk P w K mg base CX0 2 f fd ["_law_top", "_law_bottom"] (sp_L_fraction K C) := by
  refine F.ok sc_L_fraction (fun vs H Q E h => ?_) (fun cdv A outer s H vs Q E hr h => ⟨t_L_fraction K C, ?_, rd_L_fraction h⟩)
  · obtain ⟨_, _, rfl, _⟩ := h
    rfl
  · exact (pss_cons (ps_set (i := 2) sc_L_fraction.nd rfl (Or.inl rfl) (pe_callD D_L_common (hr.mono (by decide)) (pa_cons (pv 0) (pa_cons (pv 1) pa_nil)))) (pss_one (ps_ret (pe_tup (pa_cons (pe_op op_fdivW (pv 0) (pv 2)) (pa_cons (pe_op op_fdivW (pv 1) (pv 2)) pa_nil))))))

/-! ### _law_plus -/
abbrev s_L_plus : Stmt := top 26
def sp_L_plus (K : PySem.W.Frag) (C : CA) : Sp := fun vs H Q _ => ∃ (v w : V) (p r : Rat), vs = [v, w] ∧ Im H v (fr p) ∧ Im H w (fr r) ∧ p.num.natAbs < 2 ^ 148 ∧ p.den < 2 ^ 148 ∧ r.num.natAbs < 2 ^ 148 ∧ r.den < 2 ^ 148 ∧ Ret H Q (fr (p + r))

@[reducible] def N_L_plus : List Str := ["_law_one", "_law_other"]
def t_L_plus (K : PySem.W.Frag) (C : CA) : TS :=
  (tRet (tCall (sp_L_fraction K C) [] E0 (tCons (tOp oAdd (tOp oMul (tOp (rIxT K) (tVar 0) (tC (.int 0))) (tOp (rIxT K) (tVar 1) (tC (.int 1)))) (tOp oMul (tOp (rIxT K) (tVar 1) (tC (.int 0))) (tOp (rIxT K) (tVar 0) (tC (.int 1))))) (tCons (tOp oMul (tOp (rIxT K) (tVar 0) (tC (.int 1))) (tOp (rIxT K) (tVar 1) (tC (.int 1)))) tNil))))

theorem plus_lt {a b c d : Nat} (ha : a < 2 ^ 148) (hb : b < 2 ^ 148) (hc : c < 2 ^ 148) (hd : d < 2 ^ 148) : a * b + c * d < 2 ^ 299 := by
  have h1 : a * b < 2 ^ 296 := Nat.lt_of_lt_of_le (Nat.mul_lt_mul'' ha hb) (by rw [← Nat.pow_add]; exact Nat.le_refl _)
  have h2 : c * d < 2 ^ 296 := Nat.lt_of_lt_of_le (Nat.mul_lt_mul'' hc hd) (by rw [← Nat.pow_add]; exact Nat.le_refl _)
  have h3 : 2 ^ 296 + 2 ^ 296 ≤ 2 ^ 299 := by decide
  omega
theorem rd_L_plus {K : PySem.W.Frag} {C : CA} {vs : List V} {H : Hp} {Q : VK} {E : XK} (h : sp_L_plus K C vs H Q E) : t_L_plus K C { nx := fun _ H' => Q .non H', rt := Q } (start N_L_plus vs) H := by
  obtain ⟨v, w, p, r, rfl, hv, hw, h1, h2, h3, h4, q⟩ := h
  obtain ⟨a, rfl, ha⟩ := hv.fr_at
  obtain ⟨b, rfl, hb⟩ := hw.fr_at
  have hp : 0 < p.den := Nat.pos_of_ne_zero p.den_nz
  have hr : 0 < r.den := Nat.pos_of_ne_zero r.den_nz
  unfold t_L_plus
  walk_at "go"
  refine i_rI (mul_wide h1 (by rw [Int.natAbs_natCast]; exact h4) (by decide)) ?_
  walk_at "go"
  refine i_rI (mul_wide h3 (by rw [Int.natAbs_natCast]; exact h2) (by decide)) ?_
  walk_at "go"
  refine i_rI (mul_wide (by rw [Int.natAbs_natCast]; exact h2) (by rw [Int.natAbs_natCast]; exact h4) (by decide)) ?_
  walk_at "go"
  refine ⟨p.num * r.den + r.num * p.den, p.den * r.den, by simp, Nat.mul_pos hp hr, ?_, ?_, ?_⟩
  · have := plus_lt h2 h4 h2 h4
    have e : p.den * r.den ≤ p.den * r.den + p.den * r.den := Nat.le_add_right _ _
    omega
  · have e : (p.num * r.den + r.num * p.den).natAbs ≤ p.num.natAbs * r.den + r.num.natAbs * p.den := by
      refine Nat.le_trans (Int.natAbs_add_le _ _) ?_
      rw [Int.natAbs_mul, Int.natAbs_mul, Int.natAbs_natCast, Int.natAbs_natCast]
      exact Nat.le_refl _
    exact Nat.lt_of_le_of_lt e (plus_lt h1 h4 h3 h2)
  · have e : mkRat (p.num * r.den + r.num * p.den) (p.den * r.den) = p + r := by
      rw [← Rat.mkRat_add_mkRat _ _ (by omega) (by omega), Rat.mkRat_self, Rat.mkRat_self]
    rw [e]
    exact q

theorem sc_L_plus : FnScope N_L_plus ["_law_one", "_law_other"] (defScope s_L_plus) := ⟨rfl, rfl, rfl, by decide +kernel, rfl, by decide +kernel, by decide +kernel⟩
theorem ok_L_plus {P : Program} {w : World} {K : PySem.W.Frag} {mg : Str → Option Value} {base : Heap} {C : CA} {f : Addr} {fd : FuncData} (T : CT K C) (B : Bi mg C) (F : Fun K "_law_plus" "_law_plus" s_L_plus f fd) (D_L_fraction : Okd P w K mg base 2 "_law_fraction" ["_law_top", "_law_bottom"] (sp_L_fraction K C)) : FnOk P w K mg base CX0 3 f fd ["_law_one", "_law_other"] (sp_L_plus K C) := by
  refine F.ok sc_L_plus (fun vs H Q E h => ?_) (fun cdv A outer s H vs Q E hr h => ⟨t_L_plus K C, ?_, rd_L_plus h⟩)
  · obtain ⟨_, _, _, _, rfl, _⟩ := h
    rfl
  · exact (pss_one (ps_ret (pe_callD D_L_fraction (hr.mono (by decide)) (pa_cons (pe_op op_add (pe_op op_mulA (pe_ix ix_tup (pv 0) pe_int (fun _ _ => rfl)) (pe_ix ix_tup (pv 1) pe_int (fun _ _ => rfl))) (pe_op op_mulA (pe_ix ix_tup (pv 1) pe_int (fun _ _ => rfl)) (pe_ix ix_tup (pv 0) pe_int (fun _ _ => rfl)))) (pa_cons (pe_op op_mulA (pe_ix ix_tup (pv 0) pe_int (fun _ _ => rfl)) (pe_ix ix_tup (pv 1) pe_int (fun _ _ => rfl))) pa_nil)))))

/-! ### _law_sum -/
abbrev s_L_sum : Stmt := top 30
def sp_L_sum (K : PySem.W.Frag) (C : CA) : Sp := fun vs H Q _ => ∃ (v : V) (qs : List Rat), vs = [v] ∧ Im H v (.tuple (qs.map fr)) ∧ Bs qs ∧ Ret H Q (fr qs.sum)

@[reducible] def N_L_sum : List Str := ["_law_fractions", "_law_full", "_law_fraction_here"]
def t_L_sum (K : PySem.W.Frag) (C : CA) : TS :=
  (tSeq (tAsg (tTup (tCons (tC (.int 0)) (tCons (tC (.int 1)) tNil))) (gName 1)) (tSeq (tFor (iTup K (tVar 0)) (gName 2) (tAsg (tCall (sp_L_plus K C) [] E0 (tCons (tVar 1) (tCons (tVar 2) tNil))) (gName 1))) (tRet (tVar 1))))

theorem rd_L_sum {K : PySem.W.Frag} {C : CA} {vs : List V} {H : Hp} {Q : VK} {E : XK} (h : sp_L_sum K C vs H Q E) : t_L_sum K C { nx := fun _ H' => Q .non H', rt := Q } (start N_L_sum vs) H := by
  obtain ⟨v, qs, rfl, hv, hb, q⟩ := h
  obtain ⟨a, xs, rfl, ha, hl⟩ := hv.tup_at
  have hxl : xs.length = qs.length := by rw [hl.length, List.length_map]
  unfold t_L_sum
  walk_at "go"
  rename_i p0 H0 n0 s0 e0
  refine forT_of (sm_at s0 ha) (fun i σ H' => Same H0 H' ∧ ∃ (w : V) (y : Option V), σ = [some (.ref a), some w, y] ∧ Im H' w (fr (qs.take i).sum)) (fun _ _ => False)
    ⟨Same.refl _, _, none, rfl, Im.fr_of (by simpa using e0)⟩ (fun i σ H' p b ys e => p.1 _ _ e) ?_ ?_ (fun _ _ h => h.elim)
  · rintro i x σ H' N B hx ⟨s, w, y1, rfl, hw⟩ hN hB
    obtain ⟨e, he, hi⟩ := hl.get hx
    obtain ⟨r, hr, rfl⟩ := get_frs he
    have hrm : r ∈ qs := List.mem_of_getElem? hr
    obtain ⟨b1, b2⟩ := (hb.take i).sum
    obtain ⟨b3, b4⟩ := hb.den hrm
    walk_at "go"
    refine ⟨w, x, _, r, rfl, hw, sm_im s (sm_im s0 hi), b1, b2, b3, b4, fun z H2 s2 hz => ?_⟩
    walk_at "go"
    refine hN _ _ ⟨s.trans s2, z, _, rfl, ?_⟩
    rw [List.take_add_one, hr, List.sum_append]
    simpa [Rat.add_zero] using hz
  · rintro σ H' ⟨s, w, y1, rfl, hw⟩
    rw [hxl, List.take_length] at hw
    walk_at "go"
    exact q w H' (s0.trans s) hw

theorem sc_L_sum : FnScope N_L_sum ["_law_fractions"] (defScope s_L_sum) := ⟨rfl, rfl, rfl, by decide +kernel, rfl, by decide +kernel, by decide +kernel⟩
theorem ok_L_sum {P : Program} {w : World} {K : PySem.W.Frag} {mg : Str → Option Value} {base : Heap} {C : CA} {f : Addr} {fd : FuncData} (T : CT K C) (B : Bi mg C) (F : Fun K "_law_sum" "_law_sum" s_L_sum f fd) (D_L_plus : Okd P w K mg base 3 "_law_plus" ["_law_one", "_law_other"] (sp_L_plus K C)) : FnOk P w K mg base CX0 4 f fd ["_law_fractions"] (sp_L_sum K C) := by
  refine F.ok sc_L_sum (fun vs H Q E h => ?_) (fun cdv A outer s H vs Q E hr h => ⟨t_L_sum K C, ?_, rd_L_sum h⟩)
  · obtain ⟨_, _, rfl, _⟩ := h
    rfl
  · exact (pss_cons (ps_set (i := 1) sc_L_sum.nd rfl (Or.inl rfl) (pe_tup (pa_cons pe_int (pa_cons pe_int pa_nil)))) (pss_cons (ps_for PassesOwn.never rfl (pi_tup (pv 0)) (pg_name (i := 2) sc_L_sum.nd rfl (Or.inl rfl)) (pss_one (ps_set (i := 1) sc_L_sum.nd rfl (Or.inl rfl) (pe_callD D_L_plus (hr.mono (by decide)) (pa_cons (pv 1) (pa_cons (pv 2) pa_nil)))))) (pss_one (ps_ret (pv 1)))))

/-! ### _law_times -/
abbrev s_L_times : Stmt := top 28
def sp_L_times (K : PySem.W.Frag) (C : CA) : Sp := fun vs H Q _ => ∃ (v w : V) (p r : Rat), vs = [v, w] ∧ Im H v (fr p) ∧ Im H w (fr r) ∧ p.num.natAbs < 2 ^ 148 ∧ p.den < 2 ^ 148 ∧ r.num.natAbs < 2 ^ 148 ∧ r.den < 2 ^ 148 ∧ Ret H Q (fr (p * r))

@[reducible] def N_L_times : List Str := ["_law_one", "_law_other"]
def t_L_times (K : PySem.W.Frag) (C : CA) : TS :=
  (tRet (tCall (sp_L_fraction K C) [] E0 (tCons (tOp oMul (tOp (rIxT K) (tVar 0) (tC (.int 0))) (tOp (rIxT K) (tVar 1) (tC (.int 0)))) (tCons (tOp oMul (tOp (rIxT K) (tVar 0) (tC (.int 1))) (tOp (rIxT K) (tVar 1) (tC (.int 1)))) tNil))))

theorem rd_L_times {K : PySem.W.Frag} {C : CA} {vs : List V} {H : Hp} {Q : VK} {E : XK} (h : sp_L_times K C vs H Q E) : t_L_times K C { nx := fun _ H' => Q .non H', rt := Q } (start N_L_times vs) H := by
  obtain ⟨v, w, p, r, rfl, hv, hw, h1, h2, h3, h4, q⟩ := h
  obtain ⟨a, rfl, ha⟩ := hv.fr_at
  obtain ⟨b, rfl, hb⟩ := hw.fr_at
  have hp : 0 < p.den := Nat.pos_of_ne_zero p.den_nz
  have hr : 0 < r.den := Nat.pos_of_ne_zero r.den_nz
  unfold t_L_times
  walk_at "go"
  refine i_rI (mul_wide h1 h3 (by decide)) ?_
  walk_at "go"
  refine i_rI (mul_wide (by rw [Int.natAbs_natCast]; exact h2) (by rw [Int.natAbs_natCast]; exact h4) (by decide)) ?_
  walk_at "go"
  have l1 : p.den * r.den < 2 ^ 299 := Nat.lt_of_lt_of_le (Nat.mul_lt_mul'' h2 h4) (by rw [← Nat.pow_add]; decide)
  have l2 : (p.num * r.num).natAbs < 2 ^ 299 := by
    rw [Int.natAbs_mul]
    exact Nat.lt_of_lt_of_le (Nat.mul_lt_mul'' h1 h3) (by rw [← Nat.pow_add]; decide)
  refine ⟨p.num * r.num, p.den * r.den, by simp, Nat.mul_pos hp hr, l1, l2, ?_⟩
  have e : mkRat (p.num * r.num) (p.den * r.den) = p * r := by
    rw [← Rat.mkRat_mul_mkRat, Rat.mkRat_self, Rat.mkRat_self]
  rw [e]
  exact q

theorem sc_L_times : FnScope N_L_times ["_law_one", "_law_other"] (defScope s_L_times) := ⟨rfl, rfl, rfl, by decide +kernel, rfl, by decide +kernel, by decide +kernel⟩
theorem ok_L_times {P : Program} {w : World} {K : PySem.W.Frag} {mg : Str → Option Value} {base : Heap} {C : CA} {f : Addr} {fd : FuncData} (T : CT K C) (B : Bi mg C) (F : Fun K "_law_times" "_law_times" s_L_times f fd) (D_L_fraction : Okd P w K mg base 2 "_law_fraction" ["_law_top", "_law_bottom"] (sp_L_fraction K C)) : FnOk P w K mg base CX0 3 f fd ["_law_one", "_law_other"] (sp_L_times K C) := by
  refine F.ok sc_L_times (fun vs H Q E h => ?_) (fun cdv A outer s H vs Q E hr h => ⟨t_L_times K C, ?_, rd_L_times h⟩)
  · obtain ⟨_, _, _, _, rfl, _⟩ := h
    rfl
  · exact (pss_one (ps_ret (pe_callD D_L_fraction (hr.mono (by decide)) (pa_cons (pe_op op_mulA (pe_ix ix_tup (pv 0) pe_int (fun _ _ => rfl)) (pe_ix ix_tup (pv 1) pe_int (fun _ _ => rfl))) (pa_cons (pe_op op_mulA (pe_ix ix_tup (pv 0) pe_int (fun _ _ => rfl)) (pe_ix ix_tup (pv 1) pe_int (fun _ _ => rfl))) pa_nil)))))

/-! ### _law_cut -/
abbrev s_L_cut : Stmt := top 31
def sp_L_cut (K : PySem.W.Frag) (C : CA) : Sp := fun vs H Q _ => ∃ (m c : Addr) (full many : Nat), vs = [.ref m, .int (full : Nat), .int (many : Nat)] ∧ Hand H m c ∧ 1 ≤ many ∧ many ≤ full ∧ many ≤ 1000 ∧ full < 2 ^ 62 ∧
  ∀ (p : Addr) (ns : List Int) (H' : Hp), KL m H H' → Hand H' m c → H p = none → ns.length = many → ns.sum = (full : Nat) → (∀ n ∈ ns, 1 ≤ n) → H' p = some (.lst (ns.map V.int)) → Q (.ref p) H'

@[reducible] def N_L_cut : List Str := ["_law_hand_here", "_law_full", "_law_many", "_law_left", "_law_parts", "_law_k", "_law_more", "_law_at"]
def t_L_cut (K : PySem.W.Frag) (C : CA) : TS :=
  (tSeq (tAsg (tOp oSub (tVar 1) (tVar 2)) (gName 3)) (tSeq (tAsg (tLst tNil) (gName 4)) (tSeq (tFor (iRng1 (tCons (tOp oSub (tVar 2) (tC (.int 1))) tNil)) (gName 5) (tSeq (tAsg (tCall (sp_L_draw K C) [] E0 (tCons (tVar 0) (tCons (tOp oAdd (tCB cMin2 (tCons (tVar 3) (tCons (tOp oAdd (tOp oMul (tC (.int 2)) (tOp oDiv (tVar 3) (tOp oSub (tVar 2) (tVar 5)))) (tC (.int 1))) tNil))) (tC (.int 1))) tNil))) (gName 6)) (tSeq (tDrop (tBM K "list" rAppend (tVar 4) (tCons (tOp oAdd (tC (.int 1)) (tVar 6)) tNil))) (tAsg (tOp oSub (tVar 3) (tVar 6)) (gName 3))))) (tSeq (tDrop (tBM K "list" rAppend (tVar 4) (tCons (tOp oAdd (tC (.int 1)) (tVar 3)) tNil))) (tSeq (tAsg (tCall (sp_L_draw K C) [] E0 (tCons (tVar 0) (tCons (tVar 2) tNil))) (gName 7)) (tRet (tOp rCat (tSl (rSlL K) (tVar 4) (tPart (tVar 7)) tNoPart) (tSl (rSlL K) (tVar 4) tNoPart (tPart (tVar 7))))))))))

theorem rd_L_cut {K : PySem.W.Frag} {C : CA} {vs : List V} {H : Hp} {Q : VK} {E : XK} (h : sp_L_cut K C vs H Q E) : t_L_cut K C { nx := fun _ H' => Q .non H', rt := Q } (start N_L_cut vs) H := by
  obtain ⟨m, c, full, many, rfl, hm, h1, h2, hmx, h3, q⟩ := h
  unfold t_L_cut
  walk_at "go"
  rename_i l Hl nl sl el
  obtain ⟨nm, nc⟩ := hand_ne nl hm
  refine forR_of (n := many - 1) (fun i σ H' => KL m H H' ∧ Hand H' m c ∧ ∃ (left : Int) (ns : List Int) (x y z : Option V), σ = [some (.ref m), some (.int (full : Nat)), some (.int (many : Nat)), some (.int left), some (.ref l), x, y, z] ∧ H' l = some (.lst (ns.map V.int)) ∧
      ns.length = i ∧ 0 ≤ left ∧ (∀ n ∈ ns, 1 ≤ n) ∧ ns.sum + left + ((many : Int) - i) = full) (fun _ _ => False) (by omega) (by omega)
    ⟨by walk_at "sm", by walk_at "keep", _, [], none, none, none, rfl, el, rfl, by omega, by simp, by simp⟩ ?_ ?_ (fun _ _ h => h.elim)
  · rintro i σ H1 N B hi ⟨kl, hm1, left, ns, x, y, z, rfl, hl, hlen, l0, hpos, hsum⟩ hN hB
    walk_at "go"
    refine i_rI ⟨by omega, small_log (by omega)⟩ ?_
    walk_at "go"
    have hp : 0 ≤ left / ((many : Int) - i) := Int.ediv_nonneg l0 (by omega)
    have hle : left ≤ full := by
      have : 0 ≤ ns.sum := by
        clear hsum hl hlen
        induction ns with
        | nil => simp
        | cons n ns ih =>
          have a1 := hpos n List.mem_cons_self
          have a2 := ih fun k hk => hpos k (List.mem_cons_of_mem _ hk)
          rw [List.sum_cons]; omega
      omega
    refine ⟨m, c, _, rfl, hm1, by omega, small_log (by omega), fun d H2 d0 d1 kl2 hm2 => ?_⟩
    walk_at "go"
    refine i_append (xs := ns.map V.int) (by walk_at "keep") (small1000 (by rw [List.length_map]; omega)) (fun H3 kl3 e3 => ?_)
    walk_at "go"
    refine hN _ _ ⟨(kl.trans kl2).loc kl3 nl, kl_hand kl3 nl hm hm2, left - d, ns ++ [1 + d], _, _, _, rfl, ?_, ?_, by omega, ?_, ?_⟩
    · rw [e3, List.map_append]; rfl
    · rw [List.length_append, hlen]; rfl
    · intro n hn
      rcases List.mem_append.mp hn with hn | hn
      · exact hpos n hn
      · have : n = 1 + d := by simpa using hn
        omega
    · rw [List.sum_append]
      simp only [List.sum_cons, List.sum_nil]
      omega
  · rintro σ H1 ⟨kl, hm1, left, ns, x, y, z, rfl, hl, hlen, l0, hpos, hsum⟩
    walk_at "go"
    refine i_append (xs := ns.map V.int) hl (small1000 (by rw [List.length_map]; omega)) (fun H3 kl3 e3 => ?_)
    have hm3 := kl_hand kl3 nl hm hm1
    walk_at "go"
    refine ⟨m, c, _, rfl, hm3, by omega, small_log (by omega), fun d H4 d0 d1 kl4 hm4 => ?_⟩
    have e4 : H4 l = some (.lst ((ns ++ [1 + left]).map V.int)) := kl4.keep _ _ (Ne.symm nm) (by rw [e3, List.map_append]; rfl)
    have hl4 : ((ns ++ [1 + left]).map V.int).length = many := by rw [List.length_map, List.length_append, hlen]; show many - 1 + 1 = many; omega
    walk_at "go"
    rename_i p1 H5 n5 s5 e5 p2 H6 n6 s6 e6
    rw [cutV_from d0 (by omega)] at e5
    rw [cutV_to d0 (by omega)] at e6
    refine i_cat (s6 _ _ e5) e6 (by rw [List.length_drop, List.length_take, hl4]; exact Nat.le_of_lt (small1000 (by omega))) (fun p H7 n7 s7 e7 => ?_)
    have kl6 : KL m H H6 := ((((kl.loc kl3 nl).trans kl4).same s5).same s6)
    refine q p ((ns ++ [1 + left]).drop d.toNat ++ (ns ++ [1 + left]).take d.toNat) H7 (kl6.same s7) (by walk_at "keep") (kl6.live _ n7) ?_ ?_ ?_ ?_
    · rw [List.length_append, List.length_drop, List.length_take]
      rw [List.length_map] at hl4
      omega
    · rw [sum_rot, List.sum_append]
      simp only [List.sum_cons, List.sum_nil]
      omega
    · intro n hn
      have hn' : n ∈ ns ++ [1 + left] := by
        rcases List.mem_append.mp hn with hn | hn
        · exact List.mem_of_mem_drop hn
        · exact List.mem_of_mem_take hn
      rcases List.mem_append.mp hn' with hn | hn
      · exact hpos n hn
      · have : n = 1 + left := by simpa using hn
        omega
    · rw [e7]; simp only [List.map_append, List.map_drop, List.map_take]

theorem sc_L_cut : FnScope N_L_cut ["_law_hand_here", "_law_full", "_law_many"] (defScope s_L_cut) := ⟨rfl, rfl, rfl, by decide +kernel, rfl, by decide +kernel, by decide +kernel⟩
theorem ok_L_cut {P : Program} {w : World} {K : PySem.W.Frag} {mg : Str → Option Value} {base : Heap} {C : CA} {f : Addr} {fd : FuncData} (T : CT K C) (B : Bi mg C) (F : Fun K "_law_cut" "_law_cut" s_L_cut f fd) (D_L_draw : Okd P w K mg base 1 "_law_draw" ["_law_hand_here", "_law_many"] (sp_L_draw K C)) : FnOk P w K mg base CX0 2 f fd ["_law_hand_here", "_law_full", "_law_many"] (sp_L_cut K C) := by
  refine F.ok sc_L_cut (fun vs H Q E h => ?_) (fun cdv A outer s H vs Q E hr h => ⟨t_L_cut K C, ?_, rd_L_cut h⟩)
  · obtain ⟨_, _, _, _, rfl, _⟩ := h
    rfl
  · exact (pss_cons (ps_set (i := 3) sc_L_cut.nd rfl (Or.inl rfl) (pe_op op_sub (pv 1) (pv 2))) (pss_cons (ps_set (i := 4) sc_L_cut.nd rfl (Or.inl rfl) (pe_lst pa_nil)) (pss_cons (ps_for PassesOwn.never rfl (pi_range1 rfl B.b_range (pa_cons (pe_op op_sub (pv 2) pe_int) pa_nil)) (pg_name (i := 5) sc_L_cut.nd rfl (Or.inl rfl)) (pss_cons (ps_set (i := 6) sc_L_cut.nd rfl (Or.inl rfl) (pe_callD D_L_draw (hr.mono (by decide)) (pa_cons (pv 0) (pa_cons (pe_op op_add (pe_callB (call_min2 rfl) (by rfl) B.b_min bt_min (pa_cons (pv 3) (pa_cons (pe_op op_add (pe_op op_mulA pe_int (pe_op op_fdivW (pv 3) (pe_op op_sub (pv 2) (pv 5)))) pe_int) pa_nil))) pe_int) pa_nil)))) (pss_cons (ps_expr (pe_bm PySem.F.plainAttrs_list PySem.F.slot_list_append PySem.F.type_list_append mt_append (pv 4) (pa_cons (pe_op op_add pe_int (pv 6)) pa_nil))) (pss_one (ps_set (i := 3) sc_L_cut.nd rfl (Or.inl rfl) (pe_op op_sub (pv 3) (pv 6))))))) (pss_cons (ps_expr (pe_bm PySem.F.plainAttrs_list PySem.F.slot_list_append PySem.F.type_list_append mt_append (pv 4) (pa_cons (pe_op op_add pe_int (pv 3)) pa_nil))) (pss_cons (ps_set (i := 7) sc_L_cut.nd rfl (Or.inl rfl) (pe_callD D_L_draw (hr.mono (by decide)) (pa_cons (pv 0) (pa_cons (pv 2) pa_nil)))) (pss_one (ps_ret (pe_op op_cat (pe_slice sl_list (pv 4) (po_some (pv 7)) po_none) (pe_slice sl_list (pv 4) po_none (po_some (pv 7)))))))))))

/-! ### _law_numbers -/
abbrev s_L_numbers : Stmt := top 32
def sp_L_numbers (K : PySem.W.Frag) (C : CA) : Sp := fun vs H Q _ => ∃ (m c : Addr) (side most : Nat), vs = [.ref m, .int (side : Nat), .int (most : Nat)] ∧ Hand H m c ∧ 1 ≤ side ∧ side ≤ 100 ∧ 1 ≤ most ∧ most ≤ 1000000000000 ∧
  ∀ (w a b : Addr) (ns ks : List Int) (H' : Hp), KL m H H' → Hand H' m c → a ≠ m → b ≠ m → H' w = some (.tup [.ref a, .ref b]) → H' a = some (.lst (ns.map V.int)) → H' b = some (.lst (ks.map V.int)) → ns.sum = ks.sum → ns.sum < 2000000000000 →
    1 ≤ ns.length → ns.length ≤ side → 1 ≤ ks.length → ks.length ≤ side → (∀ n ∈ ns, 1 ≤ n) → (∀ n ∈ ks, 1 ≤ n) → Q (.ref w) H'

@[reducible] def N_L_numbers : List Str := ["_law_hand_here", "_law_side", "_law_most", "_law_one", "_law_other", "_law_full", "_law_kind", "_law_owed"]
def t_L_numbers (K : PySem.W.Frag) (C : CA) : TS :=
  (tSeq (tAsg (tOp oAdd (tC (.int 1)) (tCall (sp_L_draw K C) [] E0 (tCons (tVar 0) (tCons (tVar 1) tNil)))) (gName 3)) (tSeq (tAsg (tOp oAdd (tC (.int 1)) (tCall (sp_L_draw K C) [] E0 (tCons (tVar 0) (tCons (tVar 1) tNil)))) (gName 4)) (tSeq (tAsg (tOp oAdd (tCB cMax2 (tCons (tVar 3) (tCons (tVar 4) tNil))) (tCall (sp_L_draw K C) [] E0 (tCons (tVar 0) (tCons (tVar 2) tNil)))) (gName 5)) (tSeq (tAsg (tCall (sp_L_draw K C) [] E0 (tCons (tVar 0) (tCons (tC (.int 4)) tNil))) (gName 6)) (tSeq (tIfS (tTest (tOp rEq (tVar 6) (tC (.int 0)))) (tRet (tTup (tCons (tCall (sp_L_cut K C) [] E0 (tCons (tVar 0) (tCons (tVar 5) (tCons (tVar 3) tNil)))) (tCons (tRevL K (tCall (sp_L_cut K C) [] E0 (tCons (tVar 0) (tCons (tVar 5) (tCons (tVar 3) tNil))))) tNil)))) tNext) (tSeq (tAsg (tCall (sp_L_cut K C) [] E0 (tCons (tVar 0) (tCons (tVar 5) (tCons (tVar 3) tNil)))) (gName 7)) (tSeq (tIfS (tTest (tOp rEq (tVar 6) (tC (.int 1)))) (tRet (tTup (tCons (tVar 7) (tCons (tRevL K (tVar 7)) tNil)))) tNext) (tRet (tTup (tCons (tVar 7) (tCons (tCall (sp_L_cut K C) [] E0 (tCons (tVar 0) (tCons (tVar 5) (tCons (tVar 4) tNil)))) tNil)))))))))))

theorem rd_L_numbers {K : PySem.W.Frag} {C : CA} {vs : List V} {H : Hp} {Q : VK} {E : XK} (h : sp_L_numbers K C vs H Q E) : t_L_numbers K C { nx := fun _ H' => Q .non H', rt := Q } (start N_L_numbers vs) H := by
  obtain ⟨m, c, side, most, rfl, hm, h1, h2, h3, h4, q⟩ := h
  unfold t_L_numbers
  walk_at "go"
  refine ⟨m, c, _, rfl, hm, by omega, small_log (by omega), fun d1 H1 d10 d11 kl1 hm1 => ?_⟩
  walk_at "go"
  refine ⟨m, c, _, rfl, hm1, by omega, small_log (by omega), fun d2 H2 d20 d21 kl2 hm2 => ?_⟩
  walk_at "go"
  refine ⟨m, c, _, rfl, hm2, by omega, small_log (by omega), fun d3 H3 d30 d31 kl3 hm3 => ?_⟩
  walk_at "go"
  refine ⟨m, c, _, rfl, hm3, by omega, small_log (by omega), fun d4 H4 d40 d41 kl4 hm4 => ?_⟩
  obtain ⟨full, hf⟩ : ∃ full : Nat, max (1 + d1) (1 + d2) + d3 = (full : Nat) := ⟨(max (1 + d1) (1 + d2) + d3).toNat, by omega⟩
  obtain ⟨one, ho⟩ : ∃ one : Nat, 1 + d1 = (one : Nat) := ⟨(1 + d1).toNat, by omega⟩
  obtain ⟨other, ht⟩ : ∃ other : Nat, 1 + d2 = (other : Nat) := ⟨(1 + d2).toNat, by omega⟩
  have klA : KL m H H4 := ((kl1.trans kl2).trans kl3).trans kl4
  simp only [hf]
  simp only [ho, ht]
  walk_at "go"
  refine ite_d (fun hk => ?_) (fun hk => ?_)
  · walk_at "go"
    refine ⟨m, c, full, one, rfl, hm4, by omega, by omega, by omega, by omega, fun p1 ns H5 kl5 hm5 n5 l5 su5 po5 e5 => ?_⟩
    walk_at "go"
    refine ⟨m, c, full, one, rfl, hm5, by omega, by omega, by omega, by omega, fun p2 ks H6 kl6 hm6 n6 l6 su6 po6 e6 => ?_⟩
    walk_at "go"
    rename_i p3 H7 n7 s7 e7 p4 H8 n8 s8 e8
    have hp1 : p1 ≠ m := (hand_ne n5 hm4).1.symm
    have hp3 : p3 ≠ m := (hand_ne n7 hm6).1.symm
    rw [← List.map_reverse] at e7
    refine q p4 p1 p3 ns ks.reverse H8 (((klA.trans kl5).trans kl6).same (s7.trans s8)) (by walk_at "keep") hp1 hp3 e8 (by walk_at "keep") (s8 _ _ e7) (by rw [sum_rev]; omega) (by omega) (by omega) (by omega) (by rw [List.length_reverse]; omega) (by rw [List.length_reverse]; omega) po5 (fun n hn => po6 n (List.mem_reverse.mp hn))
  · walk_at "go"
    refine ⟨m, c, full, one, rfl, hm4, by omega, by omega, by omega, by omega, fun p1 ns H5 kl5 hm5 n5 l5 su5 po5 e5 => ?_⟩
    have hp1 : p1 ≠ m := (hand_ne n5 hm4).1.symm
    walk_at "go"
    refine ite_d (fun hk => ?_) (fun hk => ?_)
    · walk_at "go"
      rename_i p3 H7 n7 s7 e7 p4 H8 n8 s8 e8
      have hp3 : p3 ≠ m := (hand_ne n7 hm5).1.symm
      rw [← List.map_reverse] at e7
      refine q p4 p1 p3 ns ns.reverse H8 ((klA.trans kl5).same (s7.trans s8)) (by walk_at "keep") hp1 hp3 e8 (by walk_at "keep") (s8 _ _ e7) (by rw [sum_rev]) (by omega) (by omega) (by omega) (by rw [List.length_reverse]; omega) (by rw [List.length_reverse]; omega) po5 (fun n hn => po5 n (List.mem_reverse.mp hn))
    · walk_at "go"
      refine ⟨m, c, full, other, rfl, hm5, by omega, by omega, by omega, by omega, fun p2 ks H6 kl6 hm6 n6 l6 su6 po6 e6 => ?_⟩
      have hp2 : p2 ≠ m := (hand_ne n6 hm5).1.symm
      walk_at "go"
      rename_i p4 H8 n8 s8 e8
      refine q p4 p1 p2 ns ks H8 (((klA.trans kl5).trans kl6).same s8) (by walk_at "keep") hp1 hp2 e8 (by walk_at "keep") (s8 _ _ e6) (by omega) (by omega) (by omega) (by omega) (by omega) (by omega) po5 po6

theorem sc_L_numbers : FnScope N_L_numbers ["_law_hand_here", "_law_side", "_law_most"] (defScope s_L_numbers) := ⟨rfl, rfl, rfl, by decide +kernel, rfl, by decide +kernel, by decide +kernel⟩
theorem ok_L_numbers {P : Program} {w : World} {K : PySem.W.Frag} {mg : Str → Option Value} {base : Heap} {C : CA} {f : Addr} {fd : FuncData} (T : CT K C) (B : Bi mg C) (F : Fun K "_law_numbers" "_law_numbers" s_L_numbers f fd) (D_L_draw : Okd P w K mg base 1 "_law_draw" ["_law_hand_here", "_law_many"] (sp_L_draw K C)) (D_L_cut : Okd P w K mg base 2 "_law_cut" ["_law_hand_here", "_law_full", "_law_many"] (sp_L_cut K C)) : FnOk P w K mg base CX0 3 f fd ["_law_hand_here", "_law_side", "_law_most"] (sp_L_numbers K C) := by
  refine F.ok sc_L_numbers (fun vs H Q E h => ?_) (fun cdv A outer s H vs Q E hr h => ⟨t_L_numbers K C, ?_, rd_L_numbers h⟩)
  · obtain ⟨_, _, _, _, rfl, _⟩ := h
    rfl
  · exact (pss_cons (ps_set (i := 3) sc_L_numbers.nd rfl (Or.inl rfl) (pe_op op_add pe_int (pe_callD D_L_draw (hr.mono (by decide)) (pa_cons (pv 0) (pa_cons (pv 1) pa_nil))))) (pss_cons (ps_set (i := 4) sc_L_numbers.nd rfl (Or.inl rfl) (pe_op op_add pe_int (pe_callD D_L_draw (hr.mono (by decide)) (pa_cons (pv 0) (pa_cons (pv 1) pa_nil))))) (pss_cons (ps_set (i := 5) sc_L_numbers.nd rfl (Or.inl rfl) (pe_op op_add (pe_callB (call_max2 rfl) (by rfl) B.b_max bt_max (pa_cons (pv 3) (pa_cons (pv 4) pa_nil))) (pe_callD D_L_draw (hr.mono (by decide)) (pa_cons (pv 0) (pa_cons (pv 2) pa_nil))))) (pss_cons (ps_set (i := 6) sc_L_numbers.nd rfl (Or.inl rfl) (pe_callD D_L_draw (hr.mono (by decide)) (pa_cons (pv 0) (pa_cons pe_int pa_nil)))) (pss_cons (ps_if (pt_cmpR op_eq (pv 6) pe_int (nomark _)) (pss_one (ps_ret (pe_tup (pa_cons (pe_callD D_L_cut (hr.mono (by decide)) (pa_cons (pv 0) (pa_cons (pv 5) (pa_cons (pv 3) pa_nil)))) (pa_cons (pe_revL (pe_callD D_L_cut (hr.mono (by decide)) (pa_cons (pv 0) (pa_cons (pv 5) (pa_cons (pv 3) pa_nil))))) pa_nil))))) pss_nil) (pss_cons (ps_set (i := 7) sc_L_numbers.nd rfl (Or.inl rfl) (pe_callD D_L_cut (hr.mono (by decide)) (pa_cons (pv 0) (pa_cons (pv 5) (pa_cons (pv 3) pa_nil))))) (pss_cons (ps_if (pt_cmpR op_eq (pv 6) pe_int (nomark _)) (pss_one (ps_ret (pe_tup (pa_cons (pv 7) (pa_cons (pe_revL (pv 7)) pa_nil))))) pss_nil) (pss_one (ps_ret (pe_tup (pa_cons (pv 7) (pa_cons (pe_callD D_L_cut (hr.mono (by decide)) (pa_cons (pv 0) (pa_cons (pv 5) (pa_cons (pv 4) pa_nil)))) pa_nil))))))))))))

/-! ### _law_unit -/
abbrev s_L_unit : Stmt := top 33
def sp_L_unit (K : PySem.W.Frag) (C : CA) : Sp := fun vs H Q _ => ∃ (m c : Addr), vs = [.ref m] ∧ Hand H m c ∧
  ∀ (u : Rat) (w : V) (H' : Hp), 0 < u.num → u.num ≤ 1000000000000 → u.den ≤ 1000000000 → KL m H H' → Hand H' m c → Im H' w (fr u) → Q w H'

@[reducible] def N_L_unit : List Str := ["_law_hand_here", "_law_menu"]
def t_L_unit (K : PySem.W.Frag) (C : CA) : TS :=
  (tSeq (tAsg (tLst (tCons (tTup (tCons (tC (.int 1)) (tCons (tC (.int 1)) tNil))) (tCons (tTup (tCons (tC (.int 1)) (tCons (tC (.int 1)) tNil))) (tCons (tTup (tCons (tC (.int 2)) (tCons (tC (.int 1)) tNil))) (tCons (tTup (tCons (tC (.int 1)) (tCons (tC (.int 2)) tNil))) (tCons (tTup (tCons (tC (.int 3)) (tCons (tC (.int 4)) tNil))) (tCons (tTup (tCons (tC (.int 10)) (tCons (tC (.int 1)) tNil))) (tCons (tTup (tCons (tC (.int 7)) (tCons (tC (.int 3)) tNil))) (tCons (tTup (tCons (tOp oPow (tC (.int 10)) (tC (.int 12))) (tCons (tC (.int 1)) tNil))) (tCons (tTup (tCons (tC (.int 1)) (tCons (tOp oPow (tC (.int 10)) (tC (.int 9))) tNil))) tNil)))))))))) (gName 1)) (tRet (tOp (rIxL K) (tVar 1) (tCall (sp_L_draw K C) [] E0 (tCons (tVar 0) (tCons (tC (.int 9)) tNil))))))

theorem rd_L_unit {K : PySem.W.Frag} {C : CA} {vs : List V} {H : Hp} {Q : VK} {E : XK} (h : sp_L_unit K C vs H Q E) : t_L_unit K C { nx := fun _ H' => Q .non H', rt := Q } (start N_L_unit vs) H := by
  obtain ⟨m, c, rfl, hm, q⟩ := h
  unfold t_L_unit
  walk_at "go"
  rename_i l Hl nl sl el
  refine ⟨m, c, 9, rfl, by walk_at "keep", by decide, by decide, fun d H1 h0 h1 kl hm1 => ?_⟩
  have nml : l ≠ m := ((hand_ne (m := m) (c := c) nl (by walk_at "keep")).1).symm
  have hd : d = 0 ∨ d = 1 ∨ d = 2 ∨ d = 3 ∨ d = 4 ∨ d = 5 ∨ d = 6 ∨ d = 7 ∨ d = 8 := by omega
  rcases hd with rfl | rfl | rfl | rfl | rfl | rfl | rfl | rfl | rfl
  all_goals
    walk_at "go"
  · exact q 1 _ _ (by decide) (by decide) (by decide) (by walk_at "sm") hm1 (Im.fr_of (by walk_at "keep"))
  · exact q 1 _ _ (by decide) (by decide) (by decide) (by walk_at "sm") hm1 (Im.fr_of (by walk_at "keep"))
  · exact q 2 _ _ (by decide) (by decide) (by decide) (by walk_at "sm") hm1 (Im.fr_of (by walk_at "keep"))
  · exact q (mkRat 1 2) _ _ (by decide) (by decide) (by decide) (by walk_at "sm") hm1 (Im.fr_of (by walk_at "keep"))
  · exact q (mkRat 3 4) _ _ (by decide) (by decide) (by decide) (by walk_at "sm") hm1 (Im.fr_of (by walk_at "keep"))
  · exact q 10 _ _ (by decide) (by decide) (by decide) (by walk_at "sm") hm1 (Im.fr_of (by walk_at "keep"))
  · exact q (mkRat 7 3) _ _ (by decide) (by decide) (by decide) (by walk_at "sm") hm1 (Im.fr_of (by walk_at "keep"))
  · exact q 1000000000000 _ _ (by decide) (by decide) (by decide) (by walk_at "sm") hm1 (Im.fr_of (by walk_at "keep"))
  · exact q (mkRat 1 1000000000) _ _ (by decide) (by decide) (by decide) (by walk_at "sm") hm1 (Im.fr_of (by walk_at "keep"))

theorem sc_L_unit : FnScope N_L_unit ["_law_hand_here"] (defScope s_L_unit) := ⟨rfl, rfl, rfl, by decide +kernel, rfl, by decide +kernel, by decide +kernel⟩
theorem ok_L_unit {P : Program} {w : World} {K : PySem.W.Frag} {mg : Str → Option Value} {base : Heap} {C : CA} {f : Addr} {fd : FuncData} (T : CT K C) (B : Bi mg C) (F : Fun K "_law_unit" "_law_unit" s_L_unit f fd) (D_L_draw : Okd P w K mg base 1 "_law_draw" ["_law_hand_here", "_law_many"] (sp_L_draw K C)) : FnOk P w K mg base CX0 2 f fd ["_law_hand_here"] (sp_L_unit K C) := by
  refine F.ok sc_L_unit (fun vs H Q E h => ?_) (fun cdv A outer s H vs Q E hr h => ⟨t_L_unit K C, ?_, rd_L_unit h⟩)
  · obtain ⟨_, _, rfl, _⟩ := h
    rfl
  · exact (pss_cons (ps_set (i := 1) sc_L_unit.nd rfl (Or.inl rfl) (pe_lst (pa_cons (pe_tup (pa_cons pe_int (pa_cons pe_int pa_nil))) (pa_cons (pe_tup (pa_cons pe_int (pa_cons pe_int pa_nil))) (pa_cons (pe_tup (pa_cons pe_int (pa_cons pe_int pa_nil))) (pa_cons (pe_tup (pa_cons pe_int (pa_cons pe_int pa_nil))) (pa_cons (pe_tup (pa_cons pe_int (pa_cons pe_int pa_nil))) (pa_cons (pe_tup (pa_cons pe_int (pa_cons pe_int pa_nil))) (pa_cons (pe_tup (pa_cons pe_int (pa_cons pe_int pa_nil))) (pa_cons (pe_tup (pa_cons (pe_op op_pow pe_int pe_int) (pa_cons pe_int pa_nil))) (pa_cons (pe_tup (pa_cons pe_int (pa_cons (pe_op op_pow pe_int pe_int) pa_nil))) pa_nil))))))))))) (pss_one (ps_ret (pe_ix ix_list (pv 1) (pe_callD D_L_draw (hr.mono (by decide)) (pa_cons (pv 0) (pa_cons pe_int pa_nil))) (fun _ _ => rfl)))))

/-! ### _law_sums -/
abbrev s_L_sums : Stmt := top 34
def sp_L_sums (K : PySem.W.Frag) (C : CA) : Sp := fun vs H Q _ => ∃ (m c : Addr) (side most : Nat), vs = [.ref m, .int (side : Nat), .int (most : Nat)] ∧ Hand H m c ∧ 1 ≤ side ∧ side ≤ 100 ∧ 1 ≤ most ∧ most ≤ 1000000000000 ∧
  ∀ (w a b : V) (p : Addr) (o d : List Rat) (H' : Hp), KL m H H' → Hand H' m c → w = .ref p → H' p = some (.tup [a, b]) → Im H' a (.tuple (o.map fr)) → Im H' b (.tuple (d.map fr)) → Drawn side o d → Q w H'

@[reducible] def N_L_sums : List Str := ["_law_hand_here", "_law_side", "_law_most", "_law_owed", "_law_due", "_law_unit_here", "_law_number"]
def t_L_sums (K : PySem.W.Frag) (C : CA) : TS :=
  (tSeq (tAsg (tCall (sp_L_numbers K C) [] E0 (tCons (tVar 0) (tCons (tVar 1) (tCons (tVar 2) tNil)))) (gTup K 2 (gCons (gName 3) (gCons (gName 4) gNil)))) (tSeq (tAsg (tCall (sp_L_unit K C) [] E0 (tCons (tVar 0) tNil)) (gName 5)) (tRet (tTup (tCons (tCB (cTup K) (tCons (tLc (iList K (tVar 3)) (gName 6) tYes (tCall (sp_L_times K C) [] E0 (tCons (tTup (tCons (tVar 6) (tCons (tC (.int 1)) tNil))) (tCons (tVar 5) tNil))) [6]) tNil)) (tCons (tCB (cTup K) (tCons (tLc (iList K (tVar 4)) (gName 6) tYes (tCall (sp_L_times K C) [] E0 (tCons (tTup (tCons (tVar 6) (tCons (tC (.int 1)) tNil))) (tCons (tVar 5) tNil))) [6]) tNil)) tNil))))))

theorem rd_L_sums {K : PySem.W.Frag} {C : CA} {vs : List V} {H : Hp} {Q : VK} {E : XK} (h : sp_L_sums K C vs H Q E) : t_L_sums K C { nx := fun _ H' => Q .non H', rt := Q } (start N_L_sums vs) H := by
  obtain ⟨m, c, side, most, rfl, hm, h1, h2, h3, h4, q⟩ := h
  unfold t_L_sums
  walk_at "go"
  refine ⟨m, c, side, most, rfl, hm, h1, h2, h3, h4, fun w a b ns ks H1 kl1 hm1 nam nbm hw ha hb es sb n1 n2 k1 k2 po pk => ?_⟩
  walk_at "go"
  refine ⟨m, c, rfl, hm1, fun u wu H2 u0 u1 ud kl2 hm2 hu => ?_⟩
  have ha2 : H2 a = some (.lst (ns.map V.int)) := kl2.keep _ _ nam ha
  have hb2 : H2 b = some (.lst (ks.map V.int)) := kl2.keep _ _ nbm hb
  have hu148 : u.num.natAbs < 2 ^ 148 ∧ u.den < 2 ^ 148 := by
    have : 1000000000000 < 2 ^ 148 := by decide
    omega
  have turn : ∀ (zs : List Int), zs.sum < 2000000000000 → (∀ n ∈ zs, 1 ≤ n) → ∀ (e : PyData), e ∈ zs.map PyData.int → ∃ n : Int, e = .int n ∧ 1 ≤ n ∧ n.natAbs < 2 ^ 148 := by
    intro zs hs hz e he
    obtain ⟨n, hn, rfl⟩ := List.mem_map.mp he
    have l1 := le_sum hz n hn
    have l2 := hz n hn
    have : 2000000000000 < 2 ^ 148 := by decide
    exact ⟨n, rfl, l2, by omega⟩
  have fmap : ∀ zs : List Int, (zs.map PyData.int).map (fun d => match d with | .int n => fr ((n : Rat) * u) | d => d) = (zs.map fun n : Int => (n : Rat) * u).map fr := by
    intro zs
    rw [List.map_map, List.map_map]
    rfl
  walk_at "go"
  refine lcL_of (es := ns.map PyData.int) (fun d => match d with | .int n => fr ((n : Rat) * u) | d => d) (SqL.of ha2) (ImL.ints ns) (by rw [List.length_map]; exact small1000 (by omega)) (fun e x H3 N he s3 hx hN => ?_) (fun D H3 ys hD s3 e3 hy => ?_)
  · obtain ⟨n, rfl, hn1, hn2⟩ := turn ns sb po e he
    simp only [Im] at hx
    subst hx
    walk_at "go"
    refine ⟨rfl, ?_⟩
    walk_at "go"
    rename_i p4 H4 n4 s4 e4
    refine ⟨_, wu, (n : Rat), u, rfl, Im.fr_of (by simpa using e4), by walk_at "keep", by simpa using hn2, by simp, hu148.1, hu148.2, fun z H5 s5 hz => ?_⟩
    exact hN z H5 (s4.trans s5) hz
  · rw [fmap] at hy
    walk_at "go"
    refine i_ctupL e3 (fun t1 H4 n4 s4 e4 => ?_)
    walk_at "go"
    refine lcL_of (es := ks.map PyData.int) (fun d => match d with | .int n => fr ((n : Rat) * u) | d => d) (SqL.of (by walk_at "keep")) (ImL.ints ks) (by rw [List.length_map]; exact small1000 (by omega)) (fun e x H5 N he s5 hx hN => ?_) (fun D2 H5 ys2 hD2 s5 e5 hy2 => ?_)
    · obtain ⟨n, rfl, hn1, hn2⟩ := turn ks (by omega) pk e he
      simp only [Im] at hx
      subst hx
      walk_at "go"
      refine ⟨rfl, ?_⟩
      walk_at "go"
      rename_i p6 H6 n6 s6 e6
      refine ⟨_, wu, (n : Rat), u, rfl, Im.fr_of (by simpa using e6), by walk_at "keep", by simpa using hn2, by simp, hu148.1, hu148.2, fun z H7 s7 hz => ?_⟩
      exact hN z H7 (s6.trans s7) hz
    · rw [fmap] at hy2
      walk_at "go"
      refine i_ctupL e5 (fun t2 H6 n6 s6 e6 => ?_)
      walk_at "go"
      rename_i t3 H7 n7 s7 e7
      have b1 := drawn_bs po sb u0 u1
      have b2 := drawn_bs pk (by omega) u0 u1
      have hd0 : 0 < u.den := Nat.pos_of_ne_zero u.den_nz
      refine q _ _ _ t3 _ _ H7 ?_ ?_ rfl e7 (Im.tup (by walk_at "keep") (by walk_at "keep")) (Im.tup (by walk_at "keep") (by walk_at "keep")) ⟨by simpa using n1, by simpa using n2, by simpa using k1, by simpa using k2, by rw [sum_mul, sum_mul, es], fun q hq => (b1 q hq).1, fun q hq => (b2 q hq).1, ?_, ⟨u.den, ⟨hd0, ?_⟩, ?_⟩, ?_⟩
      · walk_at "sm"
      · walk_at "keep"
      · rw [List.length_append, List.length_map, List.length_map]; omega
      · intro q hq
        rcases List.mem_append.mp hq with hq | hq
        · exact (b1 q hq).2.2
        · exact (b2 q hq).2.2
      · have : 1000000000 < 2 ^ 48 := by decide
        omega
      · intro q hq
        rcases List.mem_append.mp hq with hq | hq
        · exact (b1 q hq).2.1
        · exact (b2 q hq).2.1

theorem sc_L_sums : FnScope N_L_sums ["_law_hand_here", "_law_side", "_law_most"] (defScope s_L_sums) := ⟨rfl, rfl, rfl, by decide +kernel, rfl, by decide +kernel, by decide +kernel⟩
theorem ok_L_sums {P : Program} {w : World} {K : PySem.W.Frag} {mg : Str → Option Value} {base : Heap} {C : CA} {f : Addr} {fd : FuncData} (T : CT K C) (B : Bi mg C) (F : Fun K "_law_sums" "_law_sums" s_L_sums f fd) (D_L_times : Okd P w K mg base 3 "_law_times" ["_law_one", "_law_other"] (sp_L_times K C)) (D_L_numbers : Okd P w K mg base 3 "_law_numbers" ["_law_hand_here", "_law_side", "_law_most"] (sp_L_numbers K C)) (D_L_unit : Okd P w K mg base 2 "_law_unit" ["_law_hand_here"] (sp_L_unit K C)) : FnOk P w K mg base CX0 4 f fd ["_law_hand_here", "_law_side", "_law_most"] (sp_L_sums K C) := by
  refine F.ok sc_L_sums (fun vs H Q E h => ?_) (fun cdv A outer s H vs Q E hr h => ⟨t_L_sums K C, ?_, rd_L_sums h⟩)
  · obtain ⟨_, _, _, _, rfl, _⟩ := h
    rfl
  · exact (pss_cons (ps_asg (pe_callD D_L_numbers (hr.mono (by decide)) (pa_cons (pv 0) (pa_cons (pv 1) (pa_cons (pv 2) pa_nil)))) (pg_tup rfl (pgs_cons (pg_name (i := 3) sc_L_sums.nd rfl (Or.inl rfl)) (pgs_cons (pg_name (i := 4) sc_L_sums.nd rfl (Or.inl rfl)) pgs_nil)))) (pss_cons (ps_set (i := 5) sc_L_sums.nd rfl (Or.inr rfl) (pe_callD D_L_unit (hr.mono (by decide)) (pa_cons (pv 0) pa_nil))) (pss_one (ps_ret (pe_tup (pa_cons (pe_callTy call_tuple_of (by rfl) B.b_tuple bt_tuple (pa_cons (pe_lc (own := [("_law_number", 6)]) (g := (gName 6)) (tt := tYes) rfl sc_L_sums.nd (pi_list (pv 3)) (blkOk_by (own := [("_law_number", 6)]) (N := N_L_sums) (sc := defScope s_L_sums) (by decide +kernel)) (fun _ _ _ _ _ => (pg_name (i := 6) sc_L_sums.nd rfl (Or.inl rfl))) (fun _ _ _ _ _ => pts_nil) (fun _ _ _ _ _ => (pe_callD D_L_times (hr.mono (by decide)) (pa_cons (pe_tup (pa_cons (pv 6) (pa_cons pe_int pa_nil))) (pa_cons (pv 5) pa_nil))))) pa_nil)) (pa_cons (pe_callTy call_tuple_of (by rfl) B.b_tuple bt_tuple (pa_cons (pe_lc (own := [("_law_number", 6)]) (g := (gName 6)) (tt := tYes) rfl sc_L_sums.nd (pi_list (pv 4)) (blkOk_by (own := [("_law_number", 6)]) (N := N_L_sums) (sc := defScope s_L_sums) (by decide +kernel)) (fun _ _ _ _ _ => (pg_name (i := 6) sc_L_sums.nd rfl (Or.inl rfl))) (fun _ _ _ _ _ => pts_nil) (fun _ _ _ _ _ => (pe_callD D_L_times (hr.mono (by decide)) (pa_cons (pe_tup (pa_cons (pv 6) (pa_cons pe_int pa_nil))) (pa_cons (pv 5) pa_nil))))) pa_nil)) pa_nil)))))))

/-! ### _law_is_measure -/
abbrev s_L_is_measure : Stmt := top 36
def sp_L_is_measure (K : PySem.W.Frag) (C : CA) : Sp := fun vs H Q _ => ∃ (v w : V) (g L : Nat) (qs : List Rat), vs = [v, w] ∧ Im H v (.tuple [.int (g : Nat), .int (L : Nat)]) ∧ Im H w (.tuple (qs.map fr)) ∧ TopG qs g ∧ BotL qs L ∧ qs ≠ [] ∧ (∀ q ∈ qs, 0 < q.num) ∧ Bs qs ∧
  ∀ H', Same H H' → Q (.bl true) H'

@[reducible] def N_L_is_measure : List Str := ["_law_told", "_law_sums_here", "_law_shared", "_law_top", "_law_bottom", "_law_times_here"]
def t_L_is_measure (K : PySem.W.Frag) (C : CA) : TS :=
  (tSeq (tIfS (tOr (tNot (tB (tCB (rIsi K) (tCons (tVar 0) (tCons (tC (.ty "tuple")) tNil))))) (tOr (tTest (tOp rNe (tCB (cLen K) (tCons (tVar 0) tNil)) (tC (.int 2)))) (tOr (tB (tCB (rIsi K) (tCons (tOp (rIxT K) (tVar 0) (tC (.int 0))) (tCons (tC (.ty "bool")) tNil)))) (tOr (tTest (tOp oLe (tOp (rIxT K) (tVar 0) (tC (.int 0))) (tC (.int 0)))) (tTest (tOp oLe (tOp (rIxT K) (tVar 0) (tC (.int 1))) (tC (.int 0)))))))) (tRet (tC (.bl false))) tNext) (tSeq (tIfS (tTest (tOp rNe (tCall (sp_L_common K C) [] E0 (tCons (tOp (rIxT K) (tVar 0) (tC (.int 0))) (tCons (tOp (rIxT K) (tVar 0) (tC (.int 1))) tNil))) (tC (.int 1)))) (tRet (tC (.bl false))) tNext) (tSeq (tAsg (tC (.int 0)) (gName 2)) (tSeq (tFor (iTup K (tVar 1)) (gTup K 2 (gCons (gName 3) (gCons (gName 4) gNil))) (tSeq (tAsg (tCall (sp_L_fraction K C) [] E0 (tCons (tOp oMul (tVar 3) (tOp (rIxT K) (tVar 0) (tC (.int 1)))) (tCons (tOp oMul (tVar 4) (tOp (rIxT K) (tVar 0) (tC (.int 0)))) tNil))) (gName 5)) (tSeq (tIfS (tTest (tOp rNe (tOp (rIxT K) (tVar 5) (tC (.int 1))) (tC (.int 1)))) (tRet (tC (.bl false))) tNext) (tAsg (tIf (tTest (tOp rEq (tVar 2) (tC (.int 0)))) (tOp (rIxT K) (tVar 5) (tC (.int 0))) (tCall (sp_L_common K C) [] E0 (tCons (tVar 2) (tCons (tOp (rIxT K) (tVar 5) (tC (.int 0))) tNil)))) (gName 2))))) (tRet (tOp rEq (tVar 2) (tC (.int 1))))))))

theorem top_pos {qs : List Rat} {g : Nat} (hT : TopG qs g) (ne : qs ≠ []) (pos : ∀ q ∈ qs, 0 < q.num) : 0 < g := by
  cases qs with
  | nil => exact absurd rfl ne
  | cons q qs =>
    have h1 := hT.1 q List.mem_cons_self
    have h2 := pos q List.mem_cons_self
    rcases Nat.eq_zero_or_pos g with e | e
    · subst e
      have := Nat.eq_zero_of_zero_dvd h1
      omega
    · exact e
theorem bot_drop {qs : List Rat} {L e : Nat} (hB : BotL qs L) (he : e ∣ L) (h : ∀ q ∈ qs, q.den ∣ L / e) : e = 1 := by
  have h1 := hB.2.2 (L / e) h
  obtain ⟨k, hk⟩ := he
  have he0 : 0 < e := by
    rcases Nat.eq_zero_or_pos e with z | z
    · subst z
      have := hB.1
      omega
    · exact z
  have hk0 : 0 < k := by
    rcases Nat.eq_zero_or_pos k with z | z
    · subst z
      have := hB.1
      omega
    · exact z
  rw [hk, Nat.mul_div_cancel_left _ he0] at h1
  have h2 := Nat.le_of_dvd hk0 h1
  have h3 : e * k ≤ 1 * k := by omega
  have := Nat.le_of_mul_le_mul_right h3 hk0
  omega
theorem measure_cop {qs : List Rat} {g L : Nat} (hT : TopG qs g) (hB : BotL qs L) : g.gcd L = 1 := by
  refine bot_drop hB (Nat.gcd_dvd_right g L) fun q hq => ?_
  have h1 : g.gcd L ∣ q.num.natAbs := Nat.dvd_trans (Nat.gcd_dvd_left _ _) (hT.1 q hq)
  obtain ⟨k, hk⟩ := Nat.gcd_dvd_right g L
  have hg : 0 < g.gcd L := Nat.gcd_pos_of_pos_right _ hB.1
  have h2 : L / g.gcd L = k := Nat.div_eq_of_eq_mul_right hg hk
  rw [h2]
  have cop : Nat.Coprime q.den (g.gcd L) := Nat.Coprime.symm (Nat.Coprime.coprime_dvd_left h1 q.reduced)
  have h3 := hB.2.1 q hq
  rw [hk] at h3
  exact cop.dvd_of_dvd_mul_left h3
theorem measure_one {qs : List Rat} {g L m : Nat} (hT : TopG qs g) (hB : BotL qs L) (ne : qs ≠ []) (pos : ∀ q ∈ qs, 0 < q.num) (hm : ∀ q ∈ qs, m ∣ (q.num.natAbs / g) * (L / q.den)) : m = 1 := by
  have g0 := top_pos hT ne pos
  have cgl : Nat.Coprime g L := measure_cop hT hB
  -- num * L = n * g * den
  have key : ∀ q ∈ qs, q.num.natAbs * L = (q.num.natAbs / g) * (L / q.den) * (g * q.den) := by
    intro q hq
    obtain ⟨a, ha⟩ := hT.1 q hq
    obtain ⟨b, hb⟩ := hB.2.1 q hq
    have hd : 0 < q.den := Nat.pos_of_ne_zero q.den_nz
    rw [ha, Nat.mul_div_cancel_left _ g0]
    rw [hb, Nat.mul_div_cancel_left _ hd]
    grind
  have hd1 : m.gcd L = 1 := by
    refine bot_drop hB (Nat.gcd_dvd_right m L) fun q hq => ?_
    obtain ⟨k, hk⟩ := hm q hq
    obtain ⟨x, hx⟩ := Nat.gcd_dvd_left m L
    obtain ⟨y, hy⟩ := Nat.gcd_dvd_right m L
    have hdp : 0 < m.gcd L := Nat.gcd_pos_of_pos_right _ hB.1
    have h2 : L / m.gcd L = y := Nat.div_eq_of_eq_mul_right hdp hy
    rw [h2]
    have e := key q hq
    rw [hk] at e
    generalize hD : m.gcd L = D at *
    -- num * (D y) = (D x) k g den
    have e2 : D * (q.num.natAbs * y) = D * (x * k * g * q.den) := by
      rw [hy, hx] at e
      calc D * (q.num.natAbs * y) = q.num.natAbs * (D * y) := by grind
        _ = _ := e
        _ = D * (x * k * g * q.den) := by grind
    have e3 := Nat.eq_of_mul_eq_mul_left hdp e2
    have cop : Nat.Coprime q.den q.num.natAbs := Nat.Coprime.symm q.reduced
    exact cop.dvd_of_dvd_mul_left ⟨x * k * g, by rw [e3]; grind⟩
  have h5 : m * g ∣ g := by
    refine hT.2 (m * g) fun q hq => ?_
    obtain ⟨k, hk⟩ := hm q hq
    have e := key q hq
    rw [hk] at e
    have cop : Nat.Coprime (m * g) L := Nat.Coprime.mul_left hd1 cgl
    exact cop.dvd_of_dvd_mul_right ⟨k * q.den, by rw [e]; grind⟩
  have h6 := Nat.le_of_dvd g0 h5
  have h7 : 0 < m * g := Nat.pos_of_dvd_of_pos h5 g0
  have h8 : 0 < m := by
    rcases Nat.eq_zero_or_pos m with z | z
    · subst z; simp at h7
    · exact z
  have h9 : m * g ≤ 1 * g := by omega
  have := Nat.le_of_mul_le_mul_right h9 g0
  omega
theorem rd_L_is_measure {K : PySem.W.Frag} {C : CA} {vs : List V} {H : Hp} {Q : VK} {E : XK} (h : sp_L_is_measure K C vs H Q E) : t_L_is_measure K C { nx := fun _ H' => Q .non H', rt := Q } (start N_L_is_measure vs) H := by
  obtain ⟨v, w, g, L, qs, rfl, hv, hw, hT, hB, ne, pos, hb, q⟩ := h
  obtain ⟨a, ts, rfl, ha, hta⟩ := hv.tup_at
  obtain ⟨b, xs, rfl, hx, hl⟩ := hw.tup_at
  have hxl : xs.length = qs.length := by rw [hl.length, List.length_map]
  obtain ⟨t1, t2, rfl⟩ : ∃ x y, ts = [x, y] := by
    match ts, hta with
    | [x, y], _ => exact ⟨x, y, rfl⟩
  simp only [ImL, Im] at hta
  obtain ⟨rfl, rfl, _⟩ := hta
  have g0 := top_pos hT ne pos
  have L0 := hB.1
  have cgl := measure_cop hT hB
  obtain ⟨q0, hq0⟩ : ∃ q, q ∈ qs := by
    cases qs with
    | nil => exact absurd rfl ne
    | cons z zs => exact ⟨z, List.mem_cons_self⟩
  have g88 : g < 2 ^ 88 := by
    have h1 := Nat.le_of_dvd (by have := pos q0 hq0; omega) (hT.1 q0 hq0)
    have h2 := hb.2.2 q0 hq0
    omega
  have L48 : L < 2 ^ 48 := by
    obtain ⟨_, ⟨M, ⟨h2, h2'⟩, h3⟩, _⟩ := hb
    exact Nat.lt_of_le_of_lt (Nat.le_of_dvd h2 (hB.2.2 M h2')) h3
  have gL : g * L < 2 ^ 598 := Nat.lt_trans (Nat.mul_lt_mul'' g88 L48) (by rw [← Nat.pow_add]; decide)
  unfold t_L_is_measure
  walk_at "go"
  refine ite_nd (fun h => (h rfl).elim) (fun _ => ?_)
  walk_at "go"
  refine ite_d (fun h => absurd h (by omega)) (fun _ => ?_)
  walk_at "go"
  refine ite_d (fun h => absurd h (by omega)) (fun _ => ?_)
  walk_at "go"
  refine ⟨(g : Nat), (L : Nat), rfl, by rw [Int.natAbs_natCast, Int.natAbs_natCast]; exact gL, ?_⟩
  rw [Int.natAbs_natCast, Int.natAbs_natCast, cgl]
  walk_at "go"
  refine ite_nd (fun h => (h rfl).elim) (fun _ => ?_)
  walk_at "go"
  refine forT_of hx (fun i σ H' => Same H H' ∧ ∃ (s : Nat) (x y z : Option V), σ = [some (.ref a), some (.ref b), some (.int (s : Nat)), x, y, z] ∧ s < 2 ^ 136 ∧ (∀ r ∈ qs.take i, s ∣ (r.num.natAbs / g) * (L / r.den)) ∧ (∀ m, (∀ r ∈ qs.take i, m ∣ (r.num.natAbs / g) * (L / r.den)) → m ∣ s)) (fun _ _ => False)
    ⟨Same.refl _, 0, none, none, none, rfl, by decide, by simp, fun m _ => Nat.dvd_zero m⟩ (fun i σ H' p b ys e => p.1 _ _ e) ?_ ?_ (fun _ _ h => h.elim)
  · rintro i x σ H' N B hxi ⟨s, sh, y1, y2, y3, rfl, hs, h1, h2⟩ hN hB'
    obtain ⟨e, he, hi⟩ := hl.get hxi
    obtain ⟨r, hr, rfl⟩ := get_frs he
    have hrm : r ∈ qs := List.mem_of_getElem? hr
    obtain ⟨c, rfl, hc⟩ := (sm_im s hi).fr_at
    have hrd : 0 < r.den := Nat.pos_of_ne_zero r.den_nz
    have rn88 := hb.2.2 r hrm
    have rpos := pos r hrm
    have rd48 : r.den < 2 ^ 48 := Nat.lt_of_le_of_lt (Nat.le_of_dvd L0 (hB.2.1 r hrm)) L48
    walk_at "go"
    have l1 : r.den * g < 2 ^ 299 := Nat.lt_trans (Nat.mul_lt_mul'' rd48 g88) (by rw [← Nat.pow_add]; decide)
    have l2 : (r.num * (L : Int)).natAbs < 2 ^ 299 := by
      rw [Int.natAbs_mul, Int.natAbs_natCast]
      exact Nat.lt_trans (Nat.mul_lt_mul'' rn88 L48) (by rw [← Nat.pow_add]; decide)
    refine ⟨r.num * (L : Int), r.den * g, by simp, Nat.mul_pos hrd g0, l1, l2, fun z H2 s2 hz => ?_⟩
    obtain ⟨A, hA⟩ := hT.1 r hrm
    obtain ⟨Bb, hBb⟩ := hB.2.1 r hrm
    have en : (r.num.natAbs / g) * (L / r.den) = A * Bb := by
      rw [hA, Nat.mul_div_cancel_left _ g0, hBb, Nat.mul_div_cancel_left _ hrd]
    have ez : mkRat (r.num * (L : Int)) (r.den * g) = (((A * Bb : Nat) : Int) : Rat) := by
      have e1 : r.num = (g : Int) * (A : Int) := by
        have : r.num = (r.num.natAbs : Int) := by omega
        rw [this, hA]; push_cast; rfl
      rw [e1, hBb, show (g : Int) * (A : Int) * ((r.den * Bb : Nat) : Int) = ((r.den * g : Nat) : Int) * ((A * Bb : Nat) : Int) by push_cast; grind]
      have := Rat.mkRat_mul_left (n := ((A * Bb : Nat) : Int)) (d := 1) (a := r.den * g) (by have := Nat.mul_pos hrd g0; omega)
      rw [Nat.mul_one] at this
      rw [this, Rat.mkRat_one]
    rw [ez] at hz
    obtain ⟨zz, rfl, hzz⟩ := hz.fr_at
    rw [show (((A * Bb : Nat) : Int) : Rat).num = ((A * Bb : Nat) : Int) from rfl, show (((A * Bb : Nat) : Int) : Rat).den = 1 from rfl] at hzz
    have hAB : A * Bb < 2 ^ 136 := by
      have a1 : A ≤ r.num.natAbs := Nat.le_of_dvd (by omega) ⟨g, by rw [hA]; exact Nat.mul_comm _ _⟩
      have b1 : Bb ≤ L := Nat.le_of_dvd L0 ⟨r.den, by rw [hBb]; exact Nat.mul_comm _ _⟩
      exact Nat.lt_of_lt_of_le (Nat.mul_lt_mul'' (Nat.lt_of_le_of_lt a1 rn88) (Nat.lt_of_le_of_lt b1 L48)) (by rw [← Nat.pow_add]; exact Nat.le_refl _)
    have fin : ∀ (s' : Nat) (σ' : St), s' = sh.gcd (A * Bb) → σ' = [some (.ref a), some (.ref b), some (.int (s' : Nat)), some (.int r.num), some (.int (r.den : Nat)), some (.ref zz)] → N σ' H2 := by
      rintro s' σ' rfl rfl
      refine hN _ _ ⟨s.trans s2, _, _, _, _, rfl, ?_, ?_, ?_⟩
      · rcases Nat.eq_zero_or_pos (A * Bb) with z | z
        · rw [z, Nat.gcd_zero_right]; exact hs
        · exact Nat.lt_of_le_of_lt (Nat.le_of_dvd z (Nat.gcd_dvd_right _ _)) hAB
      · intro t ht
        rw [List.take_add_one, hr] at ht
        rcases List.mem_append.mp ht with ht | ht
        · exact Nat.dvd_trans (Nat.gcd_dvd_left _ _) (h1 t ht)
        · have e : t = r := by simpa using ht
          subst e
          rw [en]
          exact Nat.gcd_dvd_right _ _
      · intro m hm
        rw [List.take_add_one, hr] at hm
        refine Nat.dvd_gcd (h2 m fun t ht => hm t (List.mem_append_left _ ht)) ?_
        have := hm r (List.mem_append_right _ (by simp))
        rwa [en] at this
    walk_at "go"
    refine ite_nd (fun h => (h rfl).elim) (fun _ => ?_)
    walk_at "go"
    refine ite_d (fun hsh => ?_) (fun hsh => ?_)
    · have sh0 : sh = 0 := by injection hsh with e; omega
      walk_at "go"
      exact fin _ _ rfl (by rw [sh0, Nat.gcd_zero_left]; rfl)
    · walk_at "go"
      refine ⟨(sh : Nat), (((A * Bb : Nat) : Int)), rfl, ?_, ?_⟩
      · rw [Int.natAbs_natCast, Int.natAbs_natCast]
        exact Nat.lt_trans (Nat.mul_lt_mul'' hs hAB) (by rw [← Nat.pow_add]; decide)
      · rw [Int.natAbs_natCast, Int.natAbs_natCast]
        exact fin _ _ rfl rfl
  · rintro σ H' ⟨s, sh, y1, y2, y3, rfl, hs, h1, h2⟩
    rw [hxl, List.take_length] at h1 h2
    have e := measure_one hT hB ne pos h1
    subst e
    walk_at "go"
    exact q H' s

theorem sc_L_is_measure : FnScope N_L_is_measure ["_law_told", "_law_sums_here"] (defScope s_L_is_measure) := ⟨rfl, rfl, rfl, by decide +kernel, rfl, by decide +kernel, by decide +kernel⟩
theorem ok_L_is_measure {P : Program} {w : World} {K : PySem.W.Frag} {mg : Str → Option Value} {base : Heap} {C : CA} {f : Addr} {fd : FuncData} (T : CT K C) (B : Bi mg C) (F : Fun K "_law_is_measure" "_law_is_measure" s_L_is_measure f fd) (D_L_common : Okd P w K mg base 1 "_law_common" ["_law_one", "_law_other"] (sp_L_common K C)) (D_L_fraction : Okd P w K mg base 2 "_law_fraction" ["_law_top", "_law_bottom"] (sp_L_fraction K C)) : FnOk P w K mg base CX0 3 f fd ["_law_told", "_law_sums_here"] (sp_L_is_measure K C) := by
  refine F.ok sc_L_is_measure (fun vs H Q E h => ?_) (fun cdv A outer s H vs Q E hr h => ⟨t_L_is_measure K C, ?_, rd_L_is_measure h⟩)
  · obtain ⟨_, _, _, _, _, rfl, _⟩ := h
    rfl
  · exact (pss_cons (ps_if (PW.pt (pw_or (pt_not (pt_val (pe_callB call_isi (by rfl) B.b_isinstance bt_isinstance (pa_cons (pv 0) (pa_cons (pe_bltn (v := .ty "tuple") (by rfl) B.b_tuple bt_tuple rfl) pa_nil))))) (pw_or (pt_cmpR op_ne (pe_callB call_len (by rfl) B.b_len bt_len (pa_cons (pv 0) pa_nil)) pe_int (nomark _)) (pw_or (pt_val (pe_callB call_isi (by rfl) B.b_isinstance bt_isinstance (pa_cons (pe_ix ix_tup (pv 0) pe_int (fun _ _ => rfl)) (pa_cons (pe_bltn (v := .ty "bool") (by rfl) B.b_bool bt_bool rfl) pa_nil)))) (pw_or (pt_cmpR op_le (pe_ix ix_tup (pv 0) pe_int (fun _ _ => rfl)) pe_int (nomark _)) (pw_or1 (pt_cmpR op_le (pe_ix ix_tup (pv 0) pe_int (fun _ _ => rfl)) pe_int (nomark _)))))))) (pss_one (ps_ret pe_bl)) pss_nil) (pss_cons (ps_if (pt_cmpR op_ne (pe_callD D_L_common (hr.mono (by decide)) (pa_cons (pe_ix ix_tup (pv 0) pe_int (fun _ _ => rfl)) (pa_cons (pe_ix ix_tup (pv 0) pe_int (fun _ _ => rfl)) pa_nil))) pe_int (nomark _)) (pss_one (ps_ret pe_bl)) pss_nil) (pss_cons (ps_set (i := 2) sc_L_is_measure.nd rfl (Or.inl rfl) pe_int) (pss_cons (ps_for PassesOwn.never rfl (pi_tup (pv 1)) (pg_tup rfl (pgs_cons (pg_name (i := 3) sc_L_is_measure.nd rfl (Or.inl rfl)) (pgs_cons (pg_name (i := 4) sc_L_is_measure.nd rfl (Or.inl rfl)) pgs_nil))) (pss_cons (ps_set (i := 5) sc_L_is_measure.nd rfl (Or.inl rfl) (pe_callD D_L_fraction (hr.mono (by decide)) (pa_cons (pe_op op_mulA (pv 3) (pe_ix ix_tup (pv 0) pe_int (fun _ _ => rfl))) (pa_cons (pe_op op_mulA (pv 4) (pe_ix ix_tup (pv 0) pe_int (fun _ _ => rfl))) pa_nil)))) (pss_cons (ps_if (pt_cmpR op_ne (pe_ix ix_tup (pv 5) pe_int (fun _ _ => rfl)) pe_int (nomark _)) (pss_one (ps_ret pe_bl)) pss_nil) (pss_one (ps_set (i := 2) sc_L_is_measure.nd rfl (Or.inl rfl) (pe_ifExp (pt_cmpR op_eq (pv 2) pe_int (nomark _)) (pe_ix ix_tup (pv 5) pe_int (fun _ _ => rfl)) (pe_callD D_L_common (hr.mono (by decide)) (pa_cons (pv 2) (pa_cons (pe_ix ix_tup (pv 5) pe_int (fun _ _ => rfl)) pa_nil))))))))) (pss_one (ps_ret (pe_cmpR op_eq (pv 2) pe_int (nomark _))))))))

/-! ### is_integer -/
abbrev s_is_integer : Stmt := top 2
def sp_is_integer (K : PySem.W.Frag) (C : CA) : Sp := fun vs H Q _ => ∃ i : Int, vs = [.int i] ∧ Q (.bl true) H

@[reducible] def N_is_integer : List Str := ["thing"]
def t_is_integer (K : PySem.W.Frag) (C : CA) : TS :=
  (tRet (tAndV (tCB (rIsi K) (tCons (tVar 0) (tCons (tC (.ty "int")) tNil))) (tNotV (tCB (rIsi K) (tCons (tVar 0) (tCons (tC (.ty "bool")) tNil))))))

theorem rd_is_integer {K : PySem.W.Frag} {C : CA} {vs : List V} {H : Hp} {Q : VK} {E : XK} (h : sp_is_integer K C vs H Q E) : t_is_integer K C { nx := fun _ H' => Q .non H', rt := Q } (start N_is_integer vs) H := by
  obtain ⟨i, rfl, q⟩ := h
  unfold t_is_integer
  walk_at "go"
  exact q

theorem sc_is_integer : FnScope N_is_integer ["thing"] (defScope s_is_integer) := ⟨rfl, rfl, rfl, by decide +kernel, rfl, by decide +kernel, by decide +kernel⟩
theorem ok_is_integer {P : Program} {w : World} {K : PySem.W.Frag} {mg : Str → Option Value} {base : Heap} {C : CA} {f : Addr} {fd : FuncData} (T : CT K C) (B : Bi mg C) (F : Fun K "is_integer" "is_integer" s_is_integer f fd)  : FnOk P w K mg base CX0 1 f fd ["thing"] (sp_is_integer K C) := by
  refine F.ok sc_is_integer (fun vs H Q E h => ?_) (fun cdv A outer s H vs Q E hr h => ⟨t_is_integer K C, ?_, rd_is_integer h⟩)
  · obtain ⟨_, rfl, _⟩ := h
    rfl
  · exact (pss_one (ps_ret (pe_and (pe_callB call_isi (by rfl) B.b_isinstance bt_isinstance (pa_cons (pv 0) (pa_cons (pe_bltn (v := .ty "int") (by rfl) B.b_int bt_int rfl) pa_nil))) (pe_one (pe_not (pe_callB call_isi (by rfl) B.b_isinstance bt_isinstance (pa_cons (pv 0) (pa_cons (pe_bltn (v := .ty "bool") (by rfl) B.b_bool bt_bool rfl) pa_nil))))))))

/-! ### is_fraction -/
abbrev s_is_fraction : Stmt := top 4
def sp_is_fraction (K : PySem.W.Frag) (C : CA) : Sp := fun vs H Q _ => ∃ (v : V) (r : Rat), vs = [v] ∧ Im H v (fr r) ∧ Q (.bl true) H

@[reducible] def N_is_fraction : List Str := ["thing", "top", "bottom"]
def t_is_fraction (K : PySem.W.Frag) (C : CA) : TS :=
  (tSeq (tIfS (tOr (tNot (tB (tCB (rIsi K) (tCons (tVar 0) (tCons (tC (.ty "tuple")) tNil))))) (tTest (tOp rNe (tCB (cLen K) (tCons (tVar 0) tNil)) (tC (.int 2))))) (tRet (tC (.bl false))) tNext) (tSeq (tAsg (tVar 0) (gTup K 2 (gCons (gName 1) (gCons (gName 2) gNil)))) (tSeq (tIfS (tOr (tNot (tB (tCall (sp_is_integer K C) [] E0 (tCons (tVar 1) tNil)))) (tNot (tB (tCall (sp_is_integer K C) [] E0 (tCons (tVar 2) tNil))))) (tRet (tC (.bl false))) tNext) (tRet (tAndV (tOp oGt (tVar 2) (tC (.int 0))) (tOp rEq (tCB rGcd (tCons (tVar 1) (tCons (tVar 2) tNil))) (tC (.int 1))))))))

theorem rd_is_fraction {K : PySem.W.Frag} {C : CA} {vs : List V} {H : Hp} {Q : VK} {E : XK} (h : sp_is_fraction K C vs H Q E) : t_is_fraction K C { nx := fun _ H' => Q .non H', rt := Q } (start N_is_fraction vs) H := by
  obtain ⟨v, r, rfl, hv, q⟩ := h
  obtain ⟨a, rfl, ha⟩ := hv.fr_at
  have hr : 0 < r.den := Nat.pos_of_ne_zero r.den_nz
  unfold t_is_fraction
  walk_at "go"
  refine ite_nd (fun h => (h rfl).elim) (fun _ => ?_)
  walk_at "go"
  refine ⟨r.num, rfl, ?_⟩
  walk_at "go"
  refine ⟨r.den, rfl, ?_⟩
  walk_at "go"
  refine ite_d (fun h => ?_) (fun h => absurd h (by omega))
  walk_at "go"
  rw [Int.natAbs_natCast, show r.num.natAbs.gcd r.den = 1 from r.reduced]
  exact q

theorem sc_is_fraction : FnScope N_is_fraction ["thing"] (defScope s_is_fraction) := ⟨rfl, rfl, rfl, by decide +kernel, rfl, by decide +kernel, by decide +kernel⟩
theorem ok_is_fraction {P : Program} {w : World} {K : PySem.W.Frag} {mg : Str → Option Value} {base : Heap} {C : CA} {f : Addr} {fd : FuncData} (T : CT K C) (B : Bi mg C) (F : Fun K "is_fraction" "is_fraction" s_is_fraction f fd) (D_is_integer : Okd P w K mg base 1 "is_integer" ["thing"] (sp_is_integer K C)) : FnOk P w K mg base CX0 2 f fd ["thing"] (sp_is_fraction K C) := by
  refine F.ok sc_is_fraction (fun vs H Q E h => ?_) (fun cdv A outer s H vs Q E hr h => ⟨t_is_fraction K C, ?_, rd_is_fraction h⟩)
  · obtain ⟨_, _, rfl, _⟩ := h
    rfl
  · exact (pss_cons (ps_if (PW.pt (pw_or (pt_not (pt_val (pe_callB call_isi (by rfl) B.b_isinstance bt_isinstance (pa_cons (pv 0) (pa_cons (pe_bltn (v := .ty "tuple") (by rfl) B.b_tuple bt_tuple rfl) pa_nil))))) (pw_or1 (pt_cmpR op_ne (pe_callB call_len (by rfl) B.b_len bt_len (pa_cons (pv 0) pa_nil)) pe_int (nomark _))))) (pss_one (ps_ret pe_bl)) pss_nil) (pss_cons (ps_asg (pv 0) (pg_tup rfl (pgs_cons (pg_name (i := 1) sc_is_fraction.nd rfl (Or.inl rfl)) (pgs_cons (pg_name (i := 2) sc_is_fraction.nd rfl (Or.inl rfl)) pgs_nil)))) (pss_cons (ps_if (PW.pt (pw_or (pt_not (pt_val (pe_callD D_is_integer (hr.mono (by decide)) (pa_cons (pv 1) pa_nil)))) (pw_or1 (pt_not (pt_val (pe_callD D_is_integer (hr.mono (by decide)) (pa_cons (pv 2) pa_nil))))))) (pss_one (ps_ret pe_bl)) pss_nil) (pss_one (ps_ret (pe_and (pe_cmpR op_gt (pv 2) pe_int (nomark _)) (pe_one (pe_cmpR op_eq (pe_callBfun cr_gcd rfl B.g_gcd (pa_cons (pv 1) (pa_cons (pv 2) pa_nil))) pe_int (nomark _)))))))))

/-! ### is_amount -/
abbrev s_is_amount : Stmt := top 5
def sp_is_amount (K : PySem.W.Frag) (C : CA) : Sp := fun vs H Q _ => ∃ (v : V) (r : Rat), vs = [v] ∧ Im H v (fr r) ∧ 0 < r.num ∧ Q (.bl true) H

@[reducible] def N_is_amount : List Str := ["thing"]
def t_is_amount (K : PySem.W.Frag) (C : CA) : TS :=
  (tRet (tAndV (tCall (sp_is_fraction K C) [] E0 (tCons (tVar 0) tNil)) (tOp oGt (tOp (rIxT K) (tVar 0) (tC (.int 0))) (tC (.int 0)))))

theorem rd_is_amount {K : PySem.W.Frag} {C : CA} {vs : List V} {H : Hp} {Q : VK} {E : XK} (h : sp_is_amount K C vs H Q E) : t_is_amount K C { nx := fun _ H' => Q .non H', rt := Q } (start N_is_amount vs) H := by
  obtain ⟨v, r, rfl, hv, hp, q⟩ := h
  obtain ⟨a, rfl, ha⟩ := hv.fr_at
  unfold t_is_amount
  walk_at "go"
  refine ⟨_, r, rfl, hv, ?_⟩
  walk_at "go"
  rw [decide_eq_true hp]
  exact q

theorem sc_is_amount : FnScope N_is_amount ["thing"] (defScope s_is_amount) := ⟨rfl, rfl, rfl, by decide +kernel, rfl, by decide +kernel, by decide +kernel⟩
theorem ok_is_amount {P : Program} {w : World} {K : PySem.W.Frag} {mg : Str → Option Value} {base : Heap} {C : CA} {f : Addr} {fd : FuncData} (T : CT K C) (B : Bi mg C) (F : Fun K "is_amount" "is_amount" s_is_amount f fd) (D_is_fraction : Okd P w K mg base 2 "is_fraction" ["thing"] (sp_is_fraction K C)) : FnOk P w K mg base CX0 3 f fd ["thing"] (sp_is_amount K C) := by
  refine F.ok sc_is_amount (fun vs H Q E h => ?_) (fun cdv A outer s H vs Q E hr h => ⟨t_is_amount K C, ?_, rd_is_amount h⟩)
  · obtain ⟨_, _, rfl, _⟩ := h
    rfl
  · exact (pss_one (ps_ret (pe_and (pe_callD D_is_fraction (hr.mono (by decide)) (pa_cons (pv 0) pa_nil)) (pe_one (pe_cmpR op_gt (pe_ix ix_tup (pv 0) pe_int (fun _ _ => rfl)) pe_int (nomark _))))))

/-! ### _is_side -/
abbrev s_q_is_side : Stmt := top 17
def sp_q_is_side (K : PySem.W.Frag) (C : CA) : Sp := fun vs H Q _ => ∃ (v : V) (qs : List Rat), vs = [v] ∧ Im H v (.tuple (qs.map fr)) ∧ 1 ≤ qs.length ∧ qs.length ≤ 100 ∧ (∀ q ∈ qs, 0 < q.num) ∧ ∀ H', Same H H' → Q (.bl true) H'

@[reducible] def N_q_is_side : List Str := ["thing", "amount"]
def t_q_is_side (K : PySem.W.Frag) (C : CA) : TS :=
  (tSeq (tIfS (tOr (tNot (tB (tCB (rIsi K) (tCons (tVar 0) (tCons (tC (.ty "tuple")) tNil))))) (tNot (tTest (tChain oLe oLe (tC (.int 1)) (tCB (cLen K) (tCons (tVar 0) tNil)) (tC (.int 100)))))) (tRet (tC (.bl false))) tNext) (tRet (tCB (rAll K) (tCons (tLc (iTup K (tVar 0)) (gName 1) tYes (tCall (sp_is_amount K C) [] E0 (tCons (tVar 1) tNil)) [1]) tNil))))

theorem im_trues {H : Hp} : ∀ {ys : List V} {es : List PyData}, ImL H ys (es.map fun _ => PyData.bool true) → ys = (es.map fun _ => true).map V.bl
  | [], [], _ => rfl
  | y :: ys, e :: es, h => by
    simp only [List.map_cons, ImL, Im] at h
    simp only [List.map_cons]
    rw [h.1, im_trues h.2]
  | [], _ :: _, h => by simp [ImL] at h
  | _ :: _, [], h => by simp [ImL] at h
theorem rd_q_is_side {K : PySem.W.Frag} {C : CA} {vs : List V} {H : Hp} {Q : VK} {E : XK} (h : sp_q_is_side K C vs H Q E) : t_q_is_side K C { nx := fun _ H' => Q .non H', rt := Q } (start N_q_is_side vs) H := by
  obtain ⟨v, qs, rfl, hv, h1, h2, hp, q⟩ := h
  obtain ⟨a, xs, rfl, ha, hl⟩ := hv.tup_at
  have hxl : xs.length = qs.length := by rw [hl.length, List.length_map]
  unfold t_q_is_side
  walk_at "go"
  refine ite_d (fun h => ?_) (fun h => absurd (show (1 : Int) ≤ xs.length by omega) h)
  walk_at "go"
  rw [show decide ((xs.length : Int) ≤ 100) = true from decide_eq_true (by omega)]
  walk_at "go"
  refine lcT_of (es := qs.map fr) (fun _ => .bool true) ha hl (by rw [List.length_map]; exact small1000 (by omega)) (fun e x H3 N he s3 hx hN => ?_) (fun D H3 ys hD s3 e3 hy => ?_)
  · obtain ⟨r, hr, rfl⟩ := mem_frs he
    walk_at "go"
    refine ⟨rfl, ?_⟩
    walk_at "go"
    exact ⟨x, r, rfl, hx, hp r hr, hN _ _ (Same.refl _) (by simp [Im])⟩
  · rw [im_trues hy] at e3
    walk_at "go"
    refine i_rall e3 ?_
    rw [show ((List.map fr qs).map fun _ => true).all id = true by simp]
    exact q _ s3

theorem sc_q_is_side : FnScope N_q_is_side ["thing"] (defScope s_q_is_side) := ⟨rfl, rfl, rfl, by decide +kernel, rfl, by decide +kernel, by decide +kernel⟩
theorem ok_q_is_side {P : Program} {w : World} {K : PySem.W.Frag} {mg : Str → Option Value} {base : Heap} {C : CA} {f : Addr} {fd : FuncData} (T : CT K C) (B : Bi mg C) (F : Fun K "_is_side" "_is_side" s_q_is_side f fd) (D_is_amount : Okd P w K mg base 3 "is_amount" ["thing"] (sp_is_amount K C)) : FnOk P w K mg base CX0 4 f fd ["thing"] (sp_q_is_side K C) := by
  refine F.ok sc_q_is_side (fun vs H Q E h => ?_) (fun cdv A outer s H vs Q E hr h => ⟨t_q_is_side K C, ?_, rd_q_is_side h⟩)
  · obtain ⟨_, _, rfl, _⟩ := h
    rfl
  · exact (pss_cons (ps_if (PW.pt (pw_or (pt_not (pt_val (pe_callB call_isi (by rfl) B.b_isinstance bt_isinstance (pa_cons (pv 0) (pa_cons (pe_bltn (v := .ty "tuple") (by rfl) B.b_tuple bt_tuple rfl) pa_nil))))) (pw_or1 (pt_not (pt_chain op_le op_le pe_int (pe_callB call_len (by rfl) B.b_len bt_len (pa_cons (pv 0) pa_nil)) (pe_glob rfl B.g_MOST_SUMS.choose_spec.1 B.g_MOST_SUMS.choose_spec.2)))))) (pss_one (ps_ret pe_bl)) pss_nil) (pss_one (ps_ret (pe_callB (cr_all rfl) (by rfl) B.b_all bt_all (pa_cons (pe_lc (own := [("amount", 1)]) (g := (gName 1)) (tt := tYes) rfl sc_q_is_side.nd (pi_tup (pv 0)) (blkOk_by (own := [("amount", 1)]) (N := N_q_is_side) (sc := defScope s_q_is_side) (by decide +kernel)) (fun _ _ _ _ _ => (pg_name (i := 1) sc_q_is_side.nd rfl (Or.inl rfl))) (fun _ _ _ _ _ => pts_nil) (fun _ _ _ _ _ => (pe_callD D_is_amount (hr.mono (by decide)) (pa_cons (pv 1) pa_nil)))) pa_nil)))))

/-! ### Evening.__init__ -/
abbrev s_Eveningu_initu : Stmt := inClass (top 16) 0
def sp_Eveningu_initu (K : PySem.W.Frag) (C : CA) : Sp := fun vs H Q _ => ∃ (p dx : Addr) (vo vd : V) (o d : List Rat), vs = [.ref p, vo, vd] ∧ H p = some (.ins C.Evening dx []) ∧ Im H vo (.tuple (o.map fr)) ∧ Im H vd (.tuple (d.map fr)) ∧
  o.length ≤ 100 ∧ d.length ≤ 100 ∧ Drawn 1000 o d ∧ Bd 8000 o ∧ Bd 8000 d ∧ ∀ H', (∀ b x, b ≠ p → H b = some x → H' b = some x) → H' p = some (.ins C.Evening dx [("owed", vo), ("due", vd)]) → Q .non H'

@[reducible] def N_Eveningu_initu : List Str := ["self", "owed", "due"]
def t_Eveningu_initu (K : PySem.W.Frag) (C : CA) : TS :=
  (tSeq (tIfS (tNot (tB (tCall (sp_q_is_side K C) [] E0 (tCons (tVar 1) tNil)))) tNever tNext) (tSeq (tIfS (tNot (tB (tCall (sp_q_is_side K C) [] E0 (tCons (tVar 2) tNil)))) tNever tNext) (tSeq (tIfS (tTest (tOp (rNeD K) (tCall (sp_added K C) [] E0 (tCons (tVar 1) tNil)) (tCall (sp_added K C) [] E0 (tCons (tVar 2) tNil)))) tNever tNext) (tSeq (sFld K (tVar 0) (tVar 1) "owed") (sFld K (tVar 0) (tVar 2) "due")))))

theorem rd_Eveningu_initu {K : PySem.W.Frag} {C : CA} (T : CT K C) {vs : List V} {H : Hp} {Q : VK} {E : XK} (h : sp_Eveningu_initu K C vs H Q E) : t_Eveningu_initu K C { nx := fun _ H' => Q .non H', rt := Q } (start N_Eveningu_initu vs) H := by
  obtain ⟨p, dx, vo, vd, o, d, rfl, hp, ho, hd, lo, ld, ⟨h1, h2, h3, h4, hs, po, pd, hb⟩, bo, bd, q⟩ := h
  unfold t_Eveningu_initu
  walk_at "go"
  refine ⟨vo, o, rfl, ho, h1, lo, po, fun H1 s1 => ?_⟩
  walk_at "go"
  walk_at "go"
  refine ⟨vd, d, rfl, sm_im s1 hd, h3, ld, pd, fun H2 s2 => ?_⟩
  walk_at "go"
  refine ⟨vo, o, rfl, by walk_at "keep", bo, fun w1 H3 s3 e3 => ?_⟩
  walk_at "go"
  refine ⟨vd, d, rfl, by walk_at "keep", bd, fun w2 H4 s4 e4 => ?_⟩
  refine i_neD (d := fr o.sum) (e := fr d.sum) (by walk_at "keep") e4 (fr_shaped _) (fr_shaped _) ?_
  rw [hs, eqv_fr, decide_eq_true rfl]
  walk_at "go"
  have hp4 : H4 p = some (.ins C.Evening dx []) := by walk_at "keep"
  refine ⟨_, rfl, _, rfl, p, C.Evening, dx, [], rfl, hp4, T.cl, T.nO, by decide, ?_⟩
  walk_at "go"
  refine ⟨_, rfl, _, rfl, p, C.Evening, dx, _, rfl, upd_same, T.cl, T.nD, (by show (1 : Nat) < 1000; decide), ?_⟩
  refine q _ (fun b x hb hx => ?_) ?_
  · rw [upd_ne hb, upd_ne hb]
    exact s4 _ _ (s3 _ _ (s2 _ _ (s1 _ _ hx)))
  · rw [upd_same]
    rfl

theorem sc_Eveningu_initu : FnScope N_Eveningu_initu ["self", "owed", "due"] (defScope s_Eveningu_initu) := ⟨rfl, rfl, rfl, by decide +kernel, rfl, by decide +kernel, by decide +kernel⟩
theorem ok_Eveningu_initu {P : Program} {w : World} {K : PySem.W.Frag} {mg : Str → Option Value} {base : Heap} {C : CA} {f : Addr} {fd : FuncData} (T : CT K C) (B : Bi mg C) (F : Fun K "__init__" "Evening.__init__" s_Eveningu_initu f fd) (D_added : Okd P w K mg base 2 "added" ["fractions"] (sp_added K C)) (D_q_is_side : Okd P w K mg base 4 "_is_side" ["thing"] (sp_q_is_side K C)) : FnOk P w K mg base CX0 5 f fd ["self", "owed", "due"] (sp_Eveningu_initu K C) := by
  refine F.ok sc_Eveningu_initu (fun vs H Q E h => ?_) (fun cdv A outer s H vs Q E hr h => ⟨t_Eveningu_initu K C, ?_, rd_Eveningu_initu T h⟩)
  · obtain ⟨_, _, _, _, _, _, rfl, _⟩ := h
    rfl
  · exact (pss_cons (ps_if (pt_not (pt_val (pe_callD D_q_is_side (hr.mono (by decide)) (pa_cons (pv 1) pa_nil)))) (pss_one ps_never) pss_nil) (pss_cons (ps_if (pt_not (pt_val (pe_callD D_q_is_side (hr.mono (by decide)) (pa_cons (pv 2) pa_nil)))) (pss_one ps_never) pss_nil) (pss_cons (ps_if (pt_cmpR (op_neD hr.units) (pe_callD D_added (hr.mono (by decide)) (pa_cons (pv 1) pa_nil)) (pe_callD D_added (hr.mono (by decide)) (pa_cons (pv 2) pa_nil)) (nomark _)) (pss_one ps_never) pss_nil) (pss_cons (ps_fld (pv 0) (pv 1) rfl) (pss_one (ps_fld (pv 0) (pv 2) rfl))))))

/-! ### law -/
abbrev s_law : Stmt := top 37
def sp_law (K : PySem.W.Frag) (C : CA) : Sp := fun vs H Q _ => ∃ (a : Addr) (ns : List Int), vs = [.ref a] ∧ SqL K H a (ns.map V.int) ∧ ns.length ≤ 63 ∧ ∀ H', Q (.bl true) H'

@[reducible] def N_law : List Str := ["_law_script", "_law_hand_here", "_law_turn", "_law_owed", "_law_due", "_law_evening"]
def t_law (K : PySem.W.Frag) (C : CA) : TS :=
  (tSeq (tAsg (tCall (sp_L_hand K C) [] E0 (tCons (tVar 0) tNil)) (gName 1)) (tSeq (tFor (iRng1 (tCons (tC (.int 4)) tNil)) (gName 2) (tSeq (tAsg (tCall (sp_L_sums K C) [] E0 (tCons (tVar 1) (tCons (tOp (rIxL K) (tLst (tCons (tC (.int 6)) (tCons (tC (.int 6)) (tCons (tC (.int 6)) (tCons (tC (.int 100)) tNil))))) (tCall (sp_L_draw K C) [] E0 (tCons (tVar 1) (tCons (tC (.int 4)) tNil)))) (tCons (tOp (rIxL K) (tLst (tCons (tC (.int 9)) (tCons (tC (.int 60)) (tCons (tOp oPow (tC (.int 10)) (tC (.int 12))) tNil)))) (tCall (sp_L_draw K C) [] E0 (tCons (tVar 1) (tCons (tC (.int 3)) tNil)))) tNil)))) (gTup K 2 (gCons (gName 3) (gCons (gName 4) gNil)))) (tSeq (tAsg (tMake C.Evening (sp_Eveningu_initu K C) [] E0 (tCons (tVar 3) (tCons (tVar 4) tNil))) (gName 5)) (tSeq (tIfS (tOr (tTest (tOp (rNeD K) (tCall (sp_total K C) [] E0 (tCons (tVar 5) tNil)) (tCall (sp_L_sum K C) [] E0 (tCons (tVar 3) tNil)))) (tTest (tOp (rNeD K) (tCall (sp_total K C) [] E0 (tCons (tVar 5) tNil)) (tCall (sp_L_sum K C) [] E0 (tCons (tVar 4) tNil))))) (tRet (tC (.bl false))) tNext) (tSeq (tIfS (tOr (tTest (tOp rNe (tCall (sp_people K C) [] E0 (tCons (tVar 5) tNil)) (tOp oAdd (tCB (cLen K) (tCons (tVar 3) tNil)) (tCB (cLen K) (tCons (tVar 4) tNil))))) (tB (tCB (rIsi K) (tCons (tCall (sp_people K C) [] E0 (tCons (tVar 5) tNil)) (tCons (tC (.ty "bool")) tNil))))) (tRet (tC (.bl false))) tNext) (tIfS (tNot (tB (tCall (sp_L_is_measure K C) [] E0 (tCons (tCall (sp_measure K C) [] E0 (tCons (tVar 5) tNil)) (tCons (tOp (rCatA K) (tVar 3) (tVar 4)) tNil))))) (tRet (tC (.bl false))) tNext)))))) (tRet (tC (.bl true)))))

theorem rd_law {K : PySem.W.Frag} {C : CA} {vs : List V} {H : Hp} {Q : VK} {E : XK} (h : sp_law K C vs H Q E) : t_law K C { nx := fun _ H' => Q .non H', rt := Q } (start N_law vs) H := by
  obtain ⟨a, ns, rfl, hs, hn, q⟩ := h
  unfold t_law
  walk_at "go"
  refine ⟨a, ns, rfl, hs, hn, fun m c H1 s1 hm1 => ?_⟩
  walk_at "go"
  refine forR_of (n := 4) (fun i σ H' => Hand H' m c ∧ ∃ x y z w : Option V, σ = [some (.ref a), some (.ref m), x, y, z, w]) (fun _ _ => False) rfl (by decide)
    ⟨hm1, none, none, none, none, rfl⟩ ?_ ?_ (fun _ _ h => h.elim)
  · rintro i σ H2 N B hi ⟨hm2, x, y, z, w, rfl⟩ hN hB
    walk_at "go"
    rename_i l1 Hl1 nl1 sl1 el1
    refine ⟨m, c, 4, rfl, by walk_at "keep", by decide, by decide, fun d H3 d0 d1 kl3 hm3 => ?_⟩
    have nm1 : l1 ≠ m := (hand_ne nl1 hm2).1.symm
    obtain ⟨sd, es, ea⟩ := atI_ints (ns := [6, 6, 6, 100]) d0 (by simpa using d1)
    have hsd : 1 ≤ sd ∧ sd ≤ 100 := by
      have := List.mem_of_getElem? es
      simp only [List.mem_cons, List.not_mem_nil, or_false] at this
      omega
    refine i_ixL (by walk_at "keep") ea ?_
    walk_at "go"
    rename_i l2 Hl2 nl2 sl2 el2
    refine ⟨m, c, 3, rfl, by walk_at "keep", by decide, by decide, fun d2 H4 d20 d21 kl4 hm4 => ?_⟩
    have nm2 : l2 ≠ m := (hand_ne nl2 hm3).1.symm
    obtain ⟨mo, es2, ea2⟩ := atI_ints (ns := [9, 60, 1000000000000]) d20 (by simpa using d21)
    have hmo : 1 ≤ mo ∧ mo ≤ 1000000000000 := by
      have := List.mem_of_getElem? es2
      simp only [List.mem_cons, List.not_mem_nil, or_false] at this
      omega
    refine i_ixL (by walk_at "keep") ea2 ?_
    walk_at "go"
    refine ⟨m, c, sd.toNat, mo.toNat, by simp; omega, hm4, by omega, by omega, by omega, by omega, fun w1 va vb p o dd H5 kl5 hm5 hw hp hva hvb D => ?_⟩
    subst hw
    walk_at "go"
    refine makeO_of fun e dx H6 ne s6 e6 => ?_
    obtain ⟨D1, D2, D3, D4, D5, D6, D7, D8⟩ := id D
    have bo : Bs o := D8.sub (by have := D8.1; rw [List.length_append] at this; omega) fun q hq => List.mem_append_left _ hq
    have bd : Bs dd := D8.sub (by have := D8.1; rw [List.length_append] at this; omega) fun q hq => List.mem_append_right _ hq
    refine ⟨e, dx, va, vb, o, dd, rfl, e6, sm_im s6 hva, sm_im s6 hvb, by omega, by omega, ⟨D1, by omega, D3, by omega, D5, D6, D7, D8⟩, bo.bd, bd.bd, fun H7 k7 e7 => ⟨rfl, ?_⟩⟩
    have s7 : Same H5 H7 := fun b u hb => by
      refine k7 b u (ne_of_none hb ne) ?_
      exact s6 b u hb
    have ev : EvAt C H7 (.ref e) o dd := ⟨e, dx, va, vb, rfl, e7, sm_im s7 hva, sm_im s7 hvb⟩
    have im7a := sm_im s7 hva
    have im7b := sm_im s7 hvb
    have hm7 := sm_hand s7 hm5
    walk_at "go"
    refine ⟨_, o, dd, rfl, ev, bo.bd, fun x1 H8 s8 e8 => ?_⟩
    walk_at "go"
    refine ⟨va, o, rfl, by walk_at "keep", bo, fun x2 H9 s9 e9 => ?_⟩
    refine i_neD (d := fr o.sum) (e := fr o.sum) (by walk_at "keep") e9 (fr_shaped _) (fr_shaped _) ?_
    rw [eqv_fr, decide_eq_true rfl]
    walk_at "go"
    refine ⟨_, o, dd, rfl, by walk_at "keep", bo.bd, fun x3 H10 s10 e10 => ?_⟩
    walk_at "go"
    refine ⟨vb, dd, rfl, by walk_at "keep", bd, fun x4 H11 s11 e11 => ?_⟩
    refine i_neD (d := fr o.sum) (e := fr dd.sum) (by walk_at "keep") e11 (fr_shaped _) (fr_shaped _) ?_
    rw [eqv_fr, decide_eq_true D5]
    walk_at "go"
    refine ⟨_, o, dd, rfl, by walk_at "keep", ?_⟩
    obtain ⟨aa, xa, rfl, haa, hla⟩ := (show Im H11 va (.tuple (o.map fr)) by walk_at "keep").tup_at
    obtain ⟨ab, xb, rfl, hab, hlb⟩ := (show Im H11 vb (.tuple (dd.map fr)) by walk_at "keep").tup_at
    walk_at "go"
    have ela := hla.length
    have elb := hlb.length
    rw [List.length_map] at ela elb
    refine ite_nd (fun h => (h ?_).elim) (fun _ => ?_)
    · rw [ela, elb]; push_cast; rfl
    walk_at "go"
    refine ⟨_, o, dd, rfl, by walk_at "keep", ?_⟩
    walk_at "go"
    refine ⟨_, o, dd, rfl, by walk_at "keep", by rintro rfl; simp at D1, by rintro rfl; simp at D3, D8.bd, fun x5 H12 g L s12 hT hB e12 => ?_⟩
    walk_at "go"
    refine i_catT (ds := o.map fr) (es := dd.map fr) (by walk_at "keep") (by walk_at "keep") (by rintro h; rw [List.map_eq_nil_iff] at h; subst h; simp at D1) (by rintro h; rw [List.map_eq_nil_iff] at h; subst h; simp at D3) (by rw [List.length_map, List.length_map, ← List.length_append]; exact Nat.le_of_lt (small1000 D8.1)) (fun x6 H13 s13 e13 => ?_)
    walk_at "go"
    rw [← List.map_append] at e13
    refine ⟨x5, x6, g, L, o ++ dd, rfl, by walk_at "keep", e13, hT, hB, by rintro h; rw [List.append_eq_nil_iff] at h; obtain ⟨rfl, _⟩ := h; simp at D1, fun r hr => ?_, D8, fun H14 s14 => ?_⟩
    · rcases List.mem_append.mp hr with hr | hr
      · exact D6 r hr
      · exact D7 r hr
    walk_at "go"
    exact hN _ _ ⟨by walk_at "keep", _, _, _, _, rfl⟩
  · rintro σ H2 ⟨hm2, x, y, z, w, rfl⟩
    walk_at "go"
    exact q _

theorem sc_law : FnScope N_law ["_law_script"] (defScope s_law) := ⟨rfl, rfl, rfl, by decide +kernel, rfl, by decide +kernel, by decide +kernel⟩
theorem ok_law {P : Program} {w : World} {K : PySem.W.Frag} {mg : Str → Option Value} {base : Heap} {C : CA} {f : Addr} {fd : FuncData} (T : CT K C) (B : Bi mg C) (F : Fun K "law" "law" s_law f fd) (D_total : Okd P w K mg base 3 "total" ["evening"] (sp_total K C)) (D_people : Okd P w K mg base 1 "people" ["evening"] (sp_people K C)) (D_measure : Okd P w K mg base 3 "measure" ["evening"] (sp_measure K C)) (D_L_hand : Okd P w K mg base 1 "_law_hand" ["_law_script"] (sp_L_hand K C)) (D_L_draw : Okd P w K mg base 1 "_law_draw" ["_law_hand_here", "_law_many"] (sp_L_draw K C)) (D_L_sum : Okd P w K mg base 4 "_law_sum" ["_law_fractions"] (sp_L_sum K C)) (D_L_sums : Okd P w K mg base 4 "_law_sums" ["_law_hand_here", "_law_side", "_law_most"] (sp_L_sums K C)) (D_L_is_measure : Okd P w K mg base 3 "_law_is_measure" ["_law_told", "_law_sums_here"] (sp_L_is_measure K C)) (D_Eveningu_initu : Okm P w K mg base 5 "Evening" C.Evening ["self", "owed", "due"] (sp_Eveningu_initu K C)) : FnOk P w K mg base CX0 7 f fd ["_law_script"] (sp_law K C) := by
  refine F.ok sc_law (fun vs H Q E h => ?_) (fun cdv A outer s H vs Q E hr h => ⟨t_law K C, ?_, rd_law h⟩)
  · obtain ⟨_, _, rfl, _⟩ := h
    rfl
  · exact (pss_cons (ps_set (i := 1) sc_law.nd rfl (Or.inl rfl) (pe_callD D_L_hand (hr.mono (by decide)) (pa_cons (pv 0) pa_nil))) (pss_cons (ps_for PassesOwn.never rfl (pi_range1 rfl B.b_range (pa_cons pe_int pa_nil)) (pg_name (i := 2) sc_law.nd rfl (Or.inl rfl)) (pss_cons (ps_asg (pe_callD D_L_sums (hr.mono (by decide)) (pa_cons (pv 1) (pa_cons (pe_ix ix_list (pe_lst (pa_cons pe_int (pa_cons pe_int (pa_cons pe_int (pa_cons pe_int pa_nil))))) (pe_callD D_L_draw (hr.mono (by decide)) (pa_cons (pv 1) (pa_cons pe_int pa_nil))) (fun _ _ => rfl)) (pa_cons (pe_ix ix_list (pe_lst (pa_cons pe_int (pa_cons pe_int (pa_cons (pe_op op_pow pe_int pe_int) pa_nil)))) (pe_callD D_L_draw (hr.mono (by decide)) (pa_cons (pv 1) (pa_cons pe_int pa_nil))) (fun _ _ => rfl)) pa_nil)))) (pg_tup rfl (pgs_cons (pg_name (i := 3) sc_law.nd rfl (Or.inl rfl)) (pgs_cons (pg_name (i := 4) sc_law.nd rfl (Or.inl rfl)) pgs_nil)))) (pss_cons (ps_set (i := 5) sc_law.nd rfl (Or.inl rfl) (pe_makeD D_Eveningu_initu (hr.mono (by decide)) (pa_cons (pv 3) (pa_cons (pv 4) pa_nil)))) (pss_cons (ps_if (PW.pt (pw_or (pt_cmpR (op_neD hr.units) (pe_callD D_total (hr.mono (by decide)) (pa_cons (pv 5) pa_nil)) (pe_callD D_L_sum (hr.mono (by decide)) (pa_cons (pv 3) pa_nil)) (nomark _)) (pw_or1 (pt_cmpR (op_neD hr.units) (pe_callD D_total (hr.mono (by decide)) (pa_cons (pv 5) pa_nil)) (pe_callD D_L_sum (hr.mono (by decide)) (pa_cons (pv 4) pa_nil)) (nomark _))))) (pss_one (ps_ret pe_bl)) pss_nil) (pss_cons (ps_if (PW.pt (pw_or (pt_cmpR op_ne (pe_callD D_people (hr.mono (by decide)) (pa_cons (pv 5) pa_nil)) (pe_op op_add (pe_callB call_len (by rfl) B.b_len bt_len (pa_cons (pv 3) pa_nil)) (pe_callB call_len (by rfl) B.b_len bt_len (pa_cons (pv 4) pa_nil))) (nomark _)) (pw_or1 (pt_val (pe_callB call_isi (by rfl) B.b_isinstance bt_isinstance (pa_cons (pe_callD D_people (hr.mono (by decide)) (pa_cons (pv 5) pa_nil)) (pa_cons (pe_bltn (v := .ty "bool") (by rfl) B.b_bool bt_bool rfl) pa_nil))))))) (pss_one (ps_ret pe_bl)) pss_nil) (pss_one (ps_if (pt_not (pt_val (pe_callD D_L_is_measure (hr.mono (by decide)) (pa_cons (pe_callD D_measure (hr.mono (by decide)) (pa_cons (pv 5) pa_nil)) (pa_cons (pe_op op_catA (pv 3) (pv 4)) pa_nil))))) (pss_one (ps_ret pe_bl)) pss_nil))))))) (pss_one (ps_ret pe_bl))))

def sp_top (K : PySem.W.Frag) : Sp := fun vs H Q _ => ∃ (a : Addr) (ns : List Int), vs = [.ref a] ∧ SqL K H a (ns.map V.int) ∧ ns.length ≤ 63 ∧ ∀ H', Q (.bl true) H'
theorem all_mk {l : PySem.W.OpenLaw} {w : World} {K : PySem.W.Frag} {h : Heap} {mg : Str → Option Value} {fa cEvening  : Addr} {u_MOST_SUMS : Value} {f_lowest : Addr} {od_lowest an_lowest : Option Addr} {oc_lowest kV_lowest doc_lowest pm_lowest cdv_lowest ct_lowest : Value} {osl_lowest : Array (Option Value)} {f_common_bottom : Addr} {od_common_bottom an_common_bottom : Option Addr} {oc_common_bottom kV_common_bottom doc_common_bottom pm_common_bottom cdv_common_bottom ct_common_bottom : Value} {osl_common_bottom : Array (Option Value)} {f_in_units : Addr} {od_in_units an_in_units : Option Addr} {oc_in_units kV_in_units doc_in_units pm_in_units cdv_in_units ct_in_units : Value} {osl_in_units : Array (Option Value)} {f_added : Addr} {od_added an_added : Option Addr} {oc_added kV_added doc_added pm_added cdv_added ct_added : Value} {osl_added : Array (Option Value)} {f_total : Addr} {od_total an_total : Option Addr} {oc_total kV_total doc_total pm_total cdv_total ct_total : Value} {osl_total : Array (Option Value)} {f_people : Addr} {od_people an_people : Option Addr} {oc_people kV_people doc_people pm_people cdv_people ct_people : Value} {osl_people : Array (Option Value)} {f_common_measure : Addr} {od_common_measure an_common_measure : Option Addr} {oc_common_measure kV_common_measure doc_common_measure pm_common_measure cdv_common_measure ct_common_measure : Value} {osl_common_measure : Array (Option Value)} {f_measure : Addr} {od_measure an_measure : Option Addr} {oc_measure kV_measure doc_measure pm_measure cdv_measure ct_measure : Value} {osl_measure : Array (Option Value)} {f_L_hand : Addr} {od_L_hand an_L_hand : Option Addr} {oc_L_hand kV_L_hand doc_L_hand pm_L_hand cdv_L_hand ct_L_hand : Value} {osl_L_hand : Array (Option Value)} {f_L_draw : Addr} {od_L_draw an_L_draw : Option Addr} {oc_L_draw kV_L_draw doc_L_draw pm_L_draw cdv_L_draw ct_L_draw : Value} {osl_L_draw : Array (Option Value)} {f_L_common : Addr} {od_L_common an_L_common : Option Addr} {oc_L_common kV_L_common doc_L_common pm_L_common cdv_L_common ct_L_common : Value} {osl_L_common : Array (Option Value)} {f_L_fraction : Addr} {od_L_fraction an_L_fraction : Option Addr} {oc_L_fraction kV_L_fraction doc_L_fraction pm_L_fraction cdv_L_fraction ct_L_fraction : Value} {osl_L_fraction : Array (Option Value)} {f_L_plus : Addr} {od_L_plus an_L_plus : Option Addr} {oc_L_plus kV_L_plus doc_L_plus pm_L_plus cdv_L_plus ct_L_plus : Value} {osl_L_plus : Array (Option Value)} {f_L_sum : Addr} {od_L_sum an_L_sum : Option Addr} {oc_L_sum kV_L_sum doc_L_sum pm_L_sum cdv_L_sum ct_L_sum : Value} {osl_L_sum : Array (Option Value)} {f_L_times : Addr} {od_L_times an_L_times : Option Addr} {oc_L_times kV_L_times doc_L_times pm_L_times cdv_L_times ct_L_times : Value} {osl_L_times : Array (Option Value)} {f_L_cut : Addr} {od_L_cut an_L_cut : Option Addr} {oc_L_cut kV_L_cut doc_L_cut pm_L_cut cdv_L_cut ct_L_cut : Value} {osl_L_cut : Array (Option Value)} {f_L_numbers : Addr} {od_L_numbers an_L_numbers : Option Addr} {oc_L_numbers kV_L_numbers doc_L_numbers pm_L_numbers cdv_L_numbers ct_L_numbers : Value} {osl_L_numbers : Array (Option Value)} {f_L_unit : Addr} {od_L_unit an_L_unit : Option Addr} {oc_L_unit kV_L_unit doc_L_unit pm_L_unit cdv_L_unit ct_L_unit : Value} {osl_L_unit : Array (Option Value)} {f_L_sums : Addr} {od_L_sums an_L_sums : Option Addr} {oc_L_sums kV_L_sums doc_L_sums pm_L_sums cdv_L_sums ct_L_sums : Value} {osl_L_sums : Array (Option Value)} {f_L_is_measure : Addr} {od_L_is_measure an_L_is_measure : Option Addr} {oc_L_is_measure kV_L_is_measure doc_L_is_measure pm_L_is_measure cdv_L_is_measure ct_L_is_measure : Value} {osl_L_is_measure : Array (Option Value)} {f_is_integer : Addr} {od_is_integer an_is_integer : Option Addr} {oc_is_integer kV_is_integer doc_is_integer pm_is_integer cdv_is_integer ct_is_integer : Value} {osl_is_integer : Array (Option Value)} {f_is_fraction : Addr} {od_is_fraction an_is_fraction : Option Addr} {oc_is_fraction kV_is_fraction doc_is_fraction pm_is_fraction cdv_is_fraction ct_is_fraction : Value} {osl_is_fraction : Array (Option Value)} {f_is_amount : Addr} {od_is_amount an_is_amount : Option Addr} {oc_is_amount kV_is_amount doc_is_amount pm_is_amount cdv_is_amount ct_is_amount : Value} {osl_is_amount : Array (Option Value)} {f_q_is_side : Addr} {od_q_is_side an_q_is_side : Option Addr} {oc_q_is_side kV_q_is_side doc_q_is_side pm_q_is_side cdv_q_is_side ct_q_is_side : Value} {osl_q_is_side : Array (Option Value)} {f_Eveningu_initu : Addr} {od_Eveningu_initu an_Eveningu_initu : Option Addr} {oc_Eveningu_initu kV_Eveningu_initu doc_Eveningu_initu pm_Eveningu_initu cdv_Eveningu_initu ct_Eveningu_initu : Value} {osl_Eveningu_initu : Array (Option Value)} {f_law : Addr} {od_law an_law : Option Addr} {oc_law kV_law doc_law pm_law cdv_law ct_law : Value} {osl_law : Array (Option Value)} (X : K.In h) (G : h.Ns mainGlobals mg) (hfa : mg "law" = some (.ref fa))
    (h_Evening : PySem.W.nsIn K mainGlobals "Evening" = some (some (.ref cEvening)))
    (pg_Evening : PySem.W.plainGet K cEvening Str.empty = true)
    (hd_Evening : PySem.W.hasDictIn K cEvening = true)
    (po_Evening : PySem.W.plainOver K cEvening = true)
    (sa_Evening : PySem.W.findIn K (.ref cEvening) "__setattr__" = some (some (.builtin "object.__setattr__")))
    (mk_Evening : PySem.W.makesIn K cEvening = true)
    (kc_Evening : PySem.W.keepIn K (.ref cEvening) = true)
    (na_nO : PySem.W.findIn K (.ref cEvening) "owed" = some none)
    (na_nD : PySem.W.findIn K (.ref cEvening) "due" = some none)
    (z_abs : PySem.W.nsIn K mainGlobals "abs" = some none)
    (z_all : PySem.W.nsIn K mainGlobals "all" = some none)
    (z_bool : PySem.W.nsIn K mainGlobals "bool" = some none)
    (z_int : PySem.W.nsIn K mainGlobals "int" = some none)
    (z_isinstance : PySem.W.nsIn K mainGlobals "isinstance" = some none)
    (z_len : PySem.W.nsIn K mainGlobals "len" = some none)
    (z_max : PySem.W.nsIn K mainGlobals "max" = some none)
    (z_min : PySem.W.nsIn K mainGlobals "min" = some none)
    (z_range : PySem.W.nsIn K mainGlobals "range" = some none)
    (z_sum : PySem.W.nsIn K mainGlobals "sum" = some none)
    (z_tuple : PySem.W.nsIn K mainGlobals "tuple" = some none)
    (z_MOST_SUMS : PySem.W.nsIn K mainGlobals "MOST_SUMS" = some (some u_MOST_SUMS)) (r_MOST_SUMS : RelV (.int 100) u_MOST_SUMS)
    (z_gcd : PySem.W.nsIn K mainGlobals "gcd" = some (some (.builtin "math.gcd")))
    (z_lcm : PySem.W.nsIn K mainGlobals "lcm" = some (some (.builtin "math.lcm")))
    (a_lowest : PySem.W.nsIn K mainGlobals "lowest" = some (some (.ref f_lowest)))
    (l_lowest : K.lookup f_lowest = some ⟨oc_lowest, od_lowest, .func (PySem.W.fnOf "lowest" "lowest" (defArgs s_lowest) (defBody s_lowest) (defScope s_lowest) .none kV_lowest doc_lowest pm_lowest an_lowest cdv_lowest ct_lowest), osl_lowest⟩) (c_lowest : PySem.W.codeIn K cdv_lowest "lowest" = true) (k_lowest : PySem.W.keepIn K (.ref f_lowest) = true)
    (a_common_bottom : PySem.W.nsIn K mainGlobals "common_bottom" = some (some (.ref f_common_bottom)))
    (l_common_bottom : K.lookup f_common_bottom = some ⟨oc_common_bottom, od_common_bottom, .func (PySem.W.fnOf "common_bottom" "common_bottom" (defArgs s_common_bottom) (defBody s_common_bottom) (defScope s_common_bottom) .none kV_common_bottom doc_common_bottom pm_common_bottom an_common_bottom cdv_common_bottom ct_common_bottom), osl_common_bottom⟩) (c_common_bottom : PySem.W.codeIn K cdv_common_bottom "common_bottom" = true) (k_common_bottom : PySem.W.keepIn K (.ref f_common_bottom) = true)
    (a_in_units : PySem.W.nsIn K mainGlobals "in_units" = some (some (.ref f_in_units)))
    (l_in_units : K.lookup f_in_units = some ⟨oc_in_units, od_in_units, .func (PySem.W.fnOf "in_units" "in_units" (defArgs s_in_units) (defBody s_in_units) (defScope s_in_units) .none kV_in_units doc_in_units pm_in_units an_in_units cdv_in_units ct_in_units), osl_in_units⟩) (c_in_units : PySem.W.codeIn K cdv_in_units "in_units" = true) (k_in_units : PySem.W.keepIn K (.ref f_in_units) = true)
    (a_added : PySem.W.nsIn K mainGlobals "added" = some (some (.ref f_added)))
    (l_added : K.lookup f_added = some ⟨oc_added, od_added, .func (PySem.W.fnOf "added" "added" (defArgs s_added) (defBody s_added) (defScope s_added) .none kV_added doc_added pm_added an_added cdv_added ct_added), osl_added⟩) (c_added : PySem.W.codeIn K cdv_added "added" = true) (k_added : PySem.W.keepIn K (.ref f_added) = true)
    (a_total : PySem.W.nsIn K mainGlobals "total" = some (some (.ref f_total)))
    (l_total : K.lookup f_total = some ⟨oc_total, od_total, .func (PySem.W.fnOf "total" "total" (defArgs s_total) (defBody s_total) (defScope s_total) .none kV_total doc_total pm_total an_total cdv_total ct_total), osl_total⟩) (c_total : PySem.W.codeIn K cdv_total "total" = true) (k_total : PySem.W.keepIn K (.ref f_total) = true)
    (a_people : PySem.W.nsIn K mainGlobals "people" = some (some (.ref f_people)))
    (l_people : K.lookup f_people = some ⟨oc_people, od_people, .func (PySem.W.fnOf "people" "people" (defArgs s_people) (defBody s_people) (defScope s_people) .none kV_people doc_people pm_people an_people cdv_people ct_people), osl_people⟩) (c_people : PySem.W.codeIn K cdv_people "people" = true) (k_people : PySem.W.keepIn K (.ref f_people) = true)
    (a_common_measure : PySem.W.nsIn K mainGlobals "common_measure" = some (some (.ref f_common_measure)))
    (l_common_measure : K.lookup f_common_measure = some ⟨oc_common_measure, od_common_measure, .func (PySem.W.fnOf "common_measure" "common_measure" (defArgs s_common_measure) (defBody s_common_measure) (defScope s_common_measure) .none kV_common_measure doc_common_measure pm_common_measure an_common_measure cdv_common_measure ct_common_measure), osl_common_measure⟩) (c_common_measure : PySem.W.codeIn K cdv_common_measure "common_measure" = true) (k_common_measure : PySem.W.keepIn K (.ref f_common_measure) = true)
    (a_measure : PySem.W.nsIn K mainGlobals "measure" = some (some (.ref f_measure)))
    (l_measure : K.lookup f_measure = some ⟨oc_measure, od_measure, .func (PySem.W.fnOf "measure" "measure" (defArgs s_measure) (defBody s_measure) (defScope s_measure) .none kV_measure doc_measure pm_measure an_measure cdv_measure ct_measure), osl_measure⟩) (c_measure : PySem.W.codeIn K cdv_measure "measure" = true) (k_measure : PySem.W.keepIn K (.ref f_measure) = true)
    (a_L_hand : PySem.W.nsIn K mainGlobals "_law_hand" = some (some (.ref f_L_hand)))
    (l_L_hand : K.lookup f_L_hand = some ⟨oc_L_hand, od_L_hand, .func (PySem.W.fnOf "_law_hand" "_law_hand" (defArgs s_L_hand) (defBody s_L_hand) (defScope s_L_hand) .none kV_L_hand doc_L_hand pm_L_hand an_L_hand cdv_L_hand ct_L_hand), osl_L_hand⟩) (c_L_hand : PySem.W.codeIn K cdv_L_hand "_law_hand" = true) (k_L_hand : PySem.W.keepIn K (.ref f_L_hand) = true)
    (a_L_draw : PySem.W.nsIn K mainGlobals "_law_draw" = some (some (.ref f_L_draw)))
    (l_L_draw : K.lookup f_L_draw = some ⟨oc_L_draw, od_L_draw, .func (PySem.W.fnOf "_law_draw" "_law_draw" (defArgs s_L_draw) (defBody s_L_draw) (defScope s_L_draw) .none kV_L_draw doc_L_draw pm_L_draw an_L_draw cdv_L_draw ct_L_draw), osl_L_draw⟩) (c_L_draw : PySem.W.codeIn K cdv_L_draw "_law_draw" = true) (k_L_draw : PySem.W.keepIn K (.ref f_L_draw) = true)
    (a_L_common : PySem.W.nsIn K mainGlobals "_law_common" = some (some (.ref f_L_common)))
    (l_L_common : K.lookup f_L_common = some ⟨oc_L_common, od_L_common, .func (PySem.W.fnOf "_law_common" "_law_common" (defArgs s_L_common) (defBody s_L_common) (defScope s_L_common) .none kV_L_common doc_L_common pm_L_common an_L_common cdv_L_common ct_L_common), osl_L_common⟩) (c_L_common : PySem.W.codeIn K cdv_L_common "_law_common" = true) (k_L_common : PySem.W.keepIn K (.ref f_L_common) = true)
    (a_L_fraction : PySem.W.nsIn K mainGlobals "_law_fraction" = some (some (.ref f_L_fraction)))
    (l_L_fraction : K.lookup f_L_fraction = some ⟨oc_L_fraction, od_L_fraction, .func (PySem.W.fnOf "_law_fraction" "_law_fraction" (defArgs s_L_fraction) (defBody s_L_fraction) (defScope s_L_fraction) .none kV_L_fraction doc_L_fraction pm_L_fraction an_L_fraction cdv_L_fraction ct_L_fraction), osl_L_fraction⟩) (c_L_fraction : PySem.W.codeIn K cdv_L_fraction "_law_fraction" = true) (k_L_fraction : PySem.W.keepIn K (.ref f_L_fraction) = true)
    (a_L_plus : PySem.W.nsIn K mainGlobals "_law_plus" = some (some (.ref f_L_plus)))
    (l_L_plus : K.lookup f_L_plus = some ⟨oc_L_plus, od_L_plus, .func (PySem.W.fnOf "_law_plus" "_law_plus" (defArgs s_L_plus) (defBody s_L_plus) (defScope s_L_plus) .none kV_L_plus doc_L_plus pm_L_plus an_L_plus cdv_L_plus ct_L_plus), osl_L_plus⟩) (c_L_plus : PySem.W.codeIn K cdv_L_plus "_law_plus" = true) (k_L_plus : PySem.W.keepIn K (.ref f_L_plus) = true)
    (a_L_sum : PySem.W.nsIn K mainGlobals "_law_sum" = some (some (.ref f_L_sum)))
    (l_L_sum : K.lookup f_L_sum = some ⟨oc_L_sum, od_L_sum, .func (PySem.W.fnOf "_law_sum" "_law_sum" (defArgs s_L_sum) (defBody s_L_sum) (defScope s_L_sum) .none kV_L_sum doc_L_sum pm_L_sum an_L_sum cdv_L_sum ct_L_sum), osl_L_sum⟩) (c_L_sum : PySem.W.codeIn K cdv_L_sum "_law_sum" = true) (k_L_sum : PySem.W.keepIn K (.ref f_L_sum) = true)
    (a_L_times : PySem.W.nsIn K mainGlobals "_law_times" = some (some (.ref f_L_times)))
    (l_L_times : K.lookup f_L_times = some ⟨oc_L_times, od_L_times, .func (PySem.W.fnOf "_law_times" "_law_times" (defArgs s_L_times) (defBody s_L_times) (defScope s_L_times) .none kV_L_times doc_L_times pm_L_times an_L_times cdv_L_times ct_L_times), osl_L_times⟩) (c_L_times : PySem.W.codeIn K cdv_L_times "_law_times" = true) (k_L_times : PySem.W.keepIn K (.ref f_L_times) = true)
    (a_L_cut : PySem.W.nsIn K mainGlobals "_law_cut" = some (some (.ref f_L_cut)))
    (l_L_cut : K.lookup f_L_cut = some ⟨oc_L_cut, od_L_cut, .func (PySem.W.fnOf "_law_cut" "_law_cut" (defArgs s_L_cut) (defBody s_L_cut) (defScope s_L_cut) .none kV_L_cut doc_L_cut pm_L_cut an_L_cut cdv_L_cut ct_L_cut), osl_L_cut⟩) (c_L_cut : PySem.W.codeIn K cdv_L_cut "_law_cut" = true) (k_L_cut : PySem.W.keepIn K (.ref f_L_cut) = true)
    (a_L_numbers : PySem.W.nsIn K mainGlobals "_law_numbers" = some (some (.ref f_L_numbers)))
    (l_L_numbers : K.lookup f_L_numbers = some ⟨oc_L_numbers, od_L_numbers, .func (PySem.W.fnOf "_law_numbers" "_law_numbers" (defArgs s_L_numbers) (defBody s_L_numbers) (defScope s_L_numbers) .none kV_L_numbers doc_L_numbers pm_L_numbers an_L_numbers cdv_L_numbers ct_L_numbers), osl_L_numbers⟩) (c_L_numbers : PySem.W.codeIn K cdv_L_numbers "_law_numbers" = true) (k_L_numbers : PySem.W.keepIn K (.ref f_L_numbers) = true)
    (a_L_unit : PySem.W.nsIn K mainGlobals "_law_unit" = some (some (.ref f_L_unit)))
    (l_L_unit : K.lookup f_L_unit = some ⟨oc_L_unit, od_L_unit, .func (PySem.W.fnOf "_law_unit" "_law_unit" (defArgs s_L_unit) (defBody s_L_unit) (defScope s_L_unit) .none kV_L_unit doc_L_unit pm_L_unit an_L_unit cdv_L_unit ct_L_unit), osl_L_unit⟩) (c_L_unit : PySem.W.codeIn K cdv_L_unit "_law_unit" = true) (k_L_unit : PySem.W.keepIn K (.ref f_L_unit) = true)
    (a_L_sums : PySem.W.nsIn K mainGlobals "_law_sums" = some (some (.ref f_L_sums)))
    (l_L_sums : K.lookup f_L_sums = some ⟨oc_L_sums, od_L_sums, .func (PySem.W.fnOf "_law_sums" "_law_sums" (defArgs s_L_sums) (defBody s_L_sums) (defScope s_L_sums) .none kV_L_sums doc_L_sums pm_L_sums an_L_sums cdv_L_sums ct_L_sums), osl_L_sums⟩) (c_L_sums : PySem.W.codeIn K cdv_L_sums "_law_sums" = true) (k_L_sums : PySem.W.keepIn K (.ref f_L_sums) = true)
    (a_L_is_measure : PySem.W.nsIn K mainGlobals "_law_is_measure" = some (some (.ref f_L_is_measure)))
    (l_L_is_measure : K.lookup f_L_is_measure = some ⟨oc_L_is_measure, od_L_is_measure, .func (PySem.W.fnOf "_law_is_measure" "_law_is_measure" (defArgs s_L_is_measure) (defBody s_L_is_measure) (defScope s_L_is_measure) .none kV_L_is_measure doc_L_is_measure pm_L_is_measure an_L_is_measure cdv_L_is_measure ct_L_is_measure), osl_L_is_measure⟩) (c_L_is_measure : PySem.W.codeIn K cdv_L_is_measure "_law_is_measure" = true) (k_L_is_measure : PySem.W.keepIn K (.ref f_L_is_measure) = true)
    (a_is_integer : PySem.W.nsIn K mainGlobals "is_integer" = some (some (.ref f_is_integer)))
    (l_is_integer : K.lookup f_is_integer = some ⟨oc_is_integer, od_is_integer, .func (PySem.W.fnOf "is_integer" "is_integer" (defArgs s_is_integer) (defBody s_is_integer) (defScope s_is_integer) .none kV_is_integer doc_is_integer pm_is_integer an_is_integer cdv_is_integer ct_is_integer), osl_is_integer⟩) (c_is_integer : PySem.W.codeIn K cdv_is_integer "is_integer" = true) (k_is_integer : PySem.W.keepIn K (.ref f_is_integer) = true)
    (a_is_fraction : PySem.W.nsIn K mainGlobals "is_fraction" = some (some (.ref f_is_fraction)))
    (l_is_fraction : K.lookup f_is_fraction = some ⟨oc_is_fraction, od_is_fraction, .func (PySem.W.fnOf "is_fraction" "is_fraction" (defArgs s_is_fraction) (defBody s_is_fraction) (defScope s_is_fraction) .none kV_is_fraction doc_is_fraction pm_is_fraction an_is_fraction cdv_is_fraction ct_is_fraction), osl_is_fraction⟩) (c_is_fraction : PySem.W.codeIn K cdv_is_fraction "is_fraction" = true) (k_is_fraction : PySem.W.keepIn K (.ref f_is_fraction) = true)
    (a_is_amount : PySem.W.nsIn K mainGlobals "is_amount" = some (some (.ref f_is_amount)))
    (l_is_amount : K.lookup f_is_amount = some ⟨oc_is_amount, od_is_amount, .func (PySem.W.fnOf "is_amount" "is_amount" (defArgs s_is_amount) (defBody s_is_amount) (defScope s_is_amount) .none kV_is_amount doc_is_amount pm_is_amount an_is_amount cdv_is_amount ct_is_amount), osl_is_amount⟩) (c_is_amount : PySem.W.codeIn K cdv_is_amount "is_amount" = true) (k_is_amount : PySem.W.keepIn K (.ref f_is_amount) = true)
    (a_q_is_side : PySem.W.nsIn K mainGlobals "_is_side" = some (some (.ref f_q_is_side)))
    (l_q_is_side : K.lookup f_q_is_side = some ⟨oc_q_is_side, od_q_is_side, .func (PySem.W.fnOf "_is_side" "_is_side" (defArgs s_q_is_side) (defBody s_q_is_side) (defScope s_q_is_side) .none kV_q_is_side doc_q_is_side pm_q_is_side an_q_is_side cdv_q_is_side ct_q_is_side), osl_q_is_side⟩) (c_q_is_side : PySem.W.codeIn K cdv_q_is_side "_is_side" = true) (k_q_is_side : PySem.W.keepIn K (.ref f_q_is_side) = true)
    (a_Eveningu_initu : PySem.W.findIn K (.ref cEvening) "__init__" = some (some (.ref f_Eveningu_initu))) (i_Eveningu_initu : PySem.W.isFn K (.ref f_Eveningu_initu) = true)
    (l_Eveningu_initu : K.lookup f_Eveningu_initu = some ⟨oc_Eveningu_initu, od_Eveningu_initu, .func (PySem.W.fnOf "__init__" "Evening.__init__" (defArgs s_Eveningu_initu) (defBody s_Eveningu_initu) (defScope s_Eveningu_initu) .none kV_Eveningu_initu doc_Eveningu_initu pm_Eveningu_initu an_Eveningu_initu cdv_Eveningu_initu ct_Eveningu_initu), osl_Eveningu_initu⟩) (c_Eveningu_initu : PySem.W.codeIn K cdv_Eveningu_initu "Evening.__init__" = true) (k_Eveningu_initu : PySem.W.keepIn K (.ref f_Eveningu_initu) = true)
    (a_law : PySem.W.nsIn K mainGlobals "law" = some (some (.ref f_law)))
    (l_law : K.lookup f_law = some ⟨oc_law, od_law, .func (PySem.W.fnOf "law" "law" (defArgs s_law) (defBody s_law) (defScope s_law) .none kV_law doc_law pm_law an_law cdv_law ct_law), osl_law⟩) (c_law : PySem.W.codeIn K cdv_law "law" = true) (k_law : PySem.W.keepIn K (.ref f_law) = true)
    : ∃ fd : FuncData, (∀ (s : Shared) (v : Value), BindsTo s fd ⟨[v], []⟩ [("_law_script", v)]) ∧ ∀ base : Heap, K.In base → base.Ns mainGlobals mg → FnOk l.prog w K mg base CX0 7 fa fd ["_law_script"] (sp_top K) := by
  have e := hfa.symm.trans (PySem.W.mg_of X G a_law)
  cases e
  have F := fun_mk (st := s_law) l_law c_law k_law
  have d_lowest : DefAt K "lowest" s_lowest := ⟨_, _, _, _, _, _, _, _, _, _, a_lowest, l_lowest, c_lowest, k_lowest⟩
  have d_common_bottom : DefAt K "common_bottom" s_common_bottom := ⟨_, _, _, _, _, _, _, _, _, _, a_common_bottom, l_common_bottom, c_common_bottom, k_common_bottom⟩
  have d_in_units : DefAt K "in_units" s_in_units := ⟨_, _, _, _, _, _, _, _, _, _, a_in_units, l_in_units, c_in_units, k_in_units⟩
  have d_added : DefAt K "added" s_added := ⟨_, _, _, _, _, _, _, _, _, _, a_added, l_added, c_added, k_added⟩
  have d_total : DefAt K "total" s_total := ⟨_, _, _, _, _, _, _, _, _, _, a_total, l_total, c_total, k_total⟩
  have d_people : DefAt K "people" s_people := ⟨_, _, _, _, _, _, _, _, _, _, a_people, l_people, c_people, k_people⟩
  have d_common_measure : DefAt K "common_measure" s_common_measure := ⟨_, _, _, _, _, _, _, _, _, _, a_common_measure, l_common_measure, c_common_measure, k_common_measure⟩
  have d_measure : DefAt K "measure" s_measure := ⟨_, _, _, _, _, _, _, _, _, _, a_measure, l_measure, c_measure, k_measure⟩
  have d_L_hand : DefAt K "_law_hand" s_L_hand := ⟨_, _, _, _, _, _, _, _, _, _, a_L_hand, l_L_hand, c_L_hand, k_L_hand⟩
  have d_L_draw : DefAt K "_law_draw" s_L_draw := ⟨_, _, _, _, _, _, _, _, _, _, a_L_draw, l_L_draw, c_L_draw, k_L_draw⟩
  have d_L_common : DefAt K "_law_common" s_L_common := ⟨_, _, _, _, _, _, _, _, _, _, a_L_common, l_L_common, c_L_common, k_L_common⟩
  have d_L_fraction : DefAt K "_law_fraction" s_L_fraction := ⟨_, _, _, _, _, _, _, _, _, _, a_L_fraction, l_L_fraction, c_L_fraction, k_L_fraction⟩
  have d_L_plus : DefAt K "_law_plus" s_L_plus := ⟨_, _, _, _, _, _, _, _, _, _, a_L_plus, l_L_plus, c_L_plus, k_L_plus⟩
  have d_L_sum : DefAt K "_law_sum" s_L_sum := ⟨_, _, _, _, _, _, _, _, _, _, a_L_sum, l_L_sum, c_L_sum, k_L_sum⟩
  have d_L_times : DefAt K "_law_times" s_L_times := ⟨_, _, _, _, _, _, _, _, _, _, a_L_times, l_L_times, c_L_times, k_L_times⟩
  have d_L_cut : DefAt K "_law_cut" s_L_cut := ⟨_, _, _, _, _, _, _, _, _, _, a_L_cut, l_L_cut, c_L_cut, k_L_cut⟩
  have d_L_numbers : DefAt K "_law_numbers" s_L_numbers := ⟨_, _, _, _, _, _, _, _, _, _, a_L_numbers, l_L_numbers, c_L_numbers, k_L_numbers⟩
  have d_L_unit : DefAt K "_law_unit" s_L_unit := ⟨_, _, _, _, _, _, _, _, _, _, a_L_unit, l_L_unit, c_L_unit, k_L_unit⟩
  have d_L_sums : DefAt K "_law_sums" s_L_sums := ⟨_, _, _, _, _, _, _, _, _, _, a_L_sums, l_L_sums, c_L_sums, k_L_sums⟩
  have d_L_is_measure : DefAt K "_law_is_measure" s_L_is_measure := ⟨_, _, _, _, _, _, _, _, _, _, a_L_is_measure, l_L_is_measure, c_L_is_measure, k_L_is_measure⟩
  have d_is_integer : DefAt K "is_integer" s_is_integer := ⟨_, _, _, _, _, _, _, _, _, _, a_is_integer, l_is_integer, c_is_integer, k_is_integer⟩
  have d_is_fraction : DefAt K "is_fraction" s_is_fraction := ⟨_, _, _, _, _, _, _, _, _, _, a_is_fraction, l_is_fraction, c_is_fraction, k_is_fraction⟩
  have d_is_amount : DefAt K "is_amount" s_is_amount := ⟨_, _, _, _, _, _, _, _, _, _, a_is_amount, l_is_amount, c_is_amount, k_is_amount⟩
  have d_q_is_side : DefAt K "_is_side" s_q_is_side := ⟨_, _, _, _, _, _, _, _, _, _, a_q_is_side, l_q_is_side, c_q_is_side, k_q_is_side⟩
  have d_Eveningu_initu : MethAt K cEvening "__init__" "Evening.__init__" s_Eveningu_initu := ⟨_, _, _, _, _, _, _, _, _, _, a_Eveningu_initu, i_Eveningu_initu, l_Eveningu_initu, c_Eveningu_initu, k_Eveningu_initu⟩
  have d_law : DefAt K "law" s_law := ⟨_, _, _, _, _, _, _, _, _, _, a_law, l_law, c_law, k_law⟩
  have cl_Evening : Cls K cEvening := ⟨pg_Evening, hd_Evening, po_Evening, sa_Evening⟩
  have T : CT K (⟨cEvening⟩ : CA) := ⟨cl_Evening, na_nO, na_nD⟩
  have B : Bi mg (⟨cEvening⟩ : CA) := ⟨PySem.W.mg_none_of X G z_abs, PySem.W.mg_none_of X G z_all, PySem.W.mg_none_of X G z_bool, PySem.W.mg_none_of X G z_int, PySem.W.mg_none_of X G z_isinstance, PySem.W.mg_none_of X G z_len, PySem.W.mg_none_of X G z_max, PySem.W.mg_none_of X G z_min, PySem.W.mg_none_of X G z_range, PySem.W.mg_none_of X G z_sum, PySem.W.mg_none_of X G z_tuple, ⟨_, PySem.W.mg_of X G z_MOST_SUMS, r_MOST_SUMS⟩, PySem.W.mg_of X G z_gcd, PySem.W.mg_of X G z_lcm⟩
  refine ⟨PySem.W.fnOf "law" "law" (defArgs s_law) (defBody s_law) (defScope s_law) .none kV_law doc_law pm_law an_law cdv_law ct_law, fun s v => .of_eq rfl, fun base _ _ => ?_⟩
  have D_lowest : Okd l.prog w K mg base 1 "lowest" ["top", "bottom"] (sp_lowest K (⟨cEvening⟩ : CA)) := d_lowest.okd X G (fun _ _ _ _ _ _ us hl => match us, hl with | [_, _], _ => rfl) (fun f fd F => ok_lowest T B F )
  have D_common_bottom : Okd l.prog w K mg base 1 "common_bottom" ["fractions"] (sp_common_bottom K (⟨cEvening⟩ : CA)) := d_common_bottom.okd X G (fun _ _ _ _ _ _ us hl => match us, hl with | [_], _ => rfl) (fun f fd F => ok_common_bottom T B F )
  have D_in_units : Okd l.prog w K mg base 1 "in_units" ["fractions", "shared"] (sp_in_units K (⟨cEvening⟩ : CA)) := d_in_units.okd X G (fun _ _ _ _ _ _ us hl => match us, hl with | [_, _], _ => rfl) (fun f fd F => ok_in_units T B F )
  have D_added : Okd l.prog w K mg base 2 "added" ["fractions"] (sp_added K (⟨cEvening⟩ : CA)) := d_added.okd X G (fun _ _ _ _ _ _ us hl => match us, hl with | [_], _ => rfl) (fun f fd F => ok_added T B F D_lowest D_common_bottom D_in_units)
  have D_total : Okd l.prog w K mg base 3 "total" ["evening"] (sp_total K (⟨cEvening⟩ : CA)) := d_total.okd X G (fun _ _ _ _ _ _ us hl => match us, hl with | [_], _ => rfl) (fun f fd F => ok_total T B F D_added)
  have D_people : Okd l.prog w K mg base 1 "people" ["evening"] (sp_people K (⟨cEvening⟩ : CA)) := d_people.okd X G (fun _ _ _ _ _ _ us hl => match us, hl with | [_], _ => rfl) (fun f fd F => ok_people T B F )
  have D_common_measure : Okd l.prog w K mg base 2 "common_measure" ["fractions"] (sp_common_measure K (⟨cEvening⟩ : CA)) := d_common_measure.okd X G (fun _ _ _ _ _ _ us hl => match us, hl with | [_], _ => rfl) (fun f fd F => ok_common_measure T B F D_common_bottom)
  have D_measure : Okd l.prog w K mg base 3 "measure" ["evening"] (sp_measure K (⟨cEvening⟩ : CA)) := d_measure.okd X G (fun _ _ _ _ _ _ us hl => match us, hl with | [_], _ => rfl) (fun f fd F => ok_measure T B F D_common_measure)
  have D_L_hand : Okd l.prog w K mg base 1 "_law_hand" ["_law_script"] (sp_L_hand K (⟨cEvening⟩ : CA)) := d_L_hand.okd X G (fun _ _ _ _ _ _ us hl => match us, hl with | [_], _ => rfl) (fun f fd F => ok_L_hand T B F )
  have D_L_draw : Okd l.prog w K mg base 1 "_law_draw" ["_law_hand_here", "_law_many"] (sp_L_draw K (⟨cEvening⟩ : CA)) := d_L_draw.okd X G (fun _ _ _ _ _ _ us hl => match us, hl with | [_, _], _ => rfl) (fun f fd F => ok_L_draw T B F )
  have D_L_common : Okd l.prog w K mg base 1 "_law_common" ["_law_one", "_law_other"] (sp_L_common K (⟨cEvening⟩ : CA)) := d_L_common.okd X G (fun _ _ _ _ _ _ us hl => match us, hl with | [_, _], _ => rfl) (fun f fd F => ok_L_common T B F )
  have D_L_fraction : Okd l.prog w K mg base 2 "_law_fraction" ["_law_top", "_law_bottom"] (sp_L_fraction K (⟨cEvening⟩ : CA)) := d_L_fraction.okd X G (fun _ _ _ _ _ _ us hl => match us, hl with | [_, _], _ => rfl) (fun f fd F => ok_L_fraction T B F D_L_common)
  have D_L_plus : Okd l.prog w K mg base 3 "_law_plus" ["_law_one", "_law_other"] (sp_L_plus K (⟨cEvening⟩ : CA)) := d_L_plus.okd X G (fun _ _ _ _ _ _ us hl => match us, hl with | [_, _], _ => rfl) (fun f fd F => ok_L_plus T B F D_L_fraction)
  have D_L_sum : Okd l.prog w K mg base 4 "_law_sum" ["_law_fractions"] (sp_L_sum K (⟨cEvening⟩ : CA)) := d_L_sum.okd X G (fun _ _ _ _ _ _ us hl => match us, hl with | [_], _ => rfl) (fun f fd F => ok_L_sum T B F D_L_plus)
  have D_L_times : Okd l.prog w K mg base 3 "_law_times" ["_law_one", "_law_other"] (sp_L_times K (⟨cEvening⟩ : CA)) := d_L_times.okd X G (fun _ _ _ _ _ _ us hl => match us, hl with | [_, _], _ => rfl) (fun f fd F => ok_L_times T B F D_L_fraction)
  have D_L_cut : Okd l.prog w K mg base 2 "_law_cut" ["_law_hand_here", "_law_full", "_law_many"] (sp_L_cut K (⟨cEvening⟩ : CA)) := d_L_cut.okd X G (fun _ _ _ _ _ _ us hl => match us, hl with | [_, _, _], _ => rfl) (fun f fd F => ok_L_cut T B F D_L_draw)
  have D_L_numbers : Okd l.prog w K mg base 3 "_law_numbers" ["_law_hand_here", "_law_side", "_law_most"] (sp_L_numbers K (⟨cEvening⟩ : CA)) := d_L_numbers.okd X G (fun _ _ _ _ _ _ us hl => match us, hl with | [_, _, _], _ => rfl) (fun f fd F => ok_L_numbers T B F D_L_draw D_L_cut)
  have D_L_unit : Okd l.prog w K mg base 2 "_law_unit" ["_law_hand_here"] (sp_L_unit K (⟨cEvening⟩ : CA)) := d_L_unit.okd X G (fun _ _ _ _ _ _ us hl => match us, hl with | [_], _ => rfl) (fun f fd F => ok_L_unit T B F D_L_draw)
  have D_L_sums : Okd l.prog w K mg base 4 "_law_sums" ["_law_hand_here", "_law_side", "_law_most"] (sp_L_sums K (⟨cEvening⟩ : CA)) := d_L_sums.okd X G (fun _ _ _ _ _ _ us hl => match us, hl with | [_, _, _], _ => rfl) (fun f fd F => ok_L_sums T B F D_L_times D_L_numbers D_L_unit)
  have D_L_is_measure : Okd l.prog w K mg base 3 "_law_is_measure" ["_law_told", "_law_sums_here"] (sp_L_is_measure K (⟨cEvening⟩ : CA)) := d_L_is_measure.okd X G (fun _ _ _ _ _ _ us hl => match us, hl with | [_, _], _ => rfl) (fun f fd F => ok_L_is_measure T B F D_L_common D_L_fraction)
  have D_is_integer : Okd l.prog w K mg base 1 "is_integer" ["thing"] (sp_is_integer K (⟨cEvening⟩ : CA)) := d_is_integer.okd X G (fun _ _ _ _ _ _ us hl => match us, hl with | [_], _ => rfl) (fun f fd F => ok_is_integer T B F )
  have D_is_fraction : Okd l.prog w K mg base 2 "is_fraction" ["thing"] (sp_is_fraction K (⟨cEvening⟩ : CA)) := d_is_fraction.okd X G (fun _ _ _ _ _ _ us hl => match us, hl with | [_], _ => rfl) (fun f fd F => ok_is_fraction T B F D_is_integer)
  have D_is_amount : Okd l.prog w K mg base 3 "is_amount" ["thing"] (sp_is_amount K (⟨cEvening⟩ : CA)) := d_is_amount.okd X G (fun _ _ _ _ _ _ us hl => match us, hl with | [_], _ => rfl) (fun f fd F => ok_is_amount T B F D_is_fraction)
  have D_q_is_side : Okd l.prog w K mg base 4 "_is_side" ["thing"] (sp_q_is_side K (⟨cEvening⟩ : CA)) := d_q_is_side.okd X G (fun _ _ _ _ _ _ us hl => match us, hl with | [_], _ => rfl) (fun f fd F => ok_q_is_side T B F D_is_amount)
  have D_Eveningu_initu : Okm l.prog w K mg base 5 "Evening" cEvening ["self", "owed", "due"] (sp_Eveningu_initu K (⟨cEvening⟩ : CA)) := d_Eveningu_initu.okm (PySem.W.mg_of X G h_Evening) mk_Evening kc_Evening (fun _ _ _ _ _ _ us hl => match us, hl with | [_, _, _], _ => rfl) (fun f fd F => ok_Eveningu_initu T B F D_added D_q_is_side)
  exact ok_law T B F D_total D_people D_measure D_L_hand D_L_draw D_L_sum D_L_sums D_L_is_measure D_Eveningu_initu
theorem walk {l : PySem.W.OpenLaw} {q : Program} {loose : List Str} {XP : (Str → Option Value) → Heap → Prop} {YP : World → Heap → Prop} {d : DefRec} {K : Params → PySem.W.Frag} (hn : l.most = some 63) (hdf : d.params.defaults = [])
    (hY : ∀ (w : World) (h : Heap), YP w h → (K w.params).In h)
    (F : ∀ (w : World) (mg : Str → Option Value) (fa : Addr) (h : Heap), (K w.params).In h → h.Ns mainGlobals mg → mg d.name = some (.ref fa) →
      ∃ fd : FuncData, (∀ (s : Shared) (u : Value), BindsTo s fd ⟨[u], []⟩ [("_law_script", u)]) ∧ ∀ base : Heap, (K w.params).In base → base.Ns mainGlobals mg → FnOk l.prog w (K w.params) mg base CX0 7 fa fd ["_law_script"] (sp_top (K w.params))) :
    PySem.W.WalkO q loose XP YP l.row.toRowW d [] (fun f vs => PySem.call f vs) :=
  L2.walk_of (n := 63) (k := 7) (x := "_law_script") (CX := fun _ => CX0) (sp := fun w => sp_top (K w.params)) hn (by decide) hdf ⟨rfl, by decide, by decide⟩ hY F (fun _ _ a ns hl _ hS => ⟨a, ns, rfl, hS, hl, fun _ => rfl⟩) fun _ _ _ _ _ z => z
end QW

open PySem PySem.W PyProof.Rows in
set_option maxRecDepth 100000 in
set_option maxHeartbeats 0 in
theorem PySem.Challenge.cw_quitsways_k02_whole_totals_people_and_me_holds : PySem.Challenge.rw_quitsways_k02_whole_totals_people_and_me.Holds := by
  w_on; o_law; k_head; (case hw => w_witness2)
  k_fill
  refine QW.walk (l := PySem.Challenge.rw_quitsways_k02_whole_totals_people_and_me) rfl rfl (fun w h Y => PySem.W.kIn_of Y) ?F
  case F =>
    intro w mg fa h KX G hmg
    refine' QW.all_mk KX G hmg ?h_Evening ?pg_Evening ?hd_Evening ?po_Evening ?sa_Evening ?mk_Evening ?kc_Evening ?na_nO ?na_nD ?z_abs ?z_all ?z_bool ?z_int ?z_isinstance ?z_len ?z_max ?z_min ?z_range ?z_sum ?z_tuple ?z_MOST_SUMS ?r_MOST_SUMS ?z_gcd ?z_lcm ?a_lowest ?l_lowest ?c_lowest ?k_lowest ?a_common_bottom ?l_common_bottom ?c_common_bottom ?k_common_bottom ?a_in_units ?l_in_units ?c_in_units ?k_in_units ?a_added ?l_added ?c_added ?k_added ?a_total ?l_total ?c_total ?k_total ?a_people ?l_people ?c_people ?k_people ?a_common_measure ?l_common_measure ?c_common_measure ?k_common_measure ?a_measure ?l_measure ?c_measure ?k_measure ?a_L_hand ?l_L_hand ?c_L_hand ?k_L_hand ?a_L_draw ?l_L_draw ?c_L_draw ?k_L_draw ?a_L_common ?l_L_common ?c_L_common ?k_L_common ?a_L_fraction ?l_L_fraction ?c_L_fraction ?k_L_fraction ?a_L_plus ?l_L_plus ?c_L_plus ?k_L_plus ?a_L_sum ?l_L_sum ?c_L_sum ?k_L_sum ?a_L_times ?l_L_times ?c_L_times ?k_L_times ?a_L_cut ?l_L_cut ?c_L_cut ?k_L_cut ?a_L_numbers ?l_L_numbers ?c_L_numbers ?k_L_numbers ?a_L_unit ?l_L_unit ?c_L_unit ?k_L_unit ?a_L_sums ?l_L_sums ?c_L_sums ?k_L_sums ?a_L_is_measure ?l_L_is_measure ?c_L_is_measure ?k_L_is_measure ?a_is_integer ?l_is_integer ?c_is_integer ?k_is_integer ?a_is_fraction ?l_is_fraction ?c_is_fraction ?k_is_fraction ?a_is_amount ?l_is_amount ?c_is_amount ?k_is_amount ?a_q_is_side ?l_q_is_side ?c_q_is_side ?k_q_is_side ?a_Eveningu_initu ?i_Eveningu_initu ?l_Eveningu_initu ?c_Eveningu_initu ?k_Eveningu_initu ?a_law ?l_law ?c_law ?k_law
    (case h_Evening => k_is)
    (case pg_Evening => k_is)
    (case hd_Evening => k_is)
    (case po_Evening => k_is)
    (case sa_Evening => k_is)
    (case mk_Evening => k_is)
    (case kc_Evening => k_is)
    (case na_nO => k_is)
    (case na_nD => k_is)
    (case z_abs => k_is)
    (case z_all => k_is)
    (case z_bool => k_is)
    (case z_int => k_is)
    (case z_isinstance => k_is)
    (case z_len => k_is)
    (case z_max => k_is)
    (case z_min => k_is)
    (case z_range => k_is)
    (case z_sum => k_is)
    (case z_tuple => k_is)
    (case z_MOST_SUMS => k_is)
    (case r_MOST_SUMS => exact ⟨_, rfl⟩)
    (case z_gcd => k_is)
    (case z_lcm => k_is)
    (case a_lowest => k_is)
    (case l_lowest => k_is)
    (case c_lowest => k_is)
    (case k_lowest => k_is)
    (case a_common_bottom => k_is)
    (case l_common_bottom => k_is)
    (case c_common_bottom => k_is)
    (case k_common_bottom => k_is)
    (case a_in_units => k_is)
    (case l_in_units => k_is)
    (case c_in_units => k_is)
    (case k_in_units => k_is)
    (case a_added => k_is)
    (case l_added => k_is)
    (case c_added => k_is)
    (case k_added => k_is)
    (case a_total => k_is)
    (case l_total => k_is)
    (case c_total => k_is)
    (case k_total => k_is)
    (case a_people => k_is)
    (case l_people => k_is)
    (case c_people => k_is)
    (case k_people => k_is)
    (case a_common_measure => k_is)
    (case l_common_measure => k_is)
    (case c_common_measure => k_is)
    (case k_common_measure => k_is)
    (case a_measure => k_is)
    (case l_measure => k_is)
    (case c_measure => k_is)
    (case k_measure => k_is)
    (case a_L_hand => k_is)
    (case l_L_hand => k_is)
    (case c_L_hand => k_is)
    (case k_L_hand => k_is)
    (case a_L_draw => k_is)
    (case l_L_draw => k_is)
    (case c_L_draw => k_is)
    (case k_L_draw => k_is)
    (case a_L_common => k_is)
    (case l_L_common => k_is)
    (case c_L_common => k_is)
    (case k_L_common => k_is)
    (case a_L_fraction => k_is)
    (case l_L_fraction => k_is)
    (case c_L_fraction => k_is)
    (case k_L_fraction => k_is)
    (case a_L_plus => k_is)
    (case l_L_plus => k_is)
    (case c_L_plus => k_is)
    (case k_L_plus => k_is)
    (case a_L_sum => k_is)
    (case l_L_sum => k_is)
    (case c_L_sum => k_is)
    (case k_L_sum => k_is)
    (case a_L_times => k_is)
    (case l_L_times => k_is)
    (case c_L_times => k_is)
    (case k_L_times => k_is)
    (case a_L_cut => k_is)
    (case l_L_cut => k_is)
    (case c_L_cut => k_is)
    (case k_L_cut => k_is)
    (case a_L_numbers => k_is)
    (case l_L_numbers => k_is)
    (case c_L_numbers => k_is)
    (case k_L_numbers => k_is)
    (case a_L_unit => k_is)
    (case l_L_unit => k_is)
    (case c_L_unit => k_is)
    (case k_L_unit => k_is)
    (case a_L_sums => k_is)
    (case l_L_sums => k_is)
    (case c_L_sums => k_is)
    (case k_L_sums => k_is)
    (case a_L_is_measure => k_is)
    (case l_L_is_measure => k_is)
    (case c_L_is_measure => k_is)
    (case k_L_is_measure => k_is)
    (case a_is_integer => k_is)
    (case l_is_integer => k_is)
    (case c_is_integer => k_is)
    (case k_is_integer => k_is)
    (case a_is_fraction => k_is)
    (case l_is_fraction => k_is)
    (case c_is_fraction => k_is)
    (case k_is_fraction => k_is)
    (case a_is_amount => k_is)
    (case l_is_amount => k_is)
    (case c_is_amount => k_is)
    (case k_is_amount => k_is)
    (case a_q_is_side => k_is)
    (case l_q_is_side => k_is)
    (case c_q_is_side => k_is)
    (case k_q_is_side => k_is)
    (case a_Eveningu_initu => k_is)
    (case i_Eveningu_initu => k_is)
    (case l_Eveningu_initu => k_is)
    (case c_Eveningu_initu => k_is)
    (case k_Eveningu_initu => k_is)
    (case a_law => k_is)
    (case l_law => k_is)
    (case c_law => k_is)
    (case k_law => k_is)
