import PyProof.Rows.All
import Wide.All
import OpenK.AllK
import Wide.FinOn
import HandS.ForMost
import HandS.Gcd
import HandS.Wide
import HandS.WideBits
import HandS.IsInst
import HandS.Style
import HandS.TupAny
import HandS.Conv
import HandS.TupMul
import HandS.ExcInit
import HandS.ExcField
import HandS.TryMany
import HandS.TryOnly
import HandS.ExcOwn
import HandS.WordsExc
import KE.SortData
import KE.GoesMore
import HandS.Walk
import HandS.Strs
import HandS.SetFor
import HandS.SortInts
import PySem.Challenge.RW_quitsways_k10_whole_doubles_and_pieces
set_option Elab.async false
set_option linter.all false
set_option maxRecDepth 100000
set_option maxHeartbeats 4000000
set_option exponentiation.threshold 20000

namespace QW
open PySem L2

/-! ### what changes: nothing (Same), or one list (KL m) -/
structure KL (m : Addr) (H H' : Hp) : Prop where
  keep : ∀ b o, b ≠ m → H b = some o → H' b = some o
  tup : ∀ b xs, H b = some (.tup xs) → H' b = some (.tup xs)
  ins : ∀ b C dx fs, H b = some (.ins C dx fs) → H' b = some (.ins C dx fs)
  live : ∀ b, H' b = none → H b = none
  lst : ∀ b xs, H b = some (.lst xs) → ∃ ys, H' b = some (.lst ys)
  dk : ∀ b kvs, H b = some (.dK kvs) → H' b = some (.dK kvs)

theorem Same.kl {m : Addr} {H H' : Hp} (s : Same H H') : KL m H H' :=
  ⟨fun b o _ e => s b o e, fun b xs e => s b _ e, fun b C dx fs e => s b _ e, fun b e => s.free e, fun b xs e => ⟨xs, s b _ e⟩, fun b xs e => s b _ e⟩
theorem KL.refl {m : Addr} {H : Hp} : KL m H H := Same.kl (Same.refl H)
theorem KL.trans {m : Addr} {H H1 H2 : Hp} (a : KL m H H1) (b : KL m H1 H2) : KL m H H2 :=
  ⟨fun c o hc e => b.keep c o hc (a.keep c o hc e), fun c xs e => b.tup c xs (a.tup c xs e), fun c C dx fs e => b.ins c C dx fs (a.ins c C dx fs e), fun c e => a.live c (b.live c e), fun c xs e => by
    obtain ⟨ys, e1⟩ := a.lst c xs e
    exact b.lst c ys e1, fun c xs e => b.dk c xs (a.dk c xs e)⟩
theorem KL.same {m : Addr} {H H1 H2 : Hp} (a : KL m H H1) (s : Same H1 H2) : KL m H H2 := a.trans (Same.kl s)
/-- a list that is newer than H is changed -/
theorem KL.loc {m l : Addr} {H H1 H2 : Hp} (a : KL m H H1) (b : KL l H1 H2) (hl : H l = none) : KL m H H2 :=
  ⟨fun c o hc e => b.keep c o (ne_of_none e hl) (a.keep c o hc e), fun c xs e => b.tup c xs (a.tup c xs e), fun c C dx fs e => b.ins c C dx fs (a.ins c C dx fs e), fun c e => a.live c (b.live c e), fun c xs e => by
    obtain ⟨ys, e1⟩ := a.lst c xs e
    exact b.lst c ys e1, fun c xs e => b.dk c xs (a.dk c xs e)⟩
theorem same_loc {l : Addr} {H H1 H2 : Hp} (a : Same H H1) (b : KL l H1 H2) (hl : H l = none) : Same H H2 :=
  fun c o e => b.keep c o (ne_of_none e hl) (a c o e)
theorem same_upd {H : Hp} {p : Addr} {o : HO} (h : H p = none) : Same H (upd H p o) := fun b u e => by rw [upd_ne (ne_of_none e h)]; exact e
theorem kl_upd {H : Hp} {p : Addr} {xs : List V} {ys : List V} (h : H p = some (.lst xs)) : KL p H (upd H p (.lst ys)) := by
  refine ⟨fun b o hb e => by rw [upd_ne hb]; exact e, fun b zs e => ?_, fun b C dx fs e => ?_, fun b e => ?_, fun b zs e => ?_, fun b zs e => ?_⟩
  · rw [upd_ne (ne_of e h (by intro q; cases q))]; exact e
  · rw [upd_ne (ne_of e h (by intro q; cases q))]; exact e
  · by_cases hb : b = p
    · subst hb; rw [upd_same] at e; cases e
    · rw [upd_ne hb] at e; exact e
  · by_cases hb : b = p
    · subst hb; exact ⟨ys, upd_same⟩
    · exact ⟨zs, by rw [upd_ne hb]; exact e⟩
  · rw [upd_ne (ne_of e h (by intro q; cases q))]; exact e
theorem Same.free' {H H' : Hp} {l : Addr} (s : Same H H') (h : H' l = none) : H l = none := s.free h
theorem KL.free {m : Addr} {H H' : Hp} {l : Addr} (s : KL m H H') (h : H' l = none) : H l = none := s.live l h
/-- a new object -/
theorem new_obj {H : Hp} {o : HO} {Q : V → Hp → Prop} (q : ∀ p H', H p = none → Same H H' → H' p = some o → Q (.ref p) H') : ∀ p, H p = none → Q (.ref p) (upd H p o) :=
  fun p hp => q p _ hp (same_upd hp) upd_same
theorem ne_fresh {H : Hp} {a b : Addr} {o : HO} (h : H a = none) (h' : H b = some o) : a ≠ b := fun e => by rw [e, h'] at h; cases h
theorem ne_fresh' {H : Hp} {a b : Addr} {o : HO} (h : H b = none) (h' : H a = some o) : a ≠ b := fun e => by rw [← e, h'] at h; cases h

/-! ### immutable data -/
mutual
def Im (H : Hp) : V → PyData → Prop
  | v, .none => v = .non
  | v, .bool b => v = .bl b
  | v, .int i => v = .int i
  | v, .str x => v = .str x
  | v, .tuple ds => ∃ a vs, v = .ref a ∧ H a = some (.tup vs) ∧ ImL H vs ds
  | _, .list _ => False
  | _, .dict _ => False
def ImL (H : Hp) : List V → List PyData → Prop
  | [], [] => True
  | v :: vs, d :: ds => Im H v d ∧ ImL H vs ds
  | [], _ :: _ => False
  | _ :: _, [] => False
end
mutual
theorem Im.mono {H H' : Hp} (t : ∀ b xs, H b = some (.tup xs) → H' b = some (.tup xs)) : ∀ {v : V} (d : PyData), Im H v d → Im H' v d
  | _, .none, h => by simpa [Im] using h
  | _, .bool _, h => by simpa [Im] using h
  | _, .int _, h => by simpa [Im] using h
  | _, .str _, h => by simpa [Im] using h
  | _, .tuple ds, h => by
    simp only [Im] at h ⊢
    obtain ⟨a, vs, e, ha, hl⟩ := h
    exact ⟨a, vs, e, t _ _ ha, ImL.mono t ds hl⟩
  | _, .list _, h => by simp [Im] at h
  | _, .dict _, h => by simp [Im] at h
theorem ImL.mono {H H' : Hp} (t : ∀ b xs, H b = some (.tup xs) → H' b = some (.tup xs)) : ∀ {vs : List V} (ds : List PyData), ImL H vs ds → ImL H' vs ds
  | [], [], _ => by simp [ImL]
  | v :: vs, d :: ds, h => by
    simp only [ImL] at h ⊢
    exact ⟨Im.mono t d h.1, ImL.mono t ds h.2⟩
  | [], _ :: _, h => by simp [ImL] at h
  | _ :: _, [], h => by simp [ImL] at h
end
mutual
theorem Im.dp {K : PySem.W.Frag} {H : Hp} : ∀ {v : V} (d : PyData), Im H v d → Dp K H v d
  | _, .none, h => by simp only [Im] at h; subst h; exact .non
  | _, .bool _, h => by simp only [Im] at h; subst h; exact .bl _
  | _, .int _, h => by simp only [Im] at h; subst h; exact .int _
  | _, .str _, h => by simp only [Im] at h; subst h; exact .str _
  | _, .tuple ds, h => by
    simp only [Im] at h
    obtain ⟨a, vs, e, ha, hl⟩ := h
    subst e
    exact .tup (SqT.of ha) (ImL.dp ds hl)
  | _, .list _, h => by simp [Im] at h
  | _, .dict _, h => by simp [Im] at h
theorem ImL.dp {K : PySem.W.Frag} {H : Hp} : ∀ {vs : List V} (ds : List PyData), ImL H vs ds → DpAll K H vs ds
  | [], [], _ => .nil
  | v :: vs, d :: ds, h => by
    simp only [ImL] at h
    exact .cons (Im.dp d h.1) (ImL.dp ds h.2)
  | [], _ :: _, h => by simp [ImL] at h
  | _ :: _, [], h => by simp [ImL] at h
end
theorem ImL.length {H : Hp} : ∀ {vs : List V} {ds : List PyData}, ImL H vs ds → vs.length = ds.length
  | [], [], _ => rfl
  | v :: vs, d :: ds, h => by
    simp only [ImL] at h
    simp [ImL.length h.2]
  | [], _ :: _, h => by simp [ImL] at h
  | _ :: _, [], h => by simp [ImL] at h
theorem ImL.get {H : Hp} : ∀ {vs : List V} {ds : List PyData} {i : Nat} {v : V}, ImL H vs ds → vs[i]? = some v → ∃ d, ds[i]? = some d ∧ Im H v d
  | [], [], _, _, _, e => by simp at e
  | v :: vs, d :: ds, 0, w, h, e => by
    simp only [ImL] at h
    simp at e
    subst e
    exact ⟨d, rfl, h.1⟩
  | v :: vs, d :: ds, i + 1, w, h, e => by
    simp only [ImL] at h
    obtain ⟨x, h1, h2⟩ := ImL.get (i := i) h.2 (by simpa using e)
    exact ⟨x, by simpa using h1, h2⟩
  | [], _ :: _, _, _, h, _ => by simp [ImL] at h
  | _ :: _, [], _, _, h, _ => by simp [ImL] at h
theorem ImL.get' {H : Hp} {vs : List V} {ds : List PyData} {i : Nat} {d : PyData} (h : ImL H vs ds) (e : ds[i]? = some d) : ∃ v, vs[i]? = some v ∧ Im H v d := by
  have hl := h.length
  have hi : i < ds.length := by
    rcases Nat.lt_or_ge i ds.length with h1 | h1
    · exact h1
    · rw [List.getElem?_eq_none h1] at e; cases e
  have hv : vs[i]? = some vs[i] := List.getElem?_eq_getElem (by omega)
  obtain ⟨d', h1, h2⟩ := h.get hv
  rw [e] at h1
  cases h1
  exact ⟨_, hv, h2⟩
theorem ImL.append {H : Hp} : ∀ {vs : List V} {ds : List PyData} {ws : List V} {es : List PyData}, ImL H vs ds → ImL H ws es → ImL H (vs ++ ws) (ds ++ es)
  | [], [], _, _, _, q => q
  | v :: vs, d :: ds, _, _, h, q => by
    simp only [ImL] at h
    simp only [List.cons_append, ImL]
    exact ⟨h.1, ImL.append h.2 q⟩
  | [], _ :: _, _, _, h, _ => by simp [ImL] at h
  | _ :: _, [], _, _, h, _ => by simp [ImL] at h
theorem ImL.take {H : Hp} : ∀ {vs : List V} {ds : List PyData} (n : Nat), ImL H vs ds → ImL H (vs.take n) (ds.take n)
  | _, _, 0, _ => by simp [ImL]
  | [], [], n + 1, h => by simp [ImL]
  | v :: vs, d :: ds, n + 1, h => by
    simp only [ImL] at h
    simp only [List.take_succ_cons, ImL]
    exact ⟨h.1, ImL.take n h.2⟩
  | [], _ :: _, _ + 1, h => by simp [ImL] at h
  | _ :: _, [], _ + 1, h => by simp [ImL] at h
theorem ImL.drop {H : Hp} : ∀ {vs : List V} {ds : List PyData} (n : Nat), ImL H vs ds → ImL H (vs.drop n) (ds.drop n)
  | _, _, 0, h => h
  | [], [], n + 1, h => by simp [ImL]
  | v :: vs, d :: ds, n + 1, h => by
    simp only [ImL] at h
    simp only [List.drop_succ_cons]
    exact ImL.drop n h.2
  | [], _ :: _, _ + 1, h => by simp [ImL] at h
  | _ :: _, [], _ + 1, h => by simp [ImL] at h
theorem ImL.ints {H : Hp} : ∀ (ns : List Int), ImL H (ns.map V.int) (ns.map PyData.int)
  | [] => by simp [ImL]
  | n :: ns => by simp only [List.map_cons, ImL, Im]; exact ⟨trivial, ImL.ints ns⟩
theorem Im.tup {H : Hp} {a : Addr} {vs : List V} {ds : List PyData} (h : H a = some (.tup vs)) (l : ImL H vs ds) : Im H (.ref a) (.tuple ds) := by
  simp only [Im]; exact ⟨a, vs, rfl, h, l⟩
theorem Im.int' {H : Hp} {i : Int} : Im H (.int i) (.int i) := by simp [Im]

/-! ### keeping: transport along Same and KL -/
section
variable {m l : Addr} {H H' : Hp}
theorem sm_at {o : HO} {b : Addr} (s : Same H H') (h : H b = some o) : H' b = some o := s b o h
theorem kl_at {o : HO} {b : Addr} (s : KL m H H') (n : b ≠ m) (h : H b = some o) : H' b = some o := s.keep b o n h
theorem kl_tup {b : Addr} {xs : List V} (s : KL m H H') (h : H b = some (.tup xs)) : H' b = some (.tup xs) := s.tup b xs h
theorem kl_ins {b C dx : Addr} {fs : List (Str × V)} (s : KL m H H') (h : H b = some (.ins C dx fs)) : H' b = some (.ins C dx fs) := s.ins b C dx fs h
theorem sm_im {v : V} {d : PyData} (s : Same H H') (h : Im H v d) : Im H' v d := Im.mono (fun b xs e => s b _ e) d h
theorem kl_im {v : V} {d : PyData} (s : KL m H H') (h : Im H v d) : Im H' v d := Im.mono s.tup d h
theorem sm_iml {v : List V} {d : List PyData} (s : Same H H') (h : ImL H v d) : ImL H' v d := ImL.mono (fun b xs e => s b _ e) d h
theorem kl_iml {v : List V} {d : List PyData} (s : KL m H H') (h : ImL H v d) : ImL H' v d := ImL.mono s.tup d h
theorem sm_sql {K : PySem.W.Frag} {a : Addr} {xs : List V} (s : Same H H') (h : SqL K H a xs) : SqL K H' a xs := s.seq h
theorem kl_sql {K : PySem.W.Frag} {a : Addr} {xs : List V} (s : KL m H H') (n : a ≠ m) (h : SqL K H a xs) : SqL K H' a xs := by
  rcases h with (h | ⟨o, h⟩) | h
  · exact .inl (.inl (s.keep _ _ n h))
  · exact .inl (.inr ⟨o, s.keep _ _ n h⟩)
  · exact .inr h
end

/-! ### the law's hand: a list that draws change -/
def Hand (H : Hp) (m c : Addr) : Prop := ∃ (i h s k : Int) (cells : List Int), H m = some (.lst [.ref c, .int i, .int h, .int s, .int k]) ∧ H c = some (.lst (cells.map V.int)) ∧ c ≠ m ∧ 0 ≤ i
theorem sm_hand {m c : Addr} {H H' : Hp} (s : Same H H') (h : Hand H m c) : Hand H' m c := by
  obtain ⟨i, x, y, z, cells, e, q, n, i0⟩ := h
  exact ⟨i, x, y, z, cells, s _ _ e, s _ _ q, n, i0⟩
theorem hand_ne {H : Hp} {m c l : Addr} (h : H l = none) (hd : Hand H m c) : m ≠ l ∧ c ≠ l := by
  obtain ⟨i, x, y, z, cells, e, q, n, i0⟩ := hd
  exact ⟨ne_fresh' h e, ne_fresh' h q⟩
theorem kl_hand {m c l : Addr} {H0 H H' : Hp} (s : KL l H H') (h0 : H0 l = none) (hd : Hand H0 m c) (h : Hand H m c) : Hand H' m c := by
  obtain ⟨n1, n2⟩ := hand_ne h0 hd
  obtain ⟨i, x, y, z, cells, e, q, n, i0⟩ := h
  exact ⟨i, x, y, z, cells, s.keep _ _ n1 e, s.keep _ _ n2 q, n, i0⟩
end QW

namespace QW
open PySem L2

/-! ### readings, one lemma a construct -/
abbrev oAdd : R2 := rI0 fun i j => .int (i + j)
abbrev oSub : R2 := rI0 fun i j => .int (i - j)
abbrev oMul : R2 := rI IntMulOk fun i j => .int (i * j)
theorem op_mulA {X : Cx} : OpR X (binaryOp .Mult) oMul := opI fun _ _ _ _ _ _ _ hc q => PyProof.Rows.mul_int q hc
theorem mul_wide {i j : Int} {a b : Nat} (ha : i.natAbs < 2 ^ a) (hb : j.natAbs < 2 ^ b) (h : a + b ≤ 134217728) : IntMulOk i j := (mulx_ok ha hb h).ok
abbrev oDiv : R2 := rI CDivW fun i j => .int (i / j)
abbrev oMod : R2 := rI (fun _ j => 0 < j) fun i j => .int (i % j)
abbrev oPow : R2 := rI CPow fun i j => .int (i ^ j.toNat)
abbrev oShl : R2 := rI CPow fun i j => .int (i * 2 ^ j.toNat)
abbrev oAnd : R2 := rI0 fun i j => .int (Builtin.bitAnd i j)
abbrev oLt : R2 := rI0 fun i j => .bl (decide (i < j))
abbrev oLe : R2 := rI0 fun i j => .bl (decide (i ≤ j))
abbrev oGt : R2 := rI0 fun i j => .bl (decide (j < i))
abbrev oGe : R2 := rI0 fun i j => .bl (decide (j ≤ i))
abbrev oIsN : R2 := fun x y H Q => y = .non ∧ Q (.bl (decide (x = .non))) H
abbrev oNotN : R2 := fun x y H Q => y = .non ∧ Q (.bl (!decide (x = .non))) H
abbrev uNeg : V → Hp → VK → Prop := rU fun i => .int (-i)
abbrev cLen (K : PySem.W.Frag) : List V → Hp → VK → Prop := fun xs H Q => ∃ x n, xs = [x] ∧ LenV K x H n ∧ Q (V.int (n : Nat)) H
abbrev cAbs : List V → Hp → VK → Prop := fun xs H Q => ∃ i, xs = [.int i] ∧ Q (.int (if i < 0 then -i else i)) H
abbrev cMax2 : List V → Hp → VK → Prop := fun xs H Q => ∃ i j, xs = [.int i, .int j] ∧ Q (.int (if j > i then j else i)) H
abbrev cMin2 : List V → Hp → VK → Prop := fun xs H Q => ∃ i j, xs = [.int i, .int j] ∧ Q (.int (if j < i then j else i)) H
abbrev cInt1 : List V → Hp → VK → Prop := fun xs H Q => (∃ i, xs = [.int i] ∧ Q (.int i) H) ∨ ∃ k, xs = [.bl k] ∧ Q (.int (if k then 1 else 0)) H
abbrev cTup (K : PySem.W.Frag) : List V → Hp → VK → Prop := fun xs H Q => ∃ p ys, xs = [.ref p] ∧ ((SqL K H p ys ∧ ∀ l, H l = none → Q (.ref l) (upd H l (.tup ys))) ∨ (SqT K H p ys ∧ Q (.ref p) H))
abbrev cList (K : PySem.W.Frag) : List V → Hp → VK → Prop := fun xs H Q => ∃ p ys, xs = [.ref p] ∧ (SqL K H p ys ∨ SqT K H p ys) ∧ ∀ l, H l = none → Q (.ref l) (upd H l (.lst ys))
def rLcm : List V → Hp → VK → Prop := fun vs H Q => ∃ a b : Int, vs = [.int a, .int b] ∧ 0 < a ∧ 0 < b ∧ a.natAbs.log2 < 13000 ∧ b.natAbs.log2 < 13000 ∧ Q (.int ((Nat.lcm a.natAbs b.natAbs : Nat) : Int)) H

section
variable {K : PySem.W.Frag} {D : Ends} {σ : St} {H : Hp} {Q : VK}
theorem i_seq {t u : TS} (h : t { D with nx := u D } σ H) : tSeq t u D σ H := h
theorem i_cut {t u : TS} (R : St → Hp → Prop) (h1 : ∀ N : St → Hp → Prop, (∀ σ H, R σ H → N σ H) → t { D with nx := N } σ H) (h2 : ∀ σ H, R σ H → u D σ H) : tSeq t u D σ H := h1 (u D) h2
theorem i_set {te : TE} {i : Nat} (h : te σ H (fun x H1 => D.nx (σ.set i (some x)) H1)) : tAsg te (gName i) D σ H := h
theorem i_asg {te : TE} {g : TG} (h : te σ H (fun x H1 => g x σ H1 D.nx)) : tAsg te g D σ H := h
theorem i_drop {te : TE} (h : te σ H fun _ H1 => D.nx σ H1) : tDrop te D σ H := h
theorem i_ret {te : TE} (h : te σ H D.rt) : tRet te D σ H := h
theorem i_next (h : D.nx σ H) : tNext D σ H := h
theorem i_break (h : D.bk σ H) : tBreak D σ H := h
theorem i_cont (h : D.ct σ H) : tCont D σ H := h
theorem i_ifS {c : TT} {t u : TS} (h : c σ H fun b H1 => if b = true then t D σ H1 else u D σ H1) : tIfS c t u D σ H := h
theorem i_var {i : Nat} {v : V} (h : σ[i]? = some (some v)) (q : Q v H) : tVar i σ H Q := ⟨v, h, q⟩
theorem i_c {v : V} (q : Q v H) : tC v σ H Q := q
theorem i_op {r : R2} {ta tb : TE} (h : ta σ H fun x H1 => tb σ H1 fun y H2 => r x y H2 Q) : tOp r ta tb σ H Q := h
theorem i_un {r : V → Hp → VK → Prop} {ta : TE} (h : ta σ H fun x H1 => r x H1 Q) : tUn r ta σ H Q := h
theorem i_rI0 {g : Int → Int → V} {i j : Int} (q : Q (g i j) H) : rI0 g (.int i) (.int j) H Q := ⟨i, j, rfl, rfl, q⟩
theorem i_rI {C : Int → Int → Prop} {g : Int → Int → V} {i j : Int} (c : C i j) (q : Q (g i j) H) : rI C g (.int i) (.int j) H Q := ⟨i, j, rfl, rfl, c, q⟩
theorem i_rU {g : Int → V} {i : Int} (q : Q (g i) H) : rU g (.int i) H Q := ⟨i, rfl, q⟩
theorem i_eq {x y : V} (hs : scal x y = true) (q : Q (.bl (decide (x = y))) H) : rEq x y H Q := ⟨hs, q⟩
theorem i_ne {x y : V} (hs : scal x y = true) (q : Q (.bl (!decide (x = y))) H) : rNe x y H Q := ⟨hs, q⟩
theorem i_eqD {x y : V} {d e : PyData} (h1 : Im H x d) (h2 : Im H y e) (s1 : SeqAt.shaped d = true) (s2 : SeqAt.shaped e = true) (q : Q (.bl (PyData.eqv d e)) H) : rEqD K x y H Q := ⟨d, e, Im.dp d h1, Im.dp e h2, s1, s2, q⟩
theorem i_neD {x y : V} {d e : PyData} (h1 : Im H x d) (h2 : Im H y e) (s1 : SeqAt.shaped d = true) (s2 : SeqAt.shaped e = true) (q : Q (.bl (!PyData.eqv d e)) H) : rNeD K x y H Q := ⟨d, e, Im.dp d h1, Im.dp e h2, s1, s2, q⟩
theorem i_test {te : TE} {QB : Bool → Hp → Prop} (h : te σ H fun x H' => ∃ k, x = .bl k ∧ QB k H') : tTest te σ H QB := h
theorem i_b {te : TE} {QB : Bool → Hp → Prop} (h : te σ H fun x H1 => ∃ c, x = .bl c ∧ QB c H1) : tB te σ H QB := h
theorem i_bk {QB : Bool → Prop} {k : Bool} (h : QB k) : ∃ c, V.bl k = V.bl c ∧ QB c := ⟨k, rfl, h⟩
theorem i_and {t u : TT} {QB : Bool → Hp → Prop} (h : t σ H fun c H1 => if c = true then u σ H1 QB else QB false H1) : tAnd t u σ H QB := h
theorem i_or {t u : TT} {QB : Bool → Hp → Prop} (h : t σ H fun c H1 => if c = true then QB true H1 else u σ H1 QB) : tOr t u σ H QB := h
theorem i_not {t : TT} {QB : Bool → Hp → Prop} (h : t σ H fun c H1 => QB (!c) H1) : tNot t σ H QB := h
theorem i_andV {ta tb : TE} (h : ta σ H fun x H1 => ∃ c, x = .bl c ∧ if c = true then tb σ H1 Q else Q (.bl false) H1) : tAndV ta tb σ H Q := h
theorem i_orV {ta tb : TE} (h : ta σ H fun x H1 => ∃ c, x = .bl c ∧ if c = true then Q (.bl true) H1 else tb σ H1 Q) : tOrV ta tb σ H Q := h
theorem i_notV {ta : TE} (h : ta σ H fun x H1 => ∃ c, x = .bl c ∧ Q (.bl (!c)) H1) : tNotV ta σ H Q := h
theorem i_ifE {t : TT} {ta tb : TE} (h : t σ H fun c H1 => if c = true then ta σ H1 Q else tb σ H1 Q) : tIf t ta tb σ H Q := h
theorem i_chain {r r' : R2} {ta tb tc : TE} (h : ta σ H fun x H1 => tb σ H1 fun y H2 => r x y H2 fun z H3 => ∃ k, z = .bl k ∧ (if k = true then tc σ H3 fun w' H4 => r' y w' H4 Q else Q (.bl false) H3)) : tChain r r' ta tb tc σ H Q := h
theorem i_nil {QA : List V → Hp → Prop} (q : QA [] H) : tNil σ H QA := q
theorem i_cons {ta : TE} {tr : TA} {QA : List V → Hp → Prop} (h : ta σ H fun x H1 => tr σ H1 fun xs H2 => QA (x :: xs) H2) : tCons ta tr σ H QA := h
def NewO (n : Nat) (H : Hp) (o : HO) (Q : VK) : Prop := n ≤ sizeLine ∧ ∀ p, H p = none → Q (.ref p) (upd H p o)
theorem i_newO {o : HO} {n : Nat} (hn : n ≤ sizeLine) (q : ∀ p H', H p = none → Same H H' → H' p = some o → Q (.ref p) H') : NewO n H o Q := ⟨hn, new_obj q⟩
theorem i_tupE {t : TA} (h : t σ H fun xs H1 => NewO xs.length H1 (.tup xs) Q) : tTup t σ H Q := h
theorem i_lstE {t : TA} (h : t σ H fun xs H1 => NewO xs.length H1 (.lst xs) Q) : tLst t σ H Q := h
theorem i_new {o : HO} {n : Nat} (hn : n ≤ sizeLine) (q : ∀ p H', H p = none → Same H H' → H' p = some o → Q (.ref p) H') : n ≤ sizeLine ∧ ∀ p, H p = none → Q (.ref p) (upd H p o) := ⟨hn, new_obj q⟩
theorem i_call {sp : Sp} {t : TA} {E : XK} (h : t σ H fun vs H1 => sp vs H1 Q E) (mono : ∀ {H : Hp} {QA QA' : List V → Hp → Prop}, (∀ xs H, QA xs H → QA' xs H) → t σ H QA → t σ H QA') : tCall sp [] E t σ H Q :=
  mono (fun xs H1 q => by rw [List.append_nil]; exact q) h
theorem i_callE {sp : Sp} {t : TA} {E : XK} (h : t σ H fun vs H1 => sp (vs ++ []) H1 Q E) : tCall sp [] E t σ H Q := h
def MakeO (Cc : Addr) (sp : Sp) (vs : List V) (H1 : Hp) (Q : VK) (E : XK) : Prop := ∀ x dx, H1 x = none → H1 dx = none → dx ≠ x → sp (.ref x :: (vs ++ [])) (upd (upd H1 dx (.own x)) x (.ins Cc dx [])) (fun v H2 => v = .non ∧ Q (.ref x) H2) E
theorem i_make {Cc : Addr} {sp : Sp} {t : TA} {E : XK} (h : t σ H fun vs H1 => MakeO Cc sp vs H1 Q E) : tMake Cc sp [] E t σ H Q := h
theorem makeO_of {Cc : Addr} {sp : Sp} {vs : List V} {E : XK} (h : ∀ x dx H', H x = none → Same H H' → H' x = some (.ins Cc dx []) → sp (.ref x :: (vs ++ [])) H' (fun v H2 => v = .non ∧ Q (.ref x) H2) E) : MakeO Cc sp vs H Q E :=
  fun x dx nx nd ne => h x dx _ nx (fun b u hb => by rw [upd_ne (ne_of_none hb nx), upd_ne (ne_of_none hb nd)]; exact hb) upd_same
theorem i_cb {r : List V → Hp → VK → Prop} {t : TA} (h : t σ H fun vs H1 => r vs H1 Q) : tCB r t σ H Q := h
theorem i_len {p : Addr} {xs : List V} (h : H p = some (.lst xs)) (q : Q (.int (xs.length : Nat)) H) : cLen K [.ref p] H Q := ⟨_, _, rfl, .inl ⟨xs, SqL.of h, rfl⟩, q⟩
theorem i_lenT {p : Addr} {xs : List V} (h : H p = some (.tup xs)) (q : Q (.int (xs.length : Nat)) H) : cLen K [.ref p] H Q := ⟨_, _, rfl, .inr ⟨xs, SqT.of h, rfl⟩, q⟩
theorem i_abs {i : Int} (q : Q (.int (i.natAbs : Nat)) H) : cAbs [.int i] H Q := ⟨i, rfl, by
  have e : (if i < 0 then -i else i) = (i.natAbs : Nat) := by split <;> omega
  rw [e]; exact q⟩
theorem i_int1 {i : Int} (q : Q (.int i) H) : cInt1 [.int i] H Q := .inl ⟨i, rfl, q⟩
theorem i_max2 {i j : Int} (q : Q (.int (max i j)) H) : cMax2 [.int i, .int j] H Q := ⟨i, j, rfl, by
  have e : (if j > i then j else i) = max i j := by rw [Int.max_def]; split <;> split <;> omega
  rw [e]; exact q⟩
theorem i_min2 {i j : Int} (q : Q (.int (min i j)) H) : cMin2 [.int i, .int j] H Q := ⟨i, j, rfl, by
  have e : (if j < i then j else i) = min i j := by rw [Int.min_def]; split <;> split <;> omega
  rw [e]; exact q⟩
theorem i_ctupL {p : Addr} {ys : List V} (h : H p = some (.lst ys)) (q : ∀ l H', H l = none → Same H H' → H' l = some (.tup ys) → Q (.ref l) H') : cTup K [.ref p] H Q := ⟨p, ys, rfl, .inl ⟨SqL.of h, new_obj q⟩⟩
theorem i_ixL {p : Addr} {xs : List V} {i : Int} {v : V} (h : H p = some (.lst xs)) (e : atI xs i = some v) (q : Q v H) : rIxL K (.ref p) (.int i) H Q := ⟨p, xs, i, v, rfl, rfl, SqL.of h, e, q⟩
theorem atI_i {xs : List V} {i : Int} (h0 : 0 ≤ i) (h1 : i < (xs.length : Nat)) : ∃ v, xs[i.toNat]? = some v ∧ atI xs i = some v := by
  have hl : i.toNat < xs.length := by omega
  refine ⟨xs[i.toNat], List.getElem?_eq_getElem hl, ?_⟩
  unfold atI ixN
  rw [if_pos h0, if_pos h1]
  exact List.getElem?_eq_getElem hl
theorem atI_ints {ns : List Int} {i : Int} (h0 : 0 ≤ i) (h1 : i < (ns.length : Nat)) : ∃ n, ns[i.toNat]? = some n ∧ atI (ns.map V.int) i = some (.int n) := by
  obtain ⟨v, e1, e2⟩ := atI_i (xs := ns.map V.int) h0 (by rw [List.length_map]; exact h1)
  rw [List.getElem?_map] at e1
  cases q : ns[i.toNat]? with
  | none => rw [q] at e1; cases e1
  | some n => rw [q] at e1; cases e1; exact ⟨n, rfl, e2⟩
theorem i_ixT {p : Addr} {xs : List V} {i : Int} {v : V} (h : H p = some (.tup xs)) (e : atI xs i = some v) (q : Q v H) : rIxT K (.ref p) (.int i) H Q := ⟨p, xs, i, v, rfl, rfl, SqT.of h, e, q⟩
theorem i_setL {p : Addr} {xs : List V} {k : Int} {j : Nat} {v : V} {QH : Hp → Prop} (h : H p = some (.lst xs)) (e : ixN xs.length k = some j) (q : ∀ H', KL p H H' → H' p = some (.lst (xs.set j v)) → QH H') : rSetL (.ref p) (.int k) v H QH :=
  ⟨p, xs, k, j, rfl, rfl, h, e, q _ (kl_upd h) upd_same⟩
theorem i_gsub {to ti : TE} {t : TSet} {v : V} {QG : St → Hp → Prop} (h : to σ H fun o H1 => ti σ H1 fun i H2 => t o i v H2 fun H3 => QG σ H3) : gSub to ti t v σ H QG := h
theorem i_gname {i : Nat} {v : V} {QG : St → Hp → Prop} (h : QG (σ.set i (some v)) H) : gName i v σ H QG := h
theorem i_gtup2 {a : Addr} {x y : V} {i j : Nat} {QG : St → Hp → Prop} (h : H a = some (.tup [x, y])) (q : QG ((σ.set i (some x)).set j (some y)) H) : gTup K 2 (gCons (gName i) (gCons (gName j) gNil)) (.ref a) σ H QG :=
  ⟨a, [x, y], rfl, SqT.of h, rfl, x, [y], rfl, y, [], rfl, rfl, q⟩
theorem i_append {l : Addr} {xs : List V} {y : V} (h : H l = some (.lst xs)) (n : xs.length < sizeLine) (q : ∀ H', KL l H H' → H' l = some (.lst (xs ++ [y])) → Q .non H') : rAppend (.ref l) [y] H Q :=
  ⟨l, xs, y, rfl, rfl, h, n, q _ (kl_upd h) upd_same⟩
theorem i_bm {T : String} {r : V → List V → Hp → VK → Prop} {to : TE} {t : TA} (h : to σ H fun x H1 => tyV K T x H1 ∧ t σ H1 fun xs H2 => r x xs H2 Q) : tBM K T r to t σ H Q := h
theorem i_tyL {l : Addr} {xs : List V} {P : Prop} (h : H l = some (.lst xs)) (q : P) : tyV K "list" (.ref l) H ∧ P := ⟨.inl ⟨rfl, _, SqL.of h⟩, q⟩
theorem i_cat {l b : Addr} {xs zs : List V} (h : H l = some (.lst xs)) (h' : H b = some (.lst zs)) (n : xs.length + zs.length ≤ sizeLine) (q : ∀ p H', H p = none → Same H H' → H' p = some (.lst (xs ++ zs)) → Q (.ref p) H') : rCat (.ref l) (.ref b) H Q :=
  ⟨l, b, xs, zs, rfl, rfl, h, h', n, new_obj q⟩
theorem i_sl {r : V → Option Int → Option Int → Hp → VK → Prop} {te : TE} {tl th : TO} (h : te σ H fun x H1 => tl σ H1 fun l H2 => th σ H2 fun u H3 => r x l u H3 Q) : tSl r te tl th σ H Q := h
theorem i_noPart {QO : Option Int → Hp → Prop} (q : QO none H) : tNoPart σ H QO := q
theorem i_part {t : TE} {QO : Option Int → Hp → Prop} (h : t σ H fun x H1 => ∃ i, x = .int i ∧ QO (some i) H1) : tPart t σ H QO := h
theorem i_partI {QO : Int → Prop} {i : Int} (q : QO i) : ∃ j, V.int i = .int j ∧ QO j := ⟨i, rfl, q⟩
theorem i_slL {a : Addr} {xs : List V} {lo hi : Option Int} (h : H a = some (.lst xs)) (q : ∀ p H', H p = none → Same H H' → H' p = some (.lst (cutV xs lo hi)) → Q (.ref p) H') : rSlL K (.ref a) lo hi H Q := ⟨a, xs, rfl, SqL.of h, new_obj q⟩
def RevO (K : PySem.W.Frag) (x : V) (H1 : Hp) (Q : VK) : Prop := ∃ a xs, x = .ref a ∧ SqL K H1 a xs ∧ ∀ p, H1 p = none → Q (.ref p) (upd H1 p (.lst xs.reverse))
theorem i_revL {te : TE} (h : te σ H fun x H1 => RevO K x H1 Q) : tRevL K te σ H Q := h
theorem i_revL' {a : Addr} {xs : List V} (h : H a = some (.lst xs)) (q : ∀ p H', H p = none → Same H H' → H' p = some (.lst xs.reverse) → Q (.ref p) H') : RevO K (.ref a) H Q := ⟨a, xs, rfl, SqL.of h, new_obj q⟩
theorem i_gcd {a b : Int} (q : Q (.int ((Nat.gcd a.natAbs b.natAbs : Nat) : Int)) H) : rGcd [.int a, .int b] H Q := ⟨a, b, rfl, q⟩
theorem i_fld {ta : TE} {f : Str} (h : ta σ H fun x H1 => ∃ a C dx fs v, x = .ref a ∧ H1 a = some (.ins C dx fs) ∧ Cls K C ∧ NoAttr K C f ∧ fs.lookup f = some v ∧ Q v H1) : tFld K ta f σ H Q := h
theorem i_fld' {P : V → Prop} {a C dx : Addr} {fs : List (Str × V)} {v : V} {f : Str} (h : H a = some (.ins C dx fs)) (c : Cls K C) (n : NoAttr K C f) (e : fs.lookup f = some v) (q : P v) : ∃ b C dx fs v, V.ref a = .ref b ∧ H b = some (.ins C dx fs) ∧ Cls K C ∧ NoAttr K C f ∧ fs.lookup f = some v ∧ P v := ⟨a, C, dx, fs, v, rfl, h, c, n, e, q⟩
theorem i_rsum {a : Addr} {ns : List Int} (h : H a = some (.lst (ns.map V.int))) (q : Q (.int ns.sum) H) : rSum K [.ref a] H Q := ⟨a, ns, rfl, SqL.of h, q⟩
theorem i_rall {a : Addr} {bs : List Bool} (h : H a = some (.lst (bs.map V.bl))) (q : Q (.bl (bs.all id)) H) : rAll K [.ref a] H Q := ⟨a, bs, rfl, SqL.of h, q⟩
theorem ite_d {c : Prop} [Decidable c] {A B : Prop} (h1 : c → A) (h2 : ¬ c → B) : if decide c = true then A else B := by
  by_cases h : c
  · rw [decide_eq_true h]; exact iteT (h1 h)
  · rw [decide_eq_false h]; exact iteF (h2 h)
theorem ite_nd {c : Prop} [Decidable c] {A B : Prop} (h1 : ¬ c → A) (h2 : c → B) : if (!decide c) = true then A else B := by
  by_cases h : c
  · rw [decide_eq_true h]; exact iteF (h2 h)
  · rw [decide_eq_false h]; exact iteT (h1 h)
theorem ite_nT {A B : Prop} (h : B) : if (!true) = true then A else B := iteF h
theorem ite_nF {A B : Prop} (h : A) : if (!false) = true then A else B := iteT h
theorem ite_b {c : Bool} {A B : Prop} (h1 : c = true → A) (h2 : c = false → B) : if c = true then A else B := by
  cases c
  · exact iteF (h2 rfl)
  · exact iteT (h1 rfl)
theorem ite_nb {c : Bool} {A B : Prop} (h1 : c = false → A) (h2 : c = true → B) : if (!c) = true then A else B := by
  cases c
  · exact iteT (h1 rfl)
  · exact iteF (h2 rfl)
end

/-! ### loops -/
section
variable {K : PySem.W.Frag} {D : Ends} {σ : St} {H : Hp} {Q : VK}
def ForR (g : TG) (tb : TS) (D : Ends) (σ : St) (vs : List V) (H1 : Hp) : Prop := ∃ j : Int, vs = [.int j] ∧ -(2 ^ 62) ≤ j ∧ j < 2 ^ 62 ∧ ∃ W : Nat → Nat → St → Hp → Prop, (∃ m, W 0 m σ H1) ∧ ∀ i m σ H, W i m σ H →
  ((Itr 0 j.toNat).stop i H ∧ D.nx σ H) ∨ ((Itr 0 j.toNat).go i H ∧ ∃ N : St → Hp → Prop, (∀ σ' H', N σ' H' → ∃ m', m' < m ∧ W (i + 1) m' σ' H') ∧ ∀ x H', (Itr 0 j.toNat).yld i H x H' → g x σ H' fun σ2 H2 => tb { D with nx := N, ct := N, bk := D.nx } σ2 H2)
theorem i_forR {ta : TA} {g : TG} {tb : TS} (h : ta σ H fun vs H1 => ForR g tb D σ vs H1) : tFor (iRng1 ta) g tb D σ H := h
theorem forR_of {k : Nat} {tb : TS} {j : Int} {n : Nat} (Pv : Nat → St → Hp → Prop) (Bk : St → Hp → Prop) (hj : j = (n : Nat)) (hn : n < 4000000000) (h0 : Pv 0 σ H)
    (hs : ∀ (i : Nat) (σ : St) (H : Hp) (N B : St → Hp → Prop), i < n → Pv i σ H → (∀ σ H, Pv (i + 1) σ H → N σ H) → (∀ σ H, Bk σ H → B σ H) → tb { D with nx := N, ct := N, bk := B } (σ.set k (some (.int (i : Nat)))) H)
    (hd : ∀ σ H, Pv n σ H → D.nx σ H) (hb : ∀ σ H, Bk σ H → D.nx σ H) : ForR (gName k) tb D σ [.int j] H := by
  subst hj
  refine ⟨_, rfl, by omega, by omega, ?_⟩
  rw [Int.toNat_natCast]
  refine for_range (lo := 0) (n := n) Pv h0 (fun i σ H hi p => ?_) hd
  have h := hs i σ H (Pv (i + 1)) D.nx hi p (fun _ _ q => q) hb
  have e : (0 : Int) + ((i : Nat) : Int) = (i : Nat) := by omega
  rw [e]
  exact h
def ForT (K : PySem.W.Frag) (g : TG) (tb : TS) (D : Ends) (σ : St) (x : V) (H1 : Hp) : Prop := ∃ a, x = .ref a ∧ (∃ xs, SqT K H1 a xs) ∧ ∃ W : Nat → Nat → St → Hp → Prop, (∃ m, W 0 m σ H1) ∧ ∀ i m σ H, W i m σ H →
  ((Itt K a).stop i H ∧ D.nx σ H) ∨ ((Itt K a).go i H ∧ ∃ N : St → Hp → Prop, (∀ σ' H', N σ' H' → ∃ m', m' < m ∧ W (i + 1) m' σ' H') ∧ ∀ x H', (Itt K a).yld i H x H' → g x σ H' fun σ2 H2 => tb { D with nx := N, ct := N, bk := D.nx } σ2 H2)
theorem i_forT {tl : TE} {g : TG} {tb : TS} (h : tl σ H fun x H1 => ForT K g tb D σ x H1) : tFor (iTup K tl) g tb D σ H := h
theorem forT_of {g : TG} {tb : TS} {a : Addr} {xs : List V} (ha : H a = some (.tup xs)) (Pv : Nat → St → Hp → Prop) (Bk : St → Hp → Prop) (h0 : Pv 0 σ H) (hl : ∀ i σ H', Pv i σ H' → ∀ b ys, H b = some (.tup ys) → H' b = some (.tup ys))
    (hs : ∀ (i : Nat) (x : V) (σ : St) (H : Hp) (N B : St → Hp → Prop), xs[i]? = some x → Pv i σ H → (∀ σ H, Pv (i + 1) σ H → N σ H) → (∀ σ H, Bk σ H → B σ H) → g x σ H fun σ2 H2 => tb { D with nx := N, ct := N, bk := B } σ2 H2)
    (hd : ∀ σ H, Pv xs.length σ H → D.nx σ H) (hb : ∀ σ H, Bk σ H → D.nx σ H) : ForT K g tb D σ (.ref a) H :=
  ⟨a, rfl, ⟨xs, SqT.of ha⟩, for_tup (K := K) (a := a) (xs := xs) Pv h0 (fun i σ H' _ p => SqT.of (hl i σ H' p a xs ha)) (fun i x σ H hi p => hs i x σ H (Pv (i + 1)) D.nx hi p (fun _ _ q => q) hb) hd⟩
/-! ### comprehensions -/
def LcT (K : PySem.W.Frag) (g : TG) (te : TE) (vs : List Nat) (σ : St) (Q : VK) (x : V) (H1 : Hp) : Prop := ∃ a, x = .ref a ∧ (∃ xs, SqT K H1 a xs) ∧ ∀ D, H1 D = none → ∃ W : Nat → Nat → Hp → Prop, (∃ m, W 0 m (upd H1 D (.lst []))) ∧ ∀ i m H, W i m H →
  ((Itt K a).stop i H ∧ Q (.ref D) H) ∨ ((Itt K a).go i H ∧ ∃ Nx : Hp → Prop, (∀ H', Nx H' → ∃ m', m' < m ∧ W (i + 1) m' H') ∧ ∀ x H', (Itt K a).yld i H x H' → g x (wipe σ vs) H' fun σ2 H2 => wipe σ2 vs = wipe σ vs ∧ tYes σ2 H2 fun b H3 =>
    if b = true then te σ2 H3 fun y H4 => ∃ acc, H4 D = some (.lst acc) ∧ acc.length < sizeLine ∧ Nx (upd H4 D (.lst (acc ++ [y]))) else Nx H3)
theorem i_lcT {tl te : TE} {g : TG} {vs : List Nat} (h : tl σ H fun x H1 => LcT K g te vs σ Q x H1) : tLc (iTup K tl) g tYes te vs σ H Q := h
def LcL (K : PySem.W.Frag) (g : TG) (te : TE) (vs : List Nat) (σ : St) (Q : VK) (x : V) (H1 : Hp) : Prop := ∃ a, x = .ref a ∧ (∃ xs, SqL K H1 a xs) ∧ ∀ D, H1 D = none → ∃ W : Nat → Nat → Hp → Prop, (∃ m, W 0 m (upd H1 D (.lst []))) ∧ ∀ i m H, W i m H →
  ((Itl K a).stop i H ∧ Q (.ref D) H) ∨ ((Itl K a).go i H ∧ ∃ Nx : Hp → Prop, (∀ H', Nx H' → ∃ m', m' < m ∧ W (i + 1) m' H') ∧ ∀ x H', (Itl K a).yld i H x H' → g x (wipe σ vs) H' fun σ2 H2 => wipe σ2 vs = wipe σ vs ∧ tYes σ2 H2 fun b H3 =>
    if b = true then te σ2 H3 fun y H4 => ∃ acc, H4 D = some (.lst acc) ∧ acc.length < sizeLine ∧ Nx (upd H4 D (.lst (acc ++ [y]))) else Nx H3)
theorem i_lcL {tl te : TE} {g : TG} {vs : List Nat} (h : tl σ H fun x H1 => LcL K g te vs σ Q x H1) : tLc (iList K tl) g tYes te vs σ H Q := h
/-- what holds between two turns of a comprehension over data -/
def LcI (H : Hp) (Dl : Addr) (es : List PyData) (F : PyData → PyData) (i : Nat) (H1 : Hp) : Prop :=
  (∀ b o, H b = some o → H1 b = some o) ∧ ∃ ys, H1 Dl = some (.lst ys) ∧ ImL H1 ys ((es.take i).map F)
theorem lcI_0 {H : Hp} {Dl : Addr} {es : List PyData} {F : PyData → PyData} (hD : H Dl = none) : LcI H Dl es F 0 (upd H Dl (.lst [])) :=
  ⟨same_upd hD, [], upd_same, by simp [ImL]⟩
theorem lcI_turn {H : Hp} {Dl : Addr} {es : List PyData} {F : PyData → PyData} {i : Nat} {H1 H3 : Hp} {e : PyData} {y : V} (hD : H Dl = none) (hs : es.length < sizeLine) (he : es[i]? = some e) (p : LcI H Dl es F i H1) (s : Same H1 H3) (hy : Im H3 y (F e)) :
    ∃ acc, H3 Dl = some (.lst acc) ∧ acc.length < sizeLine ∧ LcI H Dl es F (i + 1) (upd H3 Dl (.lst (acc ++ [y]))) := by
  obtain ⟨k, ys, h1, h2⟩ := p
  have hl := h2.length
  refine ⟨ys, s _ _ h1, ?_, ?_, ys ++ [y], upd_same, ?_⟩
  · rw [hl, List.length_map, List.length_take]
    omega
  · exact same_loc (Same.trans k s) (kl_upd (s _ _ h1)) hD
  · have kl := kl_upd (ys := ys ++ [y]) (s _ _ h1)
    have e1 : (es.take (i + 1)).map F = (es.take i).map F ++ [F e] := by
      rw [List.take_add_one, he]; simp
    rw [e1]
    exact ImL.append (kl_iml kl (sm_iml s h2)) (by simp only [ImL]; exact ⟨kl_im kl hy, trivial⟩)
theorem lcT_of {g : TG} {te : TE} {vs : List Nat} {a : Addr} {xs : List V} {es : List PyData} (F : PyData → PyData) (ha : H a = some (.tup xs)) (hl : ImL H xs es) (hz : es.length < sizeLine)
    (turn : ∀ (e : PyData) (x : V) (H1 : Hp) (N : V → Hp → Prop), e ∈ es → Same H H1 → Im H1 x e → (∀ y H3, Same H1 H3 → Im H3 y (F e) → N y H3) → g x (wipe σ vs) H1 fun σ2 H2 => wipe σ2 vs = wipe σ vs ∧ te σ2 H2 N)
    (done : ∀ D H1 ys, H D = none → Same H H1 → H1 D = some (.lst ys) → ImL H1 ys (es.map F) → Q (.ref D) H1) : LcT K g te vs σ Q (.ref a) H := by
  refine ⟨a, rfl, ⟨xs, SqT.of ha⟩, fun Dl hD => ?_⟩
  refine lc_tup (K := K) (a := a) (xs := xs) (tt := tYes) (LcI H Dl es F) (lcI_0 hD) (fun i H' _ p => SqT.of (p.1 _ _ ha)) (fun i x H' hx p => ?_) (fun H' p => ?_)
  · obtain ⟨e, he, hi⟩ := hl.get hx
    exact turn e x H' _ (List.mem_of_getElem? he) p.1 (Im.mono (fun b ys q => p.1 b _ q) e hi) (fun y H3 s hy => lcI_turn hD hz he p s hy)
  · obtain ⟨k, ys, h1, h2⟩ := p
    rw [List.take_of_length_le (by rw [hl.length]; exact Nat.le_refl _)] at h2
    exact done Dl H' ys hD k h1 h2
theorem lcL_of {g : TG} {te : TE} {vs : List Nat} {a : Addr} {xs : List V} {es : List PyData} (F : PyData → PyData) (ha : SqL K H a xs) (hl : ImL H xs es) (hz : es.length < sizeLine)
    (turn : ∀ (e : PyData) (x : V) (H1 : Hp) (N : V → Hp → Prop), e ∈ es → Same H H1 → Im H1 x e → (∀ y H3, Same H1 H3 → Im H3 y (F e) → N y H3) → g x (wipe σ vs) H1 fun σ2 H2 => wipe σ2 vs = wipe σ vs ∧ te σ2 H2 N)
    (done : ∀ D H1 ys, H D = none → Same H H1 → H1 D = some (.lst ys) → ImL H1 ys (es.map F) → Q (.ref D) H1) : LcL K g te vs σ Q (.ref a) H := by
  refine ⟨a, rfl, ⟨xs, ha⟩, fun Dl hD => ?_⟩
  refine lc_list (K := K) (a := a) (xs := xs) (tt := tYes) (LcI H Dl es F) (lcI_0 hD) (fun i H' _ p => Same.seq p.1 ha) (fun i x H' hx p => ?_) (fun H' p => ?_)
  · obtain ⟨e, he, hi⟩ := hl.get hx
    exact turn e x H' _ (List.mem_of_getElem? he) p.1 (Im.mono (fun b ys q => p.1 b _ q) e hi) (fun y H3 s hy => lcI_turn hD hz he p s hy)
  · obtain ⟨k, ys, h1, h2⟩ := p
    rw [List.take_of_length_le (by rw [hl.length]; exact Nat.le_refl _)] at h2
    exact done Dl H' ys hD k h1 h2
theorem i_slLq {a : Addr} {xs : List V} {lo hi : Option Int} (h : SqL K H a xs) (q : ∀ p H', H p = none → Same H H' → H' p = some (.lst (cutV xs lo hi)) → Q (.ref p) H') : rSlL K (.ref a) lo hi H Q := ⟨a, xs, rfl, h, new_obj q⟩
theorem cutV_map (ns : List Int) (lo hi : Option Int) : ∃ ms : List Int, cutV (ns.map V.int) lo hi = ms.map V.int ∧ ms.length ≤ ns.length := by
  refine ⟨(ns.drop (HT.sIx (ns.map V.int).length 0 lo)).take (HT.sIx (ns.map V.int).length (ns.map V.int).length hi - HT.sIx (ns.map V.int).length 0 lo), ?_, ?_⟩
  · unfold cutV
    rw [List.map_take, List.map_drop]
  · rw [List.length_take, List.length_drop]
    omega
end

/-! ### calls -/
structure Okd (P : Program) (w : World) (K : PySem.W.Frag) (mg : Str → Option Value) (base : Heap) (k : Nat) (x : Str) (ps : List Str) (sp : Sp) : Prop where
  ex : ∃ f fd, FnOk P w K mg base CX0 k f fd ps sp ∧ mg x = some (.ref f) ∧ PySem.W.keepIn K (.ref f) = true ∧ Binds K fd ps []
section
variable {X : Cx} {x : Str} {p pos : Pos} {e : Expr} {es : List Expr} {t : TA} {k : Nat} {ps : List Str} {sp : Sp}
theorem pe_callD (Dd : Okd X.prog X.w X.K X.mg X.base k x ps sp) (hr : Room k X.A) (ha : PA X (e :: es) t) (hg : Gl X x := by rfl) (hdb : (x == ("__debug__" : Str)) = false := by decide)
    (he : starEach (e :: es) X.env = (false, eval e X.env) :: starEach es X.env := by rfl) (hpl : (backTo pos (starEach es X.env)).any (·.1) = false := by rfl) : PE X (.Call (.Name x p) (e :: es) [] pos) (tCall sp [] E0 t) := by
  obtain ⟨f, fd, F, h1, h2, h3⟩ := Dd.ex
  exact pe_call F hr hg h1 h2 h3 .nil pass0 ha hdb he hpl
end

/-! ### math.lcm of positive numbers -/
theorem log2_div (n : Nat) (h : n.log2 < 13001) : ¬ n.log2 / 30 + 1 > 450 := by omega
theorem max_log2 {a b c : Nat} (ha : a.log2 < c) (hb : b.log2 < c) : (max a b).log2 < c := by
  rcases Nat.le_total a b with h | h
  · rw [Nat.max_eq_right h]; exact hb
  · rw [Nat.max_eq_left h]; exact ha
theorem log2_mul_lt {a b i j : Nat} (ha : a.log2 < i) (hb : b.log2 < j) (h0 : a ≠ 0) (h1 : b ≠ 0) : (a * b).log2 < i + j := by
  have x : a < 2 ^ i := (Nat.log2_lt h0).mp ha
  have y : b < 2 ^ j := (Nat.log2_lt h1).mp hb
  refine (Nat.log2_lt (Nat.mul_ne_zero h0 h1)).mpr ?_
  rw [Nat.pow_add]
  exact Nat.mul_lt_mul'' x y
theorem log2_le {a b : Nat} (h : a ≤ b) (h0 : a ≠ 0) : a.log2 ≤ b.log2 := by
  have hb : b ≠ 0 := by omega
  have y : b < 2 ^ (b.log2 + 1) := (Nat.log2_lt hb).mp (Nat.lt_succ_self _)
  have z : a.log2 < b.log2 + 1 := (Nat.log2_lt h0).mpr (Nat.lt_of_le_of_lt h y)
  omega
section
variable {X : Cx}
theorem cr_lcm : CallR X (.builtin "math.lcm") rLcm := by
  intro pins s σ H vs us Q I r h
  obtain ⟨a, b, rfl, ha, hb, la, lb, q⟩ := h
  obtain ⟨t, u, rfl⟩ := Vals.int2 r
  have e1 : Nat.lcm 1 a.natAbs = a.natAbs := by simp [Nat.lcm]
  have na : a.natAbs ≠ 0 := by omega
  have nb : b.natAbs ≠ 0 := by omega
  have hle : a.natAbs.lcm b.natAbs ≤ a.natAbs * b.natAbs := Nat.le_of_dvd (Nat.mul_pos (by omega) (by omega)) ⟨a.natAbs.gcd b.natAbs, by rw [Nat.mul_comm (Nat.lcm _ _)]; exact (Nat.gcd_mul_lcm _ _).symm⟩
  have hpos : a.natAbs.lcm b.natAbs ≠ 0 := Nat.pos_iff_ne_zero.mp (Nat.lcm_pos (by omega) (by omega))
  have hl : (a.natAbs.lcm b.natAbs).log2 < 26001 := Nat.lt_of_le_of_lt (log2_le hle hpos) (Nat.lt_of_lt_of_le (log2_mul_lt la lb na nb) (by decide))
  have hm : (max a.natAbs b.natAbs).log2 < 13000 := max_log2 la lb
  have hm1 : (max 1 a.natAbs).log2 < 13000 := max_log2 (by decide) la
  have hz : ((((Nat.lcm 1 a.natAbs).lcm b.natAbs : Nat) : Int)).natAbs.log2 < bitsLine := by
    rw [e1, Int.natAbs_natCast, show bitsLine = 134217728 by decide]
    omega
  have g := PySem.W.mg_run_lcm a t b u (by omega) (by omega) hz
  rw [e1] at g
  exact call_function_meets PySem.W.MGF.kind_lcm PySem.W.MGF.plain_lcm PySem.W.MGF.entry_lcm (PySem.W.MGF.args_lcm _ _) g.meets ⟨.int _, H, I.tok _, ⟨_, rfl⟩, q⟩
end
theorem i_lcm {H : Hp} {Q : VK} {a b : Int} (ha : 0 < a) (hb : 0 < b) (la : a.natAbs.log2 < 13000) (lb : b.natAbs.log2 < 13000) (q : Q (.int ((Nat.lcm a.natAbs b.natAbs : Nat) : Int)) H) : rLcm [.int a, .int b] H Q := ⟨a, b, rfl, ha, hb, la, lb, q⟩
/-! ### answers -/
/-- a value that is d, all that stood stands -/
def Ret (H : Hp) (Q : VK) (d : PyData) : Prop := ∀ v H', Same H H' → Im H' v d → Q v H'
/-- the same, the hand at m drawn from -/
def RetM (m c : Addr) (H : Hp) (Q : VK) (d : PyData) : Prop := ∀ v H', KL m H H' → Hand H' m c → Im H' v d → Q v H'
theorem Ret.tup {H : Hp} {Q : VK} {ds : List PyData} {vs : List V} (r : Ret H Q (.tuple ds)) (H1 : Hp) (s : Same H H1) (l : ImL H1 vs ds) : ∀ p H', H1 p = none → Same H1 H' → H' p = some (.tup vs) → Q (.ref p) H' :=
  fun p H' _ s' e => r _ _ (s.trans s') (Im.tup e (sm_iml s' l))
theorem Ret.int {H : Hp} {Q : VK} {i : Int} (r : Ret H Q (.int i)) (H1 : Hp) (s : Same H H1) : Q (.int i) H1 := r _ _ s Im.int'
/-- shaped data -/
def Fl : PyData → Bool
  | .int _ => true
  | _ => false
theorem canAll_of {ds : List PyData} : (∀ d ∈ ds, d.canLay0 = true) → PyData.canLayAll0 ds = true := by
  induction ds with
  | nil => intro _; rfl
  | cons d ds ih =>
    intro h
    simp only [PyData.canLayAll0, Bool.and_eq_true]
    exact ⟨h d List.mem_cons_self, ih fun e he => h e (List.mem_cons_of_mem _ he)⟩
theorem depthAll_of {ds : List PyData} {n : Nat} : (∀ d ∈ ds, d.depth ≤ n) → PyData.depthAll ds ≤ n := by
  induction ds with
  | nil => intro _; exact Nat.zero_le _
  | cons d ds ih =>
    intro h
    simp only [PyData.depthAll]
    exact Nat.max_le.mpr ⟨h d List.mem_cons_self, ih fun e he => h e (List.mem_cons_of_mem _ he)⟩
theorem shaped_tup {ds : List PyData} {n : Nat} (hn : n < 64) (h : ∀ d ∈ ds, d.canLay0 = true ∧ d.depth ≤ n) : SeqAt.shaped (.tuple ds) = true := by
  unfold SeqAt.shaped
  have h1 := canAll_of fun d hd => (h d hd).1
  have h2 := depthAll_of fun d hd => (h d hd).2
  rw [Bool.and_eq_true]
  exact ⟨by simp only [PyData.canLay0]; exact h1, decide_eq_true (by simp only [PyData.depth]; omega)⟩
theorem Im.tup_at' {H : Hp} {v : V} {ds : List PyData} (h : Im H v (.tuple ds)) : ∃ a vs, v = .ref a ∧ H a = some (.tup vs) ∧ ImL H vs ds := by
  simpa only [Im] using h
/-- tuples put together, neither empty -/
theorem i_catT {K : PySem.W.Frag} {H : Hp} {Q : VK} {x y : V} {ds es : List PyData} (h1 : Im H x (.tuple ds)) (h2 : Im H y (.tuple es)) (n1 : ds ≠ []) (n2 : es ≠ []) (hz : ds.length + es.length ≤ sizeLine)
    (q : Ret H Q (.tuple (ds ++ es))) : rCatA K x y H Q := by
  obtain ⟨a, xs, rfl, ha, la⟩ := h1.tup_at'
  obtain ⟨b, ys, rfl, hb, lb⟩ := h2.tup_at'
  have e1 := la.length
  have e2 := lb.length
  refine ⟨a, b, xs, ys, rfl, rfl, SqT.of ha, SqT.of hb, by omega, fun z => ?_, fun _ z => ?_, fun _ _ => new_obj fun p H' hp s e => ?_⟩
  · subst z; exact absurd (List.eq_nil_of_length_eq_zero e1.symm) n1
  · subst z; exact absurd (List.eq_nil_of_length_eq_zero e2.symm) n2
  · exact q _ _ s (Im.tup e (sm_iml s (ImL.append la lb)))
theorem i_isiB {K : PySem.W.Frag} {H : Hp} {Q : VK} {x : V} {t n : String} {b : Bool} (ty : TyX K H x (.type t)) (h : kitB t n = some b) (q : Q (.bl b) H) : rIsi K [x, .ty n] H Q := ⟨x, .ty n, .type t, .type n, b, rfl, .ty n, ty, kit_ty h, q⟩
theorem kit_ii : kitB "int" "int" = some true := by decide +kernel
theorem kit_ib : kitB "int" "bool" = some false := by decide +kernel
theorem kit_tt : kitB "tuple" "tuple" = some true := by decide +kernel
theorem i_isi_ii {K : PySem.W.Frag} {H : Hp} {Q : VK} {i : Int} (q : Q (.bl true) H) : rIsi K [.int i, .ty "int"] H Q := i_isiB (.base (.int i)) kit_ii q
theorem i_isi_ib {K : PySem.W.Frag} {H : Hp} {Q : VK} {i : Int} (q : Q (.bl false) H) : rIsi K [.int i, .ty "bool"] H Q := i_isiB (.base (.int i)) kit_ib q
theorem i_isi_tt {K : PySem.W.Frag} {H : Hp} {Q : VK} {a : Addr} {xs : List V} (h : H a = some (.tup xs)) (q : Q (.bl true) H) : rIsi K [.ref a, .ty "tuple"] H Q := i_isiB (.base (.tup h)) kit_tt q
/-- list slices -/
theorem cutV_from {xs : List V} {i : Int} (h0 : 0 ≤ i) (h1 : i ≤ (xs.length : Nat)) : cutV xs (some i) none = xs.drop i.toNat := by
  have e : HT.sIx xs.length 0 (some i) = i.toNat := by
    obtain ⟨k, rfl⟩ : ∃ k : Nat, i = (k : Nat) := ⟨i.toNat, by omega⟩
    rw [HT.sIx_nat]
    omega
  have e2 : HT.sIx xs.length xs.length none = xs.length := rfl
  unfold cutV
  rw [e, e2]
  exact List.take_of_length_le (by rw [List.length_drop]; exact Nat.le_refl _)
theorem cutV_to {xs : List V} {i : Int} (h0 : 0 ≤ i) (h1 : i ≤ (xs.length : Nat)) : cutV xs none (some i) = xs.take i.toNat := by
  have e : HT.sIx xs.length xs.length (some i) = i.toNat := by
    obtain ⟨k, rfl⟩ : ∃ k : Nat, i = (k : Nat) := ⟨i.toNat, by omega⟩
    rw [HT.sIx_nat]
    omega
  have e2 : HT.sIx xs.length 0 none = 0 := rfl
  unfold cutV
  rw [e, e2, List.drop_zero]
  rfl
/-! ### fractions as data -/
def fr (q : Rat) : PyData := .tuple [.int q.num, .int (q.den : Nat)]
theorem fr_can (q : Rat) : (fr q).canLay0 = true ∧ (fr q).depth ≤ 1 := ⟨rfl, by simp [fr, PyData.depth, PyData.depthAll]⟩
theorem fr_shaped (q : Rat) : SeqAt.shaped (fr q) = true := by
  unfold SeqAt.shaped
  rw [(fr_can q).1]
  have := (fr_can q).2
  simp only [Bool.true_and, decide_eq_true_eq]
  omega
theorem frs_shaped (qs : List Rat) : SeqAt.shaped (.tuple (qs.map fr)) = true := shaped_tup (n := 1) (by decide) fun d hd => by
  obtain ⟨q, _, rfl⟩ := List.mem_map.mp hd
  exact fr_can q
theorem rat_ext {a b : Rat} (h1 : a.num = b.num) (h2 : a.den = b.den) : a = b := by
  cases a; cases b; simp_all
theorem eqv_fr (a b : Rat) : PyData.eqv (fr a) (fr b) = decide (a = b) := by
  simp only [fr, PyData.eqv, PyData.eqvAll, Bool.and_true]
  by_cases h : a = b
  · subst h; simp
  · rw [decide_eq_false h]
    by_cases h1 : a.num = b.num
    · by_cases h2 : (a.den : Int) = (b.den : Int)
      · exact absurd (rat_ext h1 (by omega)) h
      · simp [h1, h2]
    · simp [h1]
theorem eqvAll_frs : ∀ (as bs : List Rat), PyData.eqvAll (as.map fr) (bs.map fr) = decide (as = bs)
  | [], [] => by simp [PyData.eqvAll]
  | a :: as, b :: bs => by
    simp only [List.map_cons, PyData.eqvAll, eqv_fr, eqvAll_frs as bs]
    by_cases h : a = b <;> by_cases h2 : as = bs <;> simp [h, h2]
  | [], _ :: _ => by simp [PyData.eqvAll]
  | _ :: _, [] => by simp [PyData.eqvAll]
theorem eqv_frs (as bs : List Rat) : PyData.eqv (.tuple (as.map fr)) (.tuple (bs.map fr)) = decide (as = bs) := by
  simp only [PyData.eqv]; exact eqvAll_frs as bs
theorem Im.fr_at {H : Hp} {v : V} {q : Rat} (h : Im H v (fr q)) : ∃ a, v = .ref a ∧ H a = some (.tup [.int q.num, .int (q.den : Nat)]) := by
  simp only [fr, Im] at h
  obtain ⟨a, vs, e, ha, hl⟩ := h
  match vs, hl with
  | [x, y], hl =>
    simp only [ImL, Im] at hl
    obtain ⟨rfl, rfl, _⟩ := hl
    exact ⟨a, e, ha⟩
theorem Im.fr_of {H : Hp} {a : Addr} {q : Rat} (h : H a = some (.tup [.int q.num, .int (q.den : Nat)])) : Im H (.ref a) (fr q) := by
  simp only [fr, Im, ImL]; exact ⟨a, _, rfl, h, rfl, rfl, trivial⟩
theorem Im.tup_at {H : Hp} {v : V} {ds : List PyData} (h : Im H v (.tuple ds)) : ∃ a vs, v = .ref a ∧ H a = some (.tup vs) ∧ ImL H vs ds := by
  simpa only [Im] using h
end QW
namespace QW
open PySem L2
/-! ### what the top has written, def by def -/
def DefAt (K : PySem.W.Frag) (x : Str) (st : Stmt) : Prop := ∃ (f : Addr) (oc : Value) (od : Option Addr) (kV doc pm : Value) (an : Option Addr) (cdv ct : Value) (osl : Array (Option Value)),
  PySem.W.nsIn K mainGlobals x = some (some (.ref f)) ∧ K.lookup f = some ⟨oc, od, .func (PySem.W.fnOf x x (defArgs st) (defBody st) (defScope st) .none kV doc pm an cdv ct), osl⟩ ∧ PySem.W.codeIn K cdv x = true ∧ PySem.W.keepIn K (.ref f) = true
/-- a method m (by its long name q) of the class at Cc -/
def MethAt (K : PySem.W.Frag) (Cc : Addr) (m q : Str) (st : Stmt) : Prop := ∃ (f : Addr) (oc : Value) (od : Option Addr) (kV doc pm : Value) (an : Option Addr) (cdv ct : Value) (osl : Array (Option Value)),
  PySem.W.findIn K (.ref Cc) m = some (some (.ref f)) ∧ PySem.W.isFn K (.ref f) = true ∧ K.lookup f = some ⟨oc, od, .func (PySem.W.fnOf m q (defArgs st) (defBody st) (defScope st) .none kV doc pm an cdv ct), osl⟩ ∧ PySem.W.codeIn K cdv q = true ∧ PySem.W.keepIn K (.ref f) = true
/-- how the arguments of a def without defaults bind -/
def BindsBy (x q : Str) (st : Stmt) (ps : List Str) : Prop := ∀ (kV doc pm : Value) (an : Option Addr) (cdv ct : Value) (us : List Value), us.length = ps.length →
  bindArgs (PySem.W.fnOf x q (defArgs st) (defBody st) (defScope st) .none kV doc pm an cdv ct) ⟨us, []⟩ = pure (ps.zip us)
section
variable {P : Program} {w : World} {K : PySem.W.Frag} {mg : Str → Option Value} {base h : Heap} {k : Nat} {x q : Str} {ps : List Str} {sp : Sp} {st : Stmt} {Cc : Addr}
theorem DefAt.okd (D : DefAt K x st) (X : K.In h) (G : h.Ns mainGlobals mg) (hb : BindsBy x x st ps) (ok : ∀ f fd, Fun K x x st f fd → FnOk P w K mg base CX0 k f fd ps sp) : Okd P w K mg base k x ps sp := by
  obtain ⟨f, oc, od, kV, doc, pm, an, cdv, ct, osl, a, l, c, kp⟩ := D
  have F := fun_mk (st := st) l c kp
  exact ⟨⟨f, _, ok _ _ F, PySem.W.mg_of X G a, kp, F.binds hb⟩⟩
structure Okm (P : Program) (w : World) (K : PySem.W.Frag) (mg : Str → Option Value) (base : Heap) (k : Nat) (x : Str) (Cc : Addr) (ps : List Str) (sp : Sp) : Prop where
  ex : ∃ f fd, Mk K Cc f ∧ FnOk P w K mg base CX0 k f fd ps sp ∧ mg x = some (.ref Cc) ∧ Binds K fd ps []
theorem MethAt.okm (D : MethAt K Cc "__init__" q st) (hm : mg x = some (.ref Cc)) (mk : PySem.W.makesIn K Cc = true) (kc : PySem.W.keepIn K (.ref Cc) = true) (hb : BindsBy "__init__" q st ps) (ok : ∀ f fd, Fun K "__init__" q st f fd → FnOk P w K mg base CX0 k f fd ps sp) :
    Okm P w K mg base k x Cc ps sp := by
  obtain ⟨f, oc, od, kV, doc, pm, an, cdv, ct, osl, a, i, l, c, kp⟩ := D
  have F := fun_mk (st := st) l c kp
  exact ⟨⟨f, _, ⟨mk, a, i, kc⟩, ok _ _ F, hm, F.binds hb⟩⟩
structure Okf (P : Program) (w : World) (K : PySem.W.Frag) (mg : Str → Option Value) (base : Heap) (k : Nat) (m : Str) (Cc : Addr) (ps : List Str) (sp : Sp) : Prop where
  ex : ∃ f fd, Meth K Cc m f ∧ FnOk P w K mg base CX0 k f fd ps sp ∧ Binds K fd ps []
  cl : Cls K Cc
theorem MethAt.okf {m : Str} (D : MethAt K Cc m q st) (cl : Cls K Cc) (hb : BindsBy m q st ps) (ok : ∀ f fd, Fun K m q st f fd → FnOk P w K mg base CX0 k f fd ps sp) :
    Okf P w K mg base k m Cc ps sp := by
  obtain ⟨f, oc, od, kV, doc, pm, an, cdv, ct, osl, a, i, l, c, kp⟩ := D
  have F := fun_mk (st := st) l c kp
  exact ⟨⟨f, _, ⟨a, i, kp⟩, ok _ _ F, F.binds hb⟩, cl⟩
end
section
variable {X : Cx} {x m : Str} {p pos apos : Pos} {o e : Expr} {es : List Expr} {to : TE} {t : TA} {k : Nat} {Cc : Addr} {ps : List Str} {sp : Sp}
theorem pe_makeD (Dd : Okm X.prog X.w X.K X.mg X.base k x Cc ps sp) (hr : Room (k + 1) X.A) (ha : PA X (e :: es) t) (hg : Gl X x := by rfl) (hdb : (x == ("__debug__" : Str)) = false := by decide)
    (he : starEach (e :: es) X.env = (false, eval e X.env) :: starEach es X.env := by rfl) (hpl : (backTo pos (starEach es X.env)).any (·.1) = false := by rfl) : PE X (.Call (.Name x p) (e :: es) [] pos) (tMake Cc sp [] E0 t) := by
  obtain ⟨f, fd, M, F, h1, h3⟩ := Dd.ex
  exact pe_make M F hr hg h1 h3 .nil pass0 ha hdb he hpl
end
/-! ### the built-ins by their names -/
theorem bt_len : bootBuiltins "len" = some (.builtin "len") := PySem.boot_len
theorem bt_abs : bootBuiltins "abs" = some (.builtin "abs") := PyProof.Rows.boot_abs
theorem bt_max : bootBuiltins "max" = some (.builtin "max") := PyProof.Rows.boot_max
theorem bt_min : bootBuiltins "min" = some (.builtin "min") := PyProof.Rows.boot_min
theorem bt_sum : bootBuiltins "sum" = some (.builtin "sum") := PyProof.Rows.boot_sum
theorem bt_all : bootBuiltins "all" = some (.builtin "all") := PyProof.Rows.boot_all
theorem bt_isinstance : bootBuiltins "isinstance" = some (.builtin "isinstance") := PyProof.Rows.boot_isinstance
theorem bt_int : bootBuiltins "int" = some (.type "int") := PyProof.Rows.boot_int
theorem bt_bool : bootBuiltins "bool" = some (.type "bool") := PyProof.Rows.boot_bool
theorem bt_tuple : bootBuiltins "tuple" = some (.type "tuple") := PyProof.Rows.boot_tuple
theorem bt_range : bootBuiltins "range" = some (.type "range") := PyProof.Rows.boot_range
end QW

namespace QW
open PySem L2
/-! ### fractions -/
theorem low_num (n : Int) (d : Nat) (h : 0 < d) : (mkRat n d).num = n / ((n.natAbs.gcd d : Nat) : Int) := by
  rw [Rat.num_mkRat, if_neg (by omega), Nat.gcd_comm]
theorem low_den (n : Int) (d : Nat) (h : 0 < d) : (((mkRat n d).den : Nat) : Int) = (d : Int) / ((n.natAbs.gcd d : Nat) : Int) := by
  rw [Rat.den_mkRat, if_neg (by omega), Nat.gcd_comm]
  exact Int.natCast_ediv _ _
theorem gcd_le (n : Int) (d : Nat) (h : 0 < d) : 0 < n.natAbs.gcd d ∧ n.natAbs.gcd d ≤ d :=
  ⟨Nat.gcd_pos_of_pos_right _ h, Nat.le_of_dvd h (Nat.gcd_dvd_right _ _)⟩
theorem log2_lt_of_le {a b k : Nat} (h : a ≤ b) (hb : b.log2 < k) (hk : 0 < k) : a.log2 < k := by
  by_cases h0 : a = 0
  · subst h0; simpa using hk
  · exact Nat.lt_of_le_of_lt (log2_le h h0) hb
theorem div_ok {i : Int} {d : Nat} (h : 0 < d) (hk : d.log2 < 9000) : CDivW i (d : Int) := ⟨by omega, by rw [Int.natAbs_natCast]; exact hk⟩
theorem log2_of_lt {a k : Nat} (h : a < 2 ^ k) (hk : 0 < k) : a.log2 < k := by
  by_cases h0 : a = 0
  · subst h0; simpa using hk
  · exact (Nat.log2_lt h0).mpr h
/-- a common multiple of the bottoms -/
def ComM (qs : List Rat) (M : Nat) : Prop := 0 < M ∧ ∀ q ∈ qs, q.den ∣ M
/-- sums by a common bottom -/
theorem units_sum (L : Nat) (hL : 0 < L) : ∀ qs : List Rat, (∀ q ∈ qs, q.den ∣ L) → mkRat ((qs.map fun q => q.num * ((L : Int) / (q.den : Int))).sum) L = qs.sum
  | [], _ => by simp
  | q :: qs, h => by
    have ih := units_sum L hL qs fun x hx => h x (List.mem_cons_of_mem _ hx)
    obtain ⟨k, hk⟩ := h q List.mem_cons_self
    rw [List.map_cons, List.sum_cons, List.sum_cons, ← ih]
    have hd : q.den ≠ 0 := q.den_nz
    have e : (L : Int) / (q.den : Int) = (k : Int) := by
      rw [hk]; push_cast; exact Int.mul_ediv_cancel_left _ (by omega)
    rw [e]
    have hk0 : k ≠ 0 := by rintro rfl; omega
    have e1 : mkRat (q.num * k) L = q := by
      rw [hk, Int.mul_comm, Nat.mul_comm, Rat.mkRat_mul_left hk0, Rat.mkRat_self]
    generalize (qs.map fun q => q.num * ((L : Int) / (q.den : Int))).sum = S
    conv => rhs; rw [← e1]
    rw [Rat.mkRat_add_mkRat _ _ (by omega) (by omega)]
    rw [show q.num * ↑k * (L : Int) + S * (L : Int) = (L : Int) * (q.num * k + S) by grind, Rat.mkRat_mul_left (by omega)]
theorem fr_inj {a b : Rat} (h : fr a = fr b) : a = b := by
  simp only [fr, PyData.tuple.injEq, List.cons.injEq, PyData.int.injEq, and_true] at h
  exact rat_ext h.1 (by omega)
theorem mem_frs {qs : List Rat} {e : PyData} (h : e ∈ qs.map fr) : ∃ q ∈ qs, e = fr q := by
  obtain ⟨q, hq, rfl⟩ := List.mem_map.mp h
  exact ⟨q, hq, rfl⟩
theorem get_frs {qs : List Rat} {i : Nat} {e : PyData} (h : (qs.map fr)[i]? = some e) : ∃ q, qs[i]? = some q ∧ e = fr q := by
  rw [List.getElem?_map] at h
  cases e1 : qs[i]? with
  | none => rw [e1] at h; cases h
  | some q => rw [e1] at h; exact ⟨q, rfl, (Option.some.inj h).symm⟩
end QW
namespace QW
open PySem L2
/-! ### bounds of fractions -/
/-- bounds of fractions: a common bottom and the tops -/
def Bd (B : Nat) (qs : List Rat) : Prop := qs.length ≤ 1000 ∧ (∃ M, ComM qs M ∧ M < 2 ^ B) ∧ ∀ q ∈ qs, q.num.natAbs < 2 ^ B
/-- small ones: what the law's own adding can go through -/
def Bs (qs : List Rat) : Prop := qs.length ≤ 1000 ∧ (∃ M, ComM qs M ∧ M < 2 ^ 48) ∧ ∀ q ∈ qs, q.num.natAbs < 2 ^ 88
theorem Bs.bd {qs : List Rat} (h : Bs qs) : Bd 8000 qs := by
  obtain ⟨h1, ⟨M, h2, h3⟩, h4⟩ := h
  exact ⟨h1, ⟨M, h2, Nat.lt_trans h3 (Nat.pow_lt_pow_right (by decide) (by decide))⟩, fun q hq => Nat.lt_trans (h4 q hq) (Nat.pow_lt_pow_right (by decide) (by decide))⟩
theorem Bs.sub {qs rs : List Rat} (h : Bs qs) (hl : rs.length ≤ 1000) (hs : ∀ q ∈ rs, q ∈ qs) : Bs rs := by
  obtain ⟨h1, ⟨M, ⟨h2, h2'⟩, h3⟩, h4⟩ := h
  exact ⟨hl, ⟨M, ⟨h2, fun q hq => h2' q (hs q hq)⟩, h3⟩, fun q hq => h4 q (hs q hq)⟩
theorem Bs.take {qs : List Rat} (h : Bs qs) (i : Nat) : Bs (qs.take i) :=
  h.sub (Nat.le_trans (by rw [List.length_take]; omega) h.1) fun q hq => List.mem_of_mem_take hq
theorem sum_abs (M B : Nat) : ∀ qs : List Rat, (∀ q ∈ qs, q.num.natAbs ≤ B) → ((qs.map fun q => q.num * ((M : Int) / (q.den : Int))).sum).natAbs ≤ qs.length * (B * M)
  | [], _ => by simp
  | q :: qs, h => by
    have ih := sum_abs M B qs fun x hx => h x (List.mem_cons_of_mem _ hx)
    rw [List.map_cons, List.sum_cons, List.length_cons, Nat.succ_mul]
    refine Nat.le_trans (Int.natAbs_add_le _ _) ?_
    rw [Int.natAbs_mul, ← Int.natCast_ediv, Int.natAbs_natCast]
    have h1 : q.num.natAbs * (M / q.den) ≤ B * M := Nat.mul_le_mul (h q List.mem_cons_self) (Nat.div_le_self _ _)
    omega
theorem mkRat_num_le (n : Int) (d : Nat) (h : 0 < d) : (mkRat n d).num.natAbs ≤ n.natAbs := by
  rw [low_num n d h, Int.natAbs_ediv_of_dvd (Int.natCast_dvd_natCast.mpr (Nat.gcd_dvd_left _ _) |> fun h => Int.dvd_trans h (Int.natAbs_dvd.mpr (Int.dvd_refl _))), Int.natAbs_natCast]
  exact Nat.div_le_self _ _
theorem mkRat_den_dvd (n : Int) (d : Nat) (h : 0 < d) : (mkRat n d).den ∣ d := by
  rw [Rat.den_mkRat, if_neg (by omega)]
  exact Nat.div_dvd_of_dvd (Nat.gcd_dvd_left _ _)
/-- what a sum of small ones comes to -/
theorem Bs.sum {qs : List Rat} (h : Bs qs) : qs.sum.num.natAbs < 2 ^ 148 ∧ qs.sum.den < 2 ^ 148 := by
  obtain ⟨h1, ⟨M, ⟨h2, h2'⟩, h3⟩, h4⟩ := h
  have e := units_sum M h2 qs h2'
  have hs := sum_abs M (2 ^ 88) qs fun q hq => Nat.le_of_lt (h4 q hq)
  rw [← e]
  have l1 := mkRat_num_le ((qs.map fun q => q.num * ((M : Int) / (q.den : Int))).sum) M h2
  have l2 := Nat.le_of_dvd h2 (mkRat_den_dvd ((qs.map fun q => q.num * ((M : Int) / (q.den : Int))).sum) M h2)
  have l3 : qs.length * (2 ^ 88 * M) ≤ 1000 * (2 ^ 88 * 2 ^ 48) := Nat.mul_le_mul h1 (Nat.mul_le_mul_left _ (Nat.le_of_lt h3))
  have l4 : 1000 * (2 ^ 88 * 2 ^ 48) < 2 ^ 148 := by decide
  have l5 : (2 : Nat) ^ 48 < 2 ^ 148 := by decide
  omega
theorem Bs.den {qs : List Rat} (h : Bs qs) {q : Rat} (hq : q ∈ qs) : q.num.natAbs < 2 ^ 148 ∧ q.den < 2 ^ 148 := by
  obtain ⟨h1, ⟨M, ⟨h2, h2'⟩, h3⟩, h4⟩ := h
  have l := Nat.le_of_dvd h2 (h2' q hq)
  have l4 : (2 : Nat) ^ 88 < 2 ^ 148 := by decide
  have l5 : (2 : Nat) ^ 48 < 2 ^ 148 := by decide
  have := h4 q hq
  omega
/-- wider ones -/
def Bw (qs : List Rat) : Prop := qs.length ≤ 1000 ∧ (∃ M, ComM qs M ∧ M < 2 ^ 48) ∧ ∀ q ∈ qs, q.num.natAbs < 2 ^ 140
theorem Bs.bw {qs : List Rat} (h : Bs qs) : Bw qs := ⟨h.1, h.2.1, fun q hq => Nat.lt_trans (h.2.2 q hq) (Nat.pow_lt_pow_right (by decide) (by decide))⟩
theorem Bw.take {qs : List Rat} (h : Bw qs) (i : Nat) : Bw (qs.take i) := by
  obtain ⟨h1, ⟨M, ⟨h2, h2'⟩, h3⟩, h4⟩ := h
  exact ⟨Nat.le_trans (by rw [List.length_take]; omega) h1, ⟨M, ⟨h2, fun q hq => h2' q (List.mem_of_mem_take hq)⟩, h3⟩, fun q hq => h4 q (List.mem_of_mem_take hq)⟩
theorem Bw.sum {qs : List Rat} (h : Bw qs) : qs.sum.num.natAbs < 2 ^ 230 ∧ qs.sum.den < 2 ^ 60 := by
  obtain ⟨h1, ⟨M, ⟨h2, h2'⟩, h3⟩, h4⟩ := h
  have e := units_sum M h2 qs h2'
  have hs := sum_abs M (2 ^ 140) qs fun q hq => Nat.le_of_lt (h4 q hq)
  rw [← e]
  have l1 := mkRat_num_le ((qs.map fun q => q.num * ((M : Int) / (q.den : Int))).sum) M h2
  have l2 := Nat.le_of_dvd h2 (mkRat_den_dvd ((qs.map fun q => q.num * ((M : Int) / (q.den : Int))).sum) M h2)
  have l3 : qs.length * (2 ^ 140 * M) ≤ 1000 * (2 ^ 140 * 2 ^ 48) := Nat.mul_le_mul h1 (Nat.mul_le_mul_left _ (Nat.le_of_lt h3))
  have l4 : 1000 * (2 ^ 140 * 2 ^ 48) < 2 ^ 230 := by decide
  have l5 : (2 : Nat) ^ 48 < 2 ^ 60 := by decide
  omega
theorem Bw.den {qs : List Rat} (h : Bw qs) {q : Rat} (hq : q ∈ qs) : q.num.natAbs < 2 ^ 230 ∧ q.den < 2 ^ 60 := by
  obtain ⟨h1, ⟨M, ⟨h2, h2'⟩, h3⟩, h4⟩ := h
  have l := Nat.le_of_dvd h2 (h2' q hq)
  have l4 : (2 : Nat) ^ 140 < 2 ^ 230 := by decide
  have l5 : (2 : Nat) ^ 48 < 2 ^ 60 := by decide
  have := h4 q hq
  omega
/-- all whole numbers times one fraction -/
theorem sum_mul (u : Rat) : ∀ ns : List Int, (ns.map fun n : Int => (n : Rat) * u).sum = ((ns.sum : Int) : Rat) * u
  | [] => by simp
  | n :: ns => by
    rw [List.map_cons, List.sum_cons, List.sum_cons, sum_mul u ns]
    push_cast
    grind
theorem small_log {a : Int} (h : a.natAbs < 2 ^ 70) : a.natAbs.log2 < 9000 := Nat.lt_trans (log2_of_lt h (by decide)) (by decide)
theorem sum_rot (xs : List Int) (i : Nat) : (xs.drop i ++ xs.take i).sum = xs.sum := by
  conv => rhs; rw [← List.take_append_drop i xs]
  rw [List.sum_append, List.sum_append, Int.add_comm]
theorem sum_rev (xs : List Int) : xs.reverse.sum = xs.sum := by
  induction xs with
  | nil => rfl
  | cons x xs ih =>
    rw [List.reverse_cons, List.sum_append, ih, List.sum_cons]
    simp only [List.sum_cons, List.sum_nil]
    omega
theorem le_sum {ns : List Int} (h : ∀ n ∈ ns, 1 ≤ n) : ∀ n ∈ ns, n ≤ ns.sum := by
  induction ns with
  | nil => intro n hn; cases hn
  | cons x xs ih =>
    have hx := h x List.mem_cons_self
    have ih' := ih fun n hn => h n (List.mem_cons_of_mem _ hn)
    have h0 : 0 ≤ xs.sum := by
      cases xs with
      | nil => simp
      | cons y ys =>
        have a := ih' y List.mem_cons_self
        have b := h y (by simp)
        omega
    intro n hn
    rw [List.sum_cons]
    rcases List.mem_cons.mp hn with rfl | hn
    · omega
    · have := ih' n hn
      omega
theorem times_num {n : Int} {u : Rat} (hn : 1 ≤ n) (hu : 0 < u.num) : 0 < ((n : Rat) * u).num ∧ ((n : Rat) * u).num.natAbs ≤ n.natAbs * u.num.natAbs ∧ ((n : Rat) * u).den ∣ u.den := by
  have hd : 0 < u.den := Nat.pos_of_ne_zero u.den_nz
  have e : (n : Rat) * u = mkRat (n * u.num) u.den := by
    conv => lhs; rw [← Rat.mkRat_self u]
    rw [show (n : Rat) = mkRat n 1 from (Rat.mkRat_one n).symm, Rat.mkRat_mul_mkRat, Nat.one_mul]
  rw [e]
  have hp : 0 < n * u.num := Int.mul_pos (by omega) hu
  refine ⟨?_, ?_, mkRat_den_dvd _ _ hd⟩
  · rw [low_num _ _ hd]
    have g0 := (gcd_le (n * u.num) u.den hd).1
    have gd : ((((n * u.num).natAbs.gcd u.den : Nat)) : Int) ∣ n * u.num := Int.dvd_trans (Int.natCast_dvd_natCast.mpr (Nat.gcd_dvd_left _ _)) (Int.natAbs_dvd.mpr (Int.dvd_refl _))
    exact Int.ediv_pos_of_pos_of_dvd hp (by omega) gd
  · rw [← Int.natAbs_mul]
    exact mkRat_num_le _ _ hd
theorem drawn_bs {ns : List Int} {u : Rat} (h : ∀ n ∈ ns, 1 ≤ n) (hs : ns.sum < 2000000000000) (hu : 0 < u.num) (hu2 : u.num ≤ 1000000000000) :
    ∀ q ∈ ns.map (fun n : Int => (n : Rat) * u), 0 < q.num ∧ q.num.natAbs < 2 ^ 88 ∧ q.den ∣ u.den := by
  intro q hq
  obtain ⟨n, hn, rfl⟩ := List.mem_map.mp hq
  obtain ⟨h1, h2, h3⟩ := times_num (h n hn) hu
  have h4 := le_sum h n hn
  have h5 := h n hn
  refine ⟨h1, ?_, h3⟩
  have h6 : n.natAbs * u.num.natAbs ≤ 2000000000000 * 1000000000000 := Nat.mul_le_mul (by omega) (by omega)
  have h7 : 2000000000000 * 1000000000000 < 2 ^ 88 := by decide
  omega
/-- what is drawn: both sides of fractions above 0, of one sum -/
def Drawn (side : Nat) (o d : List Rat) : Prop := 1 ≤ o.length ∧ o.length ≤ side ∧ 1 ≤ d.length ∧ d.length ≤ side ∧ o.sum = d.sum ∧ (∀ q ∈ o, 0 < q.num) ∧ (∀ q ∈ d, 0 < q.num) ∧ Bs (o ++ d)
end QW

namespace QW
open PySem L2
/-! ### rules that the layer lacks: l[i] read for l[i] op= e; t * 1 -/
def rGetL (K : PySem.W.Frag) : V → V → Hp → VK → Prop := fun x y H Q => ∃ p xs i v, x = .ref p ∧ y = .int i ∧ SqL K H p xs ∧ 0 ≤ i ∧ xs[i.toNat]? = some v ∧ Q v H
theorem pg_list {X : Cx} : PGet X (rGetL X.K) := by
  intro pins s σ H o i ov iv Q I ro ri h
  obtain ⟨p, xs, k, v, rfl, rfl, hq, h0, hx, q⟩ := h
  cases ro
  obtain ⟨t, rfl⟩ := ri
  obtain ⟨its, r, pl, hz⟩ := I.list hq
  obtain ⟨w, ew, rw'⟩ := r.get hx
  have hl := r.length
  have hi : k.toNat < xs.length := by
    rcases Nat.lt_or_ge k.toNat xs.length with h | h
    · exact h
    · rw [List.getElem?_eq_none h] at hx; cases hx
  have e : sizeLine = 16777216 := PySem.sizeLine_eq
  exact wpAny_getItem_list pl.isList h0 (by omega) (by simpa using ew) ⟨v, H, I, rw', q⟩
theorem i_augS {D : Ends} {σ : St} {H : Hp} {to ti te : TE} {tget : V → V → Hp → VK → Prop} {tip : TIp} {tset : TSet}
    (h : to σ H fun o H1 => ti σ H1 fun i H2 => tget o i H2 fun x H3 => te σ H3 fun y H4 => tip x y H4 fun z H5 => tset o i z H5 fun H6 => D.nx σ H6) : tAugS to ti te tget tip tset D σ H := h
theorem i_getL {K : PySem.W.Frag} {H : Hp} {Q : VK} {p : Addr} {xs : List V} {i : Int} {v : V} (h : H p = some (.lst xs)) (h0 : 0 ≤ i) (e : xs[i.toNat]? = some v) (q : Q v H) : rGetL K (.ref p) (.int i) H Q := ⟨p, xs, i, v, rfl, rfl, SqL.of h, h0, e, q⟩
theorem i_ipI {H : Hp} {Q : VK} {f : Int → Int → Int} {i j : Int} (q : Q (.int (f i j)) H) : ipI f (.int i) (.int j) H Q := ⟨i, j, rfl, rfl, q⟩
theorem tuple_mul1 (l : Addr) (items : Array Value) (n : Nat) (dd : Option Addr) (sl : Array (Option Value)) (u : Tok) :
    Meets (Builtin.«tuple.__mul__» ⟨[.ref l, .int 1 u], []⟩) (fun _ R s => s.heap.get? l = some { cls := .type "tuple", dict := dd, data := .seq items n, slots := sl } ∧ R (.ok (.ret (Value.ref l))) s) :=
  .of_wp fun prog w A R s h => by
    obtain ⟨hp, g, d, tk, os⟩ := s
    obtain ⟨hl, h⟩ := h
    have f1 := AutoSeq1.idx_int
    wp_walk using wpAny_loadPart' hl
    repeat (first
      | (refine wpAny_ite_false (by decide) ?_; wp_walk using wpAny_loadPart' hl)
      | (refine wpAny_ite_true (by simp) ?_; wp_walk using wpAny_loadPart' hl))
    exact ⟨_, rfl, h⟩
open PyProof.Rows in
theorem op_rep1 {X : Cx} : OpR X (binaryOp .Mult) (fun x y H Q => ∃ l xs, x = .ref l ∧ y = .int 1 ∧ SqT X.K H l xs ∧ Q (.ref l) H) := by
  intro pins s σ H x y v u Q I rx ry h
  obtain ⟨l, xs, rfl, rfl, hT, q⟩ := h
  cases rx
  obtain ⟨t, rfl⟩ := ry
  obtain ⟨its, r, ⟨⟨cls, dd, data, sl⟩, ho, hc, n, hd⟩, hs⟩ := I.tuple hT
  simp only at hc hd
  subst hc hd
  exact wpAny_binaryOp_repeat_ref (T := "tuple") (U := "int") (by decide) ⟨_, ho, rfl⟩ (fun s' => typeIs_int s' 1 t) noFill_tuple_mul F.fills_int_mul F.slot_int_rmul repeat_tuple F.slot_int_index.lookup
    (call_meets F.slot_int_rmul (typeIs_int s 1 t) F.entry_int_rmul (F.args_int_rmul_2 _ _) (int_rmul_tuple 1 t l its.toArray n dd sl)
      ⟨ho, rfl, ⟨_, ho, rfl⟩, call_meets F.slot_tuple_mul ⟨_, ho, rfl⟩ F.entry_tuple_mul (F.args_tuple_mul_2 _ _) (tuple_mul1 l its.toArray n dd sl t) ⟨ho, ⟨.ref l, H, I, rfl, q⟩⟩⟩)
/-- tuple * int, the int 1 or more -/
def rRepA (K : PySem.W.Frag) : R2 := fun x y H Q => (∃ l xs, x = .ref l ∧ y = .int 1 ∧ SqT K H l xs ∧ Q (.ref l) H) ∨ rRepT K x y H Q
theorem op_repA {X : Cx} : OpR X (binaryOp .Mult) (rRepA X.K) := op_rep1.or op_repT
theorem ImL.rep {H : Hp} {vs : List V} {ds : List PyData} (h : ImL H vs ds) : ∀ n : Nat, ImL H (List.replicate n vs).flatten (List.replicate n ds).flatten
  | 0 => by simp [ImL]
  | n + 1 => by
    rw [List.replicate_succ, List.replicate_succ, List.flatten_cons, List.flatten_cons]
    exact ImL.append h (ImL.rep h n)
theorem i_repA {K : PySem.W.Frag} {H : Hp} {Q : VK} {x : V} {k : Int} {ds : List PyData} (h : Im H x (.tuple ds)) (hn : ds ≠ []) (h1 : 1 ≤ k) (h2 : k ≤ 1000) (hz : ds.length ≤ 1000) (q : Ret H Q (.tuple (List.replicate k.toNat ds).flatten)) : rRepA K x (.int k) H Q := by
  obtain ⟨a, xs, rfl, ha, hl⟩ := h.tup_at
  have e := hl.length
  by_cases hk : k = 1
  · subst hk
    refine .inl ⟨a, xs, rfl, rfl, SqT.of ha, q _ _ (Same.refl _) ?_⟩
    have e1 : (List.replicate (Int.toNat 1) ds).flatten = ds := by
      show (List.replicate 1 ds).flatten = ds
      simp
    rw [e1]
    exact h
  · refine .inr ⟨a, k, xs, rfl, rfl, SqT.of ha, fun z => hn (List.eq_nil_of_length_eq_zero (by rw [← e, z]; rfl)), by omega, h2, by omega, new_obj fun p H' hp s ee => q _ _ s (Im.tup ee (ImL.rep (sm_iml s hl) _))⟩
/-- tuples put together -/
theorem i_catA {K : PySem.W.Frag} {H : Hp} {Q : VK} {x y : V} {ds es : List PyData} (h1 : Im H x (.tuple ds)) (h2 : Im H y (.tuple es)) (hz : ds.length + es.length ≤ sizeLine)
    (q : Ret H Q (.tuple (ds ++ es))) : rCatA K x y H Q := by
  obtain ⟨a, xs, rfl, ha, la⟩ := h1.tup_at
  obtain ⟨b, ys, rfl, hb, lb⟩ := h2.tup_at
  have e1 := la.length
  have e2 := lb.length
  refine ⟨a, b, xs, ys, rfl, rfl, SqT.of ha, SqT.of hb, by omega, fun z => ?_, fun _ z => ?_, fun _ _ => new_obj fun p H' hp s e => ?_⟩
  · subst z
    have : ds = [] := List.eq_nil_of_length_eq_zero e1.symm
    subst this
    exact q _ _ (Same.refl _) h2
  · subst z
    have : es = [] := List.eq_nil_of_length_eq_zero e2.symm
    subst this
    rw [List.append_nil] at q
    exact q _ _ (Same.refl _) h1
  · exact q _ _ s (Im.tup e (sm_iml s (ImL.append la lb)))
/-! ### comprehensions with a test, over a range -/
section
variable {K : PySem.W.Frag} {σ : St} {H : Hp} {Q : VK}
def LcR (g : TG) (tt : TT) (te : TE) (vs : List Nat) (σ : St) (Q : VK) (ws : List V) (H1 : Hp) : Prop := ∃ j : Int, ws = [.int j] ∧ -(2 ^ 62) ≤ j ∧ j < 2 ^ 62 ∧ ∀ D, H1 D = none → ∃ W : Nat → Nat → Hp → Prop, (∃ m, W 0 m (upd H1 D (.lst []))) ∧ ∀ i m H, W i m H →
  ((Itr 0 j.toNat).stop i H ∧ Q (.ref D) H) ∨ ((Itr 0 j.toNat).go i H ∧ ∃ Nx : Hp → Prop, (∀ H', Nx H' → ∃ m', m' < m ∧ W (i + 1) m' H') ∧ ∀ x H', (Itr 0 j.toNat).yld i H x H' → g x (wipe σ vs) H' fun σ2 H2 => wipe σ2 vs = wipe σ vs ∧ tt σ2 H2 fun b H3 =>
    if b = true then te σ2 H3 fun y H4 => ∃ acc, H4 D = some (.lst acc) ∧ acc.length < sizeLine ∧ Nx (upd H4 D (.lst (acc ++ [y]))) else Nx H3)
theorem i_lcR {ta : TA} {te : TE} {tt : TT} {g : TG} {vs : List Nat} (h : ta σ H fun ws H1 => LcR g tt te vs σ Q ws H1) : tLc (iRng1 ta) g tt te vs σ H Q := h
/-- what holds between two turns: F i tells the items that turn i gives (none or one) -/
def LcF (H : Hp) (Dl : Addr) (F : Nat → List PyData) (i : Nat) (H1 : Hp) : Prop :=
  Same H H1 ∧ ∃ ys, H1 Dl = some (.lst ys) ∧ ImL H1 ys ((List.range i).flatMap F)
theorem flatMap_range_succ (F : Nat → List PyData) (i : Nat) : (List.range (i + 1)).flatMap F = (List.range i).flatMap F ++ F i := by
  rw [List.range_succ, List.flatMap_append]; simp
theorem flatMap_len (F : Nat → List PyData) (hF : ∀ i, (F i).length ≤ 1) : ∀ n, ((List.range n).flatMap F).length ≤ n
  | 0 => by simp
  | n + 1 => by
    rw [flatMap_range_succ, List.length_append]
    have := flatMap_len F hF n
    have := hF n
    omega
theorem lcR_of {k : Nat} {te : TE} {tt : TT} {vs : List Nat} {j : Int} {n : Nat} (F : Nat → List PyData) (hj : j = (n : Nat)) (hn : n < 1000000) (hF : ∀ i, (F i).length ≤ 1)
    (turn : ∀ (i : Nat) (H1 : Hp) (N M : Hp → Prop) (NE : V → Hp → Prop), i < n → Same H H1 → (∀ y H3 d, F i = [d] → Same H1 H3 → Im H3 y d → NE y H3) → (∀ H3, F i = [] → Same H1 H3 → M H3) →
      wipe ((wipe σ vs).set k (some (.int (i : Nat)))) vs = wipe σ vs ∧ tt ((wipe σ vs).set k (some (.int (i : Nat)))) H1 fun b H3 => if b = true then te ((wipe σ vs).set k (some (.int (i : Nat)))) H3 NE else M H3)
    (done : ∀ D H1 ys, H D = none → Same H H1 → H1 D = some (.lst ys) → ImL H1 ys ((List.range n).flatMap F) → Q (.ref D) H1) : LcR (gName k) tt te vs σ Q [.int j] H := by
  subst hj
  refine ⟨_, rfl, by omega, by omega, fun Dl hD => ?_⟩
  rw [Int.toNat_natCast]
  refine lc_range (lo := 0) (n := n) (LcF H Dl F) ⟨same_upd hD, [], upd_same, by simp [ImL]⟩ (fun i H1 hi p => ?_) (fun H1 p => ?_)
  · obtain ⟨s, ys, h1, h2⟩ := p
    have hl := h2.length
    have hb := flatMap_len F hF i
    have e0 : sizeLine = 16777216 := PySem.sizeLine_eq
    have e : (0 : Int) + ((i : Nat) : Int) = (i : Nat) := by omega
    rw [e]
    refine turn i H1 (LcF H Dl F (i + 1)) _ _ hi s (fun y H3 d hd s3 hy => ?_) (fun H3 hd s3 => ?_)
    · refine ⟨ys, s3 _ _ h1, by omega, same_loc (Same.trans s s3) (kl_upd (s3 _ _ h1)) hD, ys ++ [y], upd_same, ?_⟩
      have kl := kl_upd (ys := ys ++ [y]) (s3 _ _ h1)
      rw [flatMap_range_succ, hd]
      exact ImL.append (kl_iml kl (sm_iml s3 h2)) (by simp only [ImL]; exact ⟨kl_im kl hy, trivial⟩)
    · refine ⟨s.trans s3, ys, s3 _ _ h1, ?_⟩
      rw [flatMap_range_succ, hd, List.append_nil]
      exact sm_iml s3 h2
  · obtain ⟨s, ys, h1, h2⟩ := p
    exact done Dl H1 ys hD s h1 h2
end
section
variable {K : PySem.W.Frag} {D : Ends} {σ : St} {H : Hp} {Q : VK}
theorem i_meth {Cc : Addr} {m : Str} {sp : Sp} {E : XK} {ta : TE} {t : TA} (h : ta σ H fun x H1 => ∃ a dx fs, x = .ref a ∧ H1 a = some (.ins Cc dx fs) ∧ fs.lookup m = none ∧ t σ H1 fun vs H2 => sp (x :: (vs ++ [])) H2 Q E) : tMeth Cc m sp [] E ta t σ H Q := h
theorem i_meth' {P : Prop} {a Cc dx : Addr} {fs : List (Str × V)} {m : Str} (h : H a = some (.ins Cc dx fs)) (e : fs.lookup m = none) (q : P) : ∃ b dx fs, V.ref a = .ref b ∧ H b = some (.ins Cc dx fs) ∧ fs.lookup m = none ∧ P := ⟨a, dx, fs, rfl, h, e, q⟩
def ForL (K : PySem.W.Frag) (g : TG) (tb : TS) (D : Ends) (σ : St) (x : V) (H1 : Hp) : Prop := ∃ a, x = .ref a ∧ (∃ xs, SqL K H1 a xs) ∧ ∃ W : Nat → Nat → St → Hp → Prop, (∃ m, W 0 m σ H1) ∧ ∀ i m σ H, W i m σ H →
  ((Itl K a).stop i H ∧ D.nx σ H) ∨ ((Itl K a).go i H ∧ ∃ N : St → Hp → Prop, (∀ σ' H', N σ' H' → ∃ m', m' < m ∧ W (i + 1) m' σ' H') ∧ ∀ x H', (Itl K a).yld i H x H' → g x σ H' fun σ2 H2 => tb { D with nx := N, ct := N, bk := D.nx } σ2 H2)
theorem i_forL {tl : TE} {g : TG} {tb : TS} (h : tl σ H fun x H1 => ForL K g tb D σ x H1) : tFor (iList K tl) g tb D σ H := h
theorem forL_of {g : TG} {tb : TS} {a : Addr} {xs : List V} (ha : H a = some (.lst xs)) (Pv : Nat → St → Hp → Prop) (Bk : St → Hp → Prop) (h0 : Pv 0 σ H) (hl : ∀ i σ H', Pv i σ H' → H' a = some (.lst xs))
    (hs : ∀ (i : Nat) (x : V) (σ : St) (H : Hp) (N B : St → Hp → Prop), xs[i]? = some x → Pv i σ H → (∀ σ H, Pv (i + 1) σ H → N σ H) → (∀ σ H, Bk σ H → B σ H) → g x σ H fun σ2 H2 => tb { D with nx := N, ct := N, bk := B } σ2 H2)
    (hd : ∀ σ H, Pv xs.length σ H → D.nx σ H) (hb : ∀ σ H, Bk σ H → D.nx σ H) : ForL K g tb D σ (.ref a) H :=
  ⟨a, rfl, ⟨xs, SqL.of ha⟩, for_list (K := K) (a := a) (xs := xs) Pv h0 (fun i σ H' _ p => SqL.of (hl i σ H' p)) (fun i x σ H hi p => hs i x σ H (Pv (i + 1)) D.nx hi p (fun _ _ q => q) hb) hd⟩
theorem forT_of' {g : TG} {tb : TS} {a : Addr} {xs : List V} (ha : H a = some (.tup xs)) (Pv : Nat → St → Hp → Prop) (Bk : St → Hp → Prop) (h0 : Pv 0 σ H) (hl : ∀ i σ H', Pv i σ H' → H' a = some (.tup xs))
    (hs : ∀ (i : Nat) (x : V) (σ : St) (H : Hp) (N B : St → Hp → Prop), xs[i]? = some x → Pv i σ H → (∀ σ H, Pv (i + 1) σ H → N σ H) → (∀ σ H, Bk σ H → B σ H) → g x σ H fun σ2 H2 => tb { D with nx := N, ct := N, bk := B } σ2 H2)
    (hd : ∀ σ H, Pv xs.length σ H → D.nx σ H) (hb : ∀ σ H, Bk σ H → D.nx σ H) : ForT K g tb D σ (.ref a) H :=
  ⟨a, rfl, ⟨xs, SqT.of ha⟩, for_tup (K := K) (a := a) (xs := xs) Pv h0 (fun i σ H' _ p => SqT.of (hl i σ H' p)) (fun i x σ H hi p => hs i x σ H (Pv (i + 1)) D.nx hi p (fun _ _ q => q) hb) hd⟩
theorem i_gtup3 {a : Addr} {x y z : V} {i j k : Nat} {QG : St → Hp → Prop} (h : H a = some (.tup [x, y, z])) (q : QG (((σ.set i (some x)).set j (some y)).set k (some z)) H) : gTup K 3 (gCons (gName i) (gCons (gName j) (gCons (gName k) gNil))) (.ref a) σ H QG :=
  ⟨a, [x, y, z], rfl, SqT.of h, rfl, x, [y, z], rfl, y, [z], rfl, z, [], rfl, rfl, q⟩
theorem i_clistT {p : Addr} {ys : List V} (h : H p = some (.tup ys)) (q : ∀ l H', H l = none → Same H H' → H' l = some (.lst ys) → Q (.ref l) H') : cList K [.ref p] H Q := ⟨p, ys, rfl, .inr (SqT.of h), new_obj q⟩
end
/-- some lists are changed -/
structure KS (S : List Addr) (H H' : Hp) : Prop where
  keep : ∀ b o, b ∉ S → H b = some o → H' b = some o
  tup : ∀ b xs, H b = some (.tup xs) → H' b = some (.tup xs)
  ins : ∀ b C dx fs, H b = some (.ins C dx fs) → H' b = some (.ins C dx fs)
  live : ∀ b, H' b = none → H b = none
  lst : ∀ b xs, H b = some (.lst xs) → ∃ ys, H' b = some (.lst ys)
  dk : ∀ b kvs, H b = some (.dK kvs) → H' b = some (.dK kvs)
theorem Same.ks {S : List Addr} {H H' : Hp} (s : Same H H') : KS S H H' := ⟨fun b o _ e => s b o e, fun b xs e => s b _ e, fun b C dx fs e => s b _ e, fun b e => s.free e, fun b xs e => ⟨xs, s b _ e⟩, fun b xs e => s b _ e⟩
theorem KL.ks {S : List Addr} {m : Addr} {H H' : Hp} (s : KL m H H') (h : m ∈ S) : KS S H H' := ⟨fun b o hb e => s.keep b o (fun z => hb (z ▸ h)) e, s.tup, s.ins, s.live, s.lst, s.dk⟩
theorem KS.trans {S : List Addr} {H H1 H2 : Hp} (a : KS S H H1) (b : KS S H1 H2) : KS S H H2 :=
  ⟨fun c o hc e => b.keep c o hc (a.keep c o hc e), fun c xs e => b.tup c xs (a.tup c xs e), fun c C dx fs e => b.ins c C dx fs (a.ins c C dx fs e), fun c e => a.live c (b.live c e), fun c xs e => by
    obtain ⟨ys, e1⟩ := a.lst c xs e
    exact b.lst c ys e1, fun c xs e => b.dk c xs (a.dk c xs e)⟩
theorem KS.loc {S : List Addr} {l : Addr} {H H1 H2 : Hp} (a : KS S H H1) (b : KL l H1 H2) (hl : H l = none) : KS S H H2 :=
  ⟨fun c o hc e => b.keep c o (ne_of_none e hl) (a.keep c o hc e), fun c xs e => b.tup c xs (a.tup c xs e), fun c C dx fs e => b.ins c C dx fs (a.ins c C dx fs e), fun c e => a.live c (b.live c e), fun c xs e => by
    obtain ⟨ys, e1⟩ := a.lst c xs e
    exact b.lst c ys e1, fun c xs e => b.dk c xs (a.dk c xs e)⟩
theorem same_ks {S : List Addr} {H H1 H2 : Hp} (a : Same H H1) (b : KS S H1 H2) (h : ∀ c ∈ S, H c = none) : Same H H2 := fun c o e =>
  b.keep c o (fun hc => by rw [h c hc] at e; cases e) (a c o e)
theorem ks_im {S : List Addr} {H H' : Hp} {v : V} {d : PyData} (s : KS S H H') (h : Im H v d) : Im H' v d := Im.mono s.tup d h
theorem ks_iml {S : List Addr} {H H' : Hp} {v : List V} {d : List PyData} (s : KS S H H') (h : ImL H v d) : ImL H' v d := ImL.mono s.tup d h
/-- one instance is changed -/
structure KI (t : Addr) (H H' : Hp) : Prop where
  keep : ∀ b o, b ≠ t → H b = some o → H' b = some o
  tup : ∀ b xs, H b = some (.tup xs) → H' b = some (.tup xs)
  lst : ∀ b xs, H b = some (.lst xs) → H' b = some (.lst xs)
theorem Same.ki {t : Addr} {H H' : Hp} (s : Same H H') : KI t H H' := ⟨fun b o _ e => s b o e, fun b xs e => s b _ e, fun b xs e => s b _ e⟩
theorem KI.trans {t : Addr} {H H1 H2 : Hp} (a : KI t H H1) (b : KI t H1 H2) : KI t H H2 := ⟨fun c o h e => b.keep c o h (a.keep c o h e), fun c xs e => b.tup c xs (a.tup c xs e), fun c xs e => b.lst c xs (a.lst c xs e)⟩
theorem KI.free {t : Addr} {H H' : Hp} {o : HO} (k : KI t H H') (e : H' t = some o) {b : Addr} (h : H' b = none) : H b = none := by
  cases q : H b with
  | none => rfl
  | some x =>
    have n : b ≠ t := fun z => by rw [z, e] at h; cases h
    rw [k.keep b x n q] at h; cases h
theorem ki_upd {t Cc dx : Addr} {fs gs : List (Str × V)} {H : Hp} (h : H t = some (.ins Cc dx fs)) : KI t H (upd H t (.ins Cc dx gs)) := by
  refine ⟨fun b o hb e => by rw [upd_ne hb]; exact e, fun b zs e => ?_, fun b zs e => ?_⟩
  · rw [upd_ne (ne_of e h (by intro q; cases q))]; exact e
  · rw [upd_ne (ne_of e h (by intro q; cases q))]; exact e
theorem ki_im {t : Addr} {H H' : Hp} {v : V} {d : PyData} (s : KI t H H') (h : Im H v d) : Im H' v d := Im.mono s.tup d h
def SfO (K : PySem.W.Frag) (f : Str) (y x : V) (H2 : Hp) (P : Hp → Prop) : Prop := ∃ a C dx fs, x = .ref a ∧ H2 a = some (.ins C dx fs) ∧ Cls K C ∧ NoAttr K C f ∧ fs.length < 1000 ∧ P (upd H2 a (.ins C dx (putF f y fs)))
theorem i_sfld {K : PySem.W.Frag} {D : Ends} {σ : St} {H : Hp} {ta tv : TE} {f : Str} (h : tv σ H fun y H1 => ta σ H1 fun x H2 => SfO K f y x H2 (D.nx σ)) : sFld K ta tv f D σ H := h
theorem sfO_of {K : PySem.W.Frag} {f : Str} {y : V} {a Cc dx : Addr} {fs : List (Str × V)} {H : Hp} {P : Hp → Prop} (h : H a = some (.ins Cc dx fs)) (c : Cls K Cc) (n : NoAttr K Cc f) (l : fs.length < 1000)
    (q : ∀ H', KI a H H' → H' a = some (.ins Cc dx (putF f y fs)) → P H') : SfO K f y (.ref a) H P := ⟨a, Cc, dx, fs, rfl, h, c, n, l, q _ (ki_upd h) upd_same⟩
end QW

namespace QW
open PySem L2
theorem bt_list : bootBuiltins "list" = some (.type "list") := PyProof.Rows.boot_list
theorem bt_str : bootBuiltins "str" = some (.type "str") := PyProof.Rows.boot_str
theorem bt_dict : bootBuiltins "dict" = some (.type "dict") := PyProof.Rows.boot_dict
theorem bt_set : bootBuiltins "set" = some (.type "set") := PyProof.Rows.boot_set
theorem bt_object : bootBuiltins "object" = some (.type "object") := PyProof.Rows.boot_object
theorem bt_type : bootBuiltins "type" = some (.type "type") := PyProof.Rows.boot_type
theorem bt_sorted : bootBuiltins "sorted" = some (.builtin "sorted") := PyProof.Rows.boot_sorted
theorem bt_any : bootBuiltins "any" = some (.builtin "any") := PyProof.Rows.boot_any
/-! ### payments, in fractions -/
abbrev Sta := List Rat × List Rat
def minR (a b : Rat) : Rat := if b < a then b else a
def amtR (s : Sta) (p : Nat × Nat) : Rat := minR (s.1.getD p.1 0) (s.2.getD p.2 0)
def payR (s : Sta) (p : Nat × Nat) : Sta := (s.1.set p.1 (s.1.getD p.1 0 - amtR s p), s.2.set p.2 (s.2.getD p.2 0 - amtR s p))
def canR (s : Sta) (p : Nat × Nat) : Prop := p.1 < s.1.length ∧ p.2 < s.2.length ∧ 0 < s.1.getD p.1 0 ∧ 0 < s.2.getD p.2 0
def rowR : Sta → List (Nat × Nat) → Prop
  | _, [] => True
  | s, p :: ps => canR s p ∧ rowR (payR s p) ps
def runR (s : Sta) (ps : List (Nat × Nat)) : Sta := ps.foldl payR s
def amtsR : Sta → List (Nat × Nat) → List Rat
  | _, [] => []
  | s, p :: ps => amtR s p :: amtsR (payR s p) ps
def overR (s : Sta) : Prop := ∀ p, ¬ canR s p
/-- what holds of all rests: from 0 on, of one sum, bounded -/
structure StOk (M : Nat) (s : Sta) : Prop where
  m0 : 0 < M
  m1 : M < 2 ^ 48
  o0 : ∀ q ∈ s.1, 0 ≤ q ∧ q ≤ (2 ^ 88 : Nat) ∧ q.den ∣ M
  d0 : ∀ q ∈ s.2, 0 ≤ q ∧ q ≤ (2 ^ 88 : Nat) ∧ q.den ∣ M
  su : s.1.sum = s.2.sum
  lo : s.1.length ≤ 100
  ld : s.2.length ≤ 100
theorem getD_mem {α : Type} {l : List α} {i : Nat} {x : α} (h : i < l.length) : l.getD i x ∈ l := by
  rw [List.getD_eq_getElem?_getD, List.getElem?_eq_getElem h]
  exact List.getElem_mem h
theorem getD_some {α : Type} {l : List α} {i : Nat} {x : α} (h : i < l.length) : l[i]? = some (l.getD i x) := by
  rw [List.getD_eq_getElem?_getD, List.getElem?_eq_getElem h]; rfl
theorem sum_setR : ∀ (l : List Rat) (i : Nat) (y : Rat), i < l.length → (l.set i y).sum = l.sum - l.getD i 0 + y
  | [], _, _, h => by simp at h
  | a :: l, 0, y, _ => by
    simp only [List.set_cons_zero, List.sum_cons, List.getD_cons_zero]
    grind
  | a :: l, i + 1, y, h => by
    have ih := sum_setR l i y (by simpa using h)
    simp only [List.set_cons_succ, List.sum_cons, List.getD_cons_succ, ih]
    grind
theorem mem_set_of {α : Type} {l : List α} {i : Nat} {x y : α} (h : y ∈ l.set i x) : y ∈ l ∨ y = x := by
  rcases List.mem_or_eq_of_mem_set h with h | h
  · exact .inl h
  · exact .inr h
theorem minR_le (a b : Rat) : minR a b ≤ a ∧ minR a b ≤ b := by
  unfold minR; split <;> grind
theorem minR_pos {a b : Rat} (ha : 0 < a) (hb : 0 < b) : 0 < minR a b := by
  unfold minR; split <;> assumption
theorem mkRat_sub' (x y : Int) {M : Nat} (hM : 0 < M) : mkRat x M - mkRat y M = mkRat (x - y) M := by
  rw [Rat.mkRat_eq_div, Rat.mkRat_eq_div, Rat.mkRat_eq_div]
  push_cast
  grind
theorem den_sub_dvd {a b : Rat} {M : Nat} (hM : 0 < M) (ha : a.den ∣ M) (hb : b.den ∣ M) : (a - b).den ∣ M := by
  obtain ⟨x, hx⟩ := ha
  obtain ⟨y, hy⟩ := hb
  have ex : 0 < x := by
    rcases Nat.eq_zero_or_pos x with z | z
    · subst z; omega
    · exact z
  have ey : 0 < y := by
    rcases Nat.eq_zero_or_pos y with z | z
    · subst z; omega
    · exact z
  have e1 : a = mkRat (a.num * x) M := by
    rw [hx, Int.mul_comm, Nat.mul_comm, Rat.mkRat_mul_left (by omega), Rat.mkRat_self]
  have e2 : b = mkRat (b.num * y) M := by
    rw [hy, Int.mul_comm, Nat.mul_comm, Rat.mkRat_mul_left (by omega), Rat.mkRat_self]
  have e3 : a - b = mkRat (a.num * x - b.num * y) M := by
    have := mkRat_sub' (a.num * x) (b.num * y) hM
    rw [← e1, ← e2] at this
    exact this
  rw [e3]
  exact mkRat_den_dvd _ _ hM
theorem den_minR {a b : Rat} {M : Nat} (ha : a.den ∣ M) (hb : b.den ∣ M) : (minR a b).den ∣ M := by
  unfold minR; split <;> assumption
theorem StOk.pay {M : Nat} {s : Sta} {p : Nat × Nat} (h : StOk M s) (c : canR s p) : StOk M (payR s p) := by
  obtain ⟨c1, c2, c3, c4⟩ := c
  have o1 := h.o0 _ (getD_mem (x := 0) c1)
  have d1 := h.d0 _ (getD_mem (x := 0) c2)
  have m1 := minR_le (s.1.getD p.1 0) (s.2.getD p.2 0)
  have m2 := minR_pos c3 c4
  have dm := den_minR o1.2.2 d1.2.2
  refine ⟨h.m0, h.m1, fun q hq => ?_, fun q hq => ?_, ?_, ?_, ?_⟩
  · rcases mem_set_of hq with hq | rfl
    · exact h.o0 q hq
    · unfold amtR
      exact ⟨by grind, by grind, den_sub_dvd h.m0 o1.2.2 dm⟩
  · rcases mem_set_of hq with hq | rfl
    · exact h.d0 q hq
    · unfold amtR
      exact ⟨by grind, by grind, den_sub_dvd h.m0 d1.2.2 dm⟩
  · show (s.1.set _ _).sum = (s.2.set _ _).sum
    rw [sum_setR _ _ _ c1, sum_setR _ _ _ c2, h.su]
    grind
  · show (s.1.set _ _).length ≤ 100
    rw [List.length_set]; exact h.lo
  · show (s.2.set _ _).length ≤ 100
    rw [List.length_set]; exact h.ld
theorem rowR_append : ∀ {s : Sta} {ps qs : List (Nat × Nat)}, rowR s (ps ++ qs) ↔ rowR s ps ∧ rowR (runR s ps) qs
  | s, [], qs => by simp [rowR, runR]
  | s, p :: ps, qs => by
    simp only [List.cons_append, rowR, rowR_append (s := payR s p), runR, List.foldl_cons]
    exact and_assoc.symm
theorem amtsR_append : ∀ (s : Sta) (ps qs : List (Nat × Nat)), amtsR s (ps ++ qs) = amtsR s ps ++ amtsR (runR s ps) qs
  | s, [], qs => rfl
  | s, p :: ps, qs => by
    simp only [List.cons_append, amtsR, amtsR_append (payR s p), runR, List.foldl_cons]
theorem runR_snoc (s : Sta) (ps : List (Nat × Nat)) (p : Nat × Nat) : runR s (ps ++ [p]) = payR (runR s ps) p := by
  simp [runR]
theorem StOk.run {M : Nat} : ∀ {s : Sta} {ps : List (Nat × Nat)}, StOk M s → rowR s ps → StOk M (runR s ps)
  | s, [], h, _ => h
  | s, p :: ps, h, r => StOk.run (s := payR s p) (h.pay r.1) r.2
theorem run_len : ∀ (s : Sta) (ps : List (Nat × Nat)), (runR s ps).1.length = s.1.length ∧ (runR s ps).2.length = s.2.length
  | s, [] => ⟨rfl, rfl⟩
  | s, p :: ps => by
    have := run_len (payR s p) ps
    simp only [payR, List.length_set] at this
    exact this
theorem zeros_of {l : List Rat} (h : ∀ q ∈ l, 0 ≤ q) (hs : l.sum = 0) : ∀ q ∈ l, q = 0 := by
  induction l with
  | nil => intro q hq; cases hq
  | cons a l ih =>
    have ha := h a List.mem_cons_self
    have hl : ∀ q ∈ l, 0 ≤ q := fun q hq => h q (List.mem_cons_of_mem _ hq)
    have h0 : 0 ≤ l.sum := by
      clear ih hs
      induction l with
      | nil => simp
      | cons b l ih =>
        rw [List.sum_cons]
        have := hl b List.mem_cons_self
        have := ih (fun q hq => h q (by rcases List.mem_cons.mp hq with e | e; exact e ▸ List.mem_cons_self; exact List.mem_cons_of_mem _ (List.mem_cons_of_mem _ e))) (fun q hq => hl q (List.mem_cons_of_mem _ hq))
        grind
    rw [List.sum_cons] at hs
    have e1 : a = 0 := by grind
    have e2 : l.sum = 0 := by grind
    intro q hq
    rcases List.mem_cons.mp hq with rfl | hq
    · exact e1
    · exact ih hl e2 q hq
/-- where nobody can pay all are quits -/
theorem over_zero {M : Nat} {s : Sta} (h : StOk M s) (o : overR s) : (∀ q ∈ s.1, q = 0) ∧ (∀ q ∈ s.2, q = 0) := by
  by_cases h1 : ∃ q ∈ s.1, 0 < q
  · obtain ⟨q, hq, q0⟩ := h1
    obtain ⟨i, hi, e⟩ := List.mem_iff_getElem.mp hq
    have h2 : ∀ r ∈ s.2, r = 0 := by
      intro r hr
      obtain ⟨j, hj, e2⟩ := List.mem_iff_getElem.mp hr
      have r0 := (h.d0 r hr).1
      by_cases hr0 : 0 < r
      · exfalso
        refine o (i, j) ⟨hi, hj, ?_, ?_⟩
        · rw [List.getD_eq_getElem?_getD, List.getElem?_eq_getElem hi, e]; exact q0
        · rw [List.getD_eq_getElem?_getD, List.getElem?_eq_getElem hj, e2]; exact hr0
      · grind
    have s2 : s.2.sum = 0 := by
      generalize s.2 = l at h2
      induction l with
      | nil => simp
      | cons a l ih => rw [List.sum_cons, h2 a List.mem_cons_self, ih fun q hq => h2 q (List.mem_cons_of_mem _ hq)]; grind
    exact ⟨zeros_of (fun q hq => (h.o0 q hq).1) (by rw [h.su, s2]), h2⟩
  · have h2 : ∀ q ∈ s.1, q = 0 := by
      intro q hq
      have := (h.o0 q hq).1
      have : ¬ 0 < q := fun z => h1 ⟨q, hq, z⟩
      grind
    have s1 : s.1.sum = 0 := by
      generalize s.1 = l at h2
      induction l with
      | nil => simp
      | cons a l ih => rw [List.sum_cons, h2 a List.mem_cons_self, ih fun q hq => h2 q (List.mem_cons_of_mem _ hq)]; grind
    exact ⟨h2, zeros_of (fun q hq => (h.d0 q hq).1) (by rw [← h.su, s1])⟩
/-- how many are not quits -/
def nzL : List Rat → Nat
  | [] => 0
  | a :: l => (if a = 0 then 0 else 1) + nzL l
def nzR (s : Sta) : Nat := nzL s.1 + nzL s.2
theorem nzL_set : ∀ (l : List Rat) (i : Nat) (y : Rat), i < l.length → l.getD i 0 ≠ 0 → nzL (l.set i y) ≤ nzL l ∧ (y = 0 → nzL (l.set i y) + 1 ≤ nzL l)
  | [], _, _, h, _ => by simp at h
  | a :: l, 0, y, _, hn => by
    simp only [List.getD_cons_zero] at hn
    simp only [List.set_cons_zero, nzL, if_neg hn]
    refine ⟨by split <;> omega, fun z => ?_⟩
    rw [if_pos z]; omega
  | a :: l, i + 1, y, h, hn => by
    have ih := nzL_set l i y (by simpa using h) (by simpa using hn)
    simp only [List.set_cons_succ, nzL]
    refine ⟨by have := ih.1; omega, fun z => by have := ih.2 z; omega⟩
theorem nzL_le : ∀ l : List Rat, nzL l ≤ l.length
  | [] => Nat.le_refl _
  | a :: l => by
    have := nzL_le l
    simp only [nzL, List.length_cons]
    split <;> omega
theorem nzL_zero : ∀ {l : List Rat}, nzL l = 0 → ∀ q ∈ l, q = 0
  | [], _, q, hq => by cases hq
  | a :: l, h, q, hq => by
    simp only [nzL] at h
    by_cases ha : a = 0
    · rcases List.mem_cons.mp hq with rfl | hq
      · exact ha
      · exact nzL_zero (by omega) q hq
    · rw [if_neg ha] at h; omega
theorem nzR_pay {s : Sta} {p : Nat × Nat} (c : canR s p) : nzR (payR s p) + 1 ≤ nzR s := by
  obtain ⟨c1, c2, c3, c4⟩ := c
  have h1 := nzL_set s.1 p.1 (s.1.getD p.1 0 - amtR s p) c1 (by grind)
  have h2 := nzL_set s.2 p.2 (s.2.getD p.2 0 - amtR s p) c2 (by grind)
  have h3 : s.1.getD p.1 0 - amtR s p = 0 ∨ s.2.getD p.2 0 - amtR s p = 0 := by
    unfold amtR minR
    split <;> grind
  show nzL (s.1.set _ _) + nzL (s.2.set _ _) + 1 ≤ nzL s.1 + nzL s.2
  rcases h3 with h3 | h3
  · have := h1.2 h3; omega
  · have := h2.2 h3; omega
theorem nzR_run : ∀ {s : Sta} {ps : List (Nat × Nat)}, rowR s ps → nzR (runR s ps) + ps.length ≤ nzR s
  | s, [], _ => Nat.le_refl _
  | s, p :: ps, r => by
    have := nzR_run r.2
    have := nzR_pay r.1
    simp only [List.length_cons]
    have e : runR s (p :: ps) = runR (payR s p) ps := rfl
    rw [e]; omega
theorem over_of_nz {s : Sta} (h : nzR s = 0) : overR s := by
  rintro p ⟨c1, c2, c3, c4⟩
  have h1 : nzL s.1 = 0 := by unfold nzR at h; omega
  have := nzL_zero h1 _ (getD_mem (x := 0) c1)
  grind
/-- what is paid and what is left -/
theorem paid_sum : ∀ {s : Sta} {ps : List (Nat × Nat)}, rowR s ps → (amtsR s ps).sum + (runR s ps).1.sum = s.1.sum
  | s, [], _ => by simp [amtsR, runR, Rat.zero_add]
  | s, p :: ps, r => by
    have ih := paid_sum r.2
    have e : runR s (p :: ps) = runR (payR s p) ps := rfl
    have e2 : (payR s p).1.sum = s.1.sum - amtR s p := by
      show (s.1.set _ _).sum = _
      rw [sum_setR _ _ _ r.1.1]
      grind
    rw [e]
    simp only [amtsR, List.sum_cons]
    rw [e2] at ih
    grind
theorem amts_ok {M : Nat} : ∀ {s : Sta} {ps : List (Nat × Nat)}, StOk M s → rowR s ps → ∀ q ∈ amtsR s ps, 0 < q ∧ q ≤ (2 ^ 88 : Nat) ∧ q.den ∣ M
  | s, [], _, _ => by intro q hq; cases hq
  | s, p :: ps, h, r => by
    intro q hq
    rcases List.mem_cons.mp hq with rfl | hq
    · have o1 := h.o0 _ (getD_mem (x := 0) r.1.1)
      have d1 := h.d0 _ (getD_mem (x := 0) r.1.2.1)
      exact ⟨minR_pos r.1.2.2.1 r.1.2.2.2, Rat.le_trans (minR_le _ _).1 o1.2.1, den_minR o1.2.2 d1.2.2⟩
    · exact amts_ok (h.pay r.1) r.2 q hq
theorem amts_len : ∀ (s : Sta) (ps : List (Nat × Nat)), (amtsR s ps).length = ps.length
  | s, [] => rfl
  | s, p :: ps => by simp [amtsR, amts_len]
theorem StOk.bd {M : Nat} {q : Rat} (m1 : M < 2 ^ 48) (m0 : 0 < M) (h0 : 0 ≤ q) (h1 : q ≤ (2 ^ 88 : Nat)) (h2 : q.den ∣ M) : q.num.natAbs < 2 ^ 140 ∧ q.num.natAbs < 2 ^ 230 ∧ q.den < 2 ^ 60 := by
  have hd := Nat.le_of_dvd m0 h2
  have hn : 0 ≤ q.num := Rat.num_nonneg.mpr h0
  rw [Rat.le_iff] at h1
  have e1 : (((2 ^ 88 : Nat) : Rat)).num = ((2 ^ 88 : Nat) : Int) := rfl
  have e2 : (((2 ^ 88 : Nat) : Rat)).den = 1 := rfl
  rw [e1, e2] at h1
  have e3 : ((2 ^ 88 : Nat) : Int) * (q.den : Int) = ((2 ^ 88 * q.den : Nat) : Int) := (Int.natCast_mul _ _).symm
  rw [e3] at h1
  have h3 : q.num.natAbs ≤ 2 ^ 88 * q.den := by omega
  have h4 : 2 ^ 88 * q.den < 2 ^ 88 * 2 ^ 48 := Nat.mul_lt_mul_of_pos_left (by omega) (by decide)
  have h5 : (2 : Nat) ^ 88 * 2 ^ 48 < 2 ^ 140 := by decide
  have h6 : (2 : Nat) ^ 140 < 2 ^ 230 := by decide
  have h7 : (2 : Nat) ^ 48 < 2 ^ 60 := by decide
  omega
/-- what is drawn is right for payments -/
theorem nat_le_rat {q : Rat} (h0 : 0 < q.num) (h : q.num.natAbs < 2 ^ 88) : 0 ≤ q ∧ q ≤ (2 ^ 88 : Nat) := by
  have hd : 0 < q.den := Nat.pos_of_ne_zero q.den_nz
  refine ⟨Rat.num_nonneg.mp (by omega), ?_⟩
  rw [Rat.le_iff]
  have e1 : (((2 ^ 88 : Nat) : Rat)).num = ((2 ^ 88 : Nat) : Int) := rfl
  have e2 : (((2 ^ 88 : Nat) : Rat)).den = 1 := rfl
  rw [e1, e2]
  have e3 : ((2 ^ 88 : Nat) : Int) * (q.den : Int) = ((2 ^ 88 * q.den : Nat) : Int) := (Int.natCast_mul _ _).symm
  rw [e3]
  have h4 : 2 ^ 88 * 1 ≤ 2 ^ 88 * q.den := Nat.mul_le_mul_left _ hd
  omega
theorem Drawn.stOk {side : Nat} {o d : List Rat} (h : Drawn side o d) (hs : side ≤ 100) : ∃ M, StOk M (o, d) := by
  obtain ⟨h1, h2, h3, h4, h5, h6, h7, h8, ⟨M, ⟨m0, m1⟩, m2⟩, h9⟩ := h
  refine ⟨M, m0, m2, fun q hq => ?_, fun q hq => ?_, h5, by show o.length ≤ 100; omega, by show d.length ≤ 100; omega⟩
  · have := nat_le_rat (h6 q hq) (h9 q (List.mem_append_left _ hq))
    exact ⟨this.1, this.2, m1 q (List.mem_append_left _ hq)⟩
  · have := nat_le_rat (h7 q hq) (h9 q (List.mem_append_right _ hq))
    exact ⟨this.1, this.2, m1 q (List.mem_append_right _ hq)⟩
theorem ImL.set {H : Hp} : ∀ {vs : List V} {ds : List PyData} (i : Nat) {v : V} {d : PyData}, ImL H vs ds → Im H v d → ImL H (vs.set i v) (ds.set i d)
  | [], [], _, _, _, _, _ => by simp [ImL]
  | v :: vs, d :: ds, 0, _, _, h, q => by
    simp only [ImL] at h
    simp only [List.set_cons_zero, ImL]
    exact ⟨q, h.2⟩
  | v :: vs, d :: ds, i + 1, _, _, h, q => by
    simp only [ImL] at h
    simp only [List.set_cons_succ, ImL]
    exact ⟨h.1, ImL.set i h.2 q⟩
  | [], _ :: _, _, _, _, h, _ => by simp [ImL] at h
  | _ :: _, [], _, _, _, h, _ => by simp [ImL] at h
theorem ImL.fr_get {H : Hp} {vs : List V} {qs : List Rat} {i : Nat} (h : ImL H vs (qs.map fr)) (hi : i < qs.length) : ∃ v, vs[i]? = some v ∧ Im H v (fr (qs.getD i 0)) := by
  refine h.get' ?_
  rw [List.getElem?_map, getD_some (x := 0) hi]; rfl
/-- both sides, taken apart -/
theorem Im.st_at {H : Hp} {v : V} {s : List Rat × List Rat} (h : Im H v (.tuple [.tuple (s.1.map fr), .tuple (s.2.map fr)])) : ∃ p x y, v = .ref p ∧ H p = some (.tup [x, y]) ∧ Im H x (.tuple (s.1.map fr)) ∧ Im H y (.tuple (s.2.map fr)) := by
  obtain ⟨a, xs, rfl, ha, hl⟩ := h.tup_at
  obtain ⟨x, y, rfl⟩ : ∃ x y, xs = [x, y] := by
    match xs, hl with
    | [x, y], _ => exact ⟨x, y, rfl⟩
  simp only [ImL] at hl
  exact ⟨a, x, y, rfl, ha, hl.1, hl.2.1⟩
/-- the pairs in a list that can pay, and none is lacking -/
def gPair (s : List Rat × List Rat) (i j : Nat) : List (Nat × Nat) := if s.2.getD j 0 ≠ 0 then [(i, j)] else []
theorem gPair_len (s : List Rat × List Rat) (i j : Nat) : (gPair s i j).length ≤ 1 := by
  unfold gPair; split <;> simp
end QW

namespace QW
open PySem L2
/-! ### != by an own __eq__ -/
section
variable {prog : Program} {w : World} {A : Around} {E : Value → Shared → Prop} {s : Shared} {K : PySem.W.Frag} {x C L f : Addr} {h₀ : Heap} {m : Str → Option Value} {ox : Obj} {od : Option Obj} {b tb : Value}
open PySem.W in
theorem ifBound_B {M : Model} {name : Str} {id : String} {args : List Value} {Q : Option Value → Shared → Prop} (X : K.In s.heap) (I : InstAt s.heap x ox C od) (hs : findIn K (.ref C) name = some (some (.builtin id)))
    (hb : ∀ self, bindSpecial (.builtin id) self = pure (.builtin id, [self])) (h : wpAny M A (call (.builtin id) (.ref x :: args)) (fun v => Q (some v)) E s) : wpAny M A (callSpecialIfBound? (.ref x) name args) Q E s := by
  simp only [callSpecialIfBound?, bindSpecialIfBound?]
  refine wpAny_holding (wpAny_bind (wpAny_bind (wpAny_bind (I.type.here ((looks_findIn X hs).here ?_)))))
  refine wpAny_bind (wpAny_askSetting (wpAny_ite ?_))
  have fin : wpAny M A (call (.builtin id) ([.ref x] ++ args) >>= fun v => pure (some v)) Q E s := wpAny_bind (wpAny_mono h (fun v s' h' => wpAny_pure h') fun _ _ h' => h')
  split
  · exact wpAny_bind ((Looks.of_pure (hb _)).here (wpAny_pure (by exact fin)))
  · exact wpAny_tryCatch (wpAny_bind ((Looks.of_pure (hb _)).here (wpAny_pure (by exact fin))))
open PySem.W Builtin in
theorem obj_ne {y : Addr} {Q : Value → Shared → Prop} (hu : A.in1.units < cLine) (X : K.In s.heap) (I : InstAt s.heap x ox C od) (hm : mroIn K C (.type "object") = some true) (hr : findIn K (.ref C) "__eq__" = some (some (.ref f))) (hf : isFn K (.ref f) = true)
    (h : wpAny (model prog w) A.in1 (call (.ref f) [.ref x, .ref y]) (fun v s' => ∃ b, v = .bool b ∧ Q (.bool (!b)) s') E s) : wpAny (model prog w) A (call (.builtin "object.__ne__") [.ref x, .ref y]) Q E s := by
  refine wpAny_call (codeAny_call_builtin PySem.F.slot_object_ne.plain PySem.F.entry_object_ne (@check_slot (model prog w) _ _ s "object.__ne__" "object" "__ne__" (.ref x) [.ref y] [] _ (by decide +kernel) (by decide +kernel) (I.type.andThen (looks_mroIn X hm)) (PySem.F.args_object_ne_2 _ _) ?_))
  unfold Builtin.«object.__ne__»
  refine wpAny_bind (m := slotArgs "__ne__" 1 _) (wpAny_pure ?_)
  refine wpAny_bind (m := cRoomFor _ _) (wpAny_cRoomFor hu ?_)
  refine wpAny_bind (m := callSpecialIfBound? (.ref x) (Str.ofString "__eq__") _) (ifBound_K X I hr hf (wpAny_mono h (fun r s' hq => ?_) fun _ _ y => y))
  obtain ⟨b, rfl, q⟩ := hq
  refine wpAny_bind (m := truthy (.bool b)) (wpAny_truthy_bool ?_)
  exact wpAny_pure q
open PySem.W in
theorem ne_own {y : Addr} {Q : Value → Shared → Prop} {oy : Obj} {oe : Option Obj} (hu : A.units < cLine) (hu1 : A.in1.units < cLine) (X : K.In s.heap) (I : InstAt s.heap x ox C od) (J : InstAt s.heap y oy C oe) (hm : mroIn K C (.type "object") = some true)
    (hn : findIn K (.ref C) "__ne__" = some (some (.builtin "object.__ne__"))) (hr : findIn K (.ref C) "__eq__" = some (some (.ref f))) (hf : isFn K (.ref f) = true)
    (h : wpAny (model prog w) A.in1 (call (.ref f) [.ref x, .ref y]) (fun v s' => ∃ b, v = .bool b ∧ Q (.bool (!b)) s') E s) : wpAny (model prog w) A (compareOp .NotEq (.ref x) (.ref y)) Q E s := by
  have one : wpAny (model prog w) A (tryCompare (.ref x) (cmpInfo .NotEq).2.1 (.ref y)) (fun r s' => ∃ v, r = some v ∧ Q v s') E s := by
    unfold tryCompare
    refine wpAny_bind (ifBound_B X I hn PySem.F.slot_object_ne.bind (obj_ne hu1 X I hm hr hf (wpAny_mono h (fun v s' hv => ?_) fun _ _ e => e)))
    obtain ⟨b, rfl, hq⟩ := hv
    exact ⟨b, rfl, wpAny_pure ⟨_, rfl, hq⟩⟩
  unfold compareOp
  show wpAny (model prog w) A (richCompare .NotEq (.ref x) (.ref y)) Q E s
  unfold richCompare
  simp only [oneThing_ref]
  refine wpAny_holding (wpAny_bind (wpAny_cRoomFor hu ?_))
  refine wpAny_bind (I.type.here (wpAny_bind (J.type.here ?_)))
  rw [show (Value.ref C != Value.ref C) = false from by simp]
  simp only [Bool.false_eq_true, if_false]
  refine wpAny_bind (wpAny_pure ?_)
  simp only [Bool.false_eq_true, if_false]
  refine wpAny_bind (wpAny_mono one (fun r s' z => ?_) fun _ _ e => e)
  obtain ⟨v, rfl, hq⟩ := z
  exact wpAny_pure hq
end
/-- x != y, both instances of the class at C with its own __eq__ -/
def rOwnNe (C : Addr) (sp : Sp) : R2 := fun x y H Q => ∃ a dx fs b dy gs, x = .ref a ∧ y = .ref b ∧ H a = some (.ins C dx fs) ∧ H b = some (.ins C dy gs) ∧ sp [x, y] H (fun z H' => ∃ c, z = .bl c ∧ Q (.bl (!c)) H') E0
theorem op_ownNe {X : Cx} {C f : Addr} {fd : FuncData} {ps : List Str} {sp : Sp} {k : Nat} (hm : PySem.W.mroIn X.K C (.type "object") = some true) (hn : PySem.W.findIn X.K (.ref C) "__ne__" = some (some (.builtin "object.__ne__")))
    (M : Meth X.K C "__eq__" f) (F : FnOk X.prog X.w X.K X.mg X.base CX0 k f fd ps sp) (hb : Binds X.K fd ps []) (hr : Room (k + 1) X.A) : OpR X (compareOp .NotEq) (rOwnNe C sp) := by
  intro pins s σ H x y v u Q I rx ry h
  obtain ⟨a, dx, fs, b, dy, gs, rfl, rfl, ha, hb', q⟩ := h
  cases rx
  cases ry
  obtain ⟨mA, J, _⟩ := ins_get I.hok ha
  obtain ⟨mB, J', _⟩ := ins_get I.hok hb'
  obtain ⟨od, J, _⟩ := J.look
  obtain ⟨od', J', _⟩ := J'.look
  have e0 : Env0 X.prog X.w X.K X.mg X.base X.A.in1 X.stack s H := by
    have e := I.env0
    exact ⟨e.frames, e.mod, e.bs, e.bsz, e.funs, e.frf, e.hok, e.bare⟩
  have hl := F.len _ _ _ _ q
  have r2 : Vals [V.ref a, V.ref b] [Value.ref a, Value.ref b] := .cons rfl (.cons rfl .nil)
  refine ne_own hr.units0 hr.in1.units0 I.kIn J J' hm hn M.at_ M.fn ?_
  refine wpAny_call (codeAny_mono (F.run X.A.in1 X.stack s H ⟨[.ref a, .ref b], []⟩ [.ref a, .ref b] [.ref a, .ref b] _ E0 hr.in1 e0 (by
    have := hb s [.ref a, .ref b] I.kIn (by simpa using hl)
    simpa using this) r2 q) fun r s' hq => ?_)
  cases r with
  | error e => exact pass0 pins σ H s e s' I hq
  | ok fl =>
    cases fl with
    | ret w =>
      obtain ⟨z, H', I', rz, c, ez, qz⟩ := I.after hq
      subst ez
      cases rz
      exact ⟨c, rfl, .bl (!c), H', I', rfl, qz⟩
    | next => exact False.elim hq
    | brk => exact False.elim hq
    | cont => exact False.elim hq

/-! ### == and != of an instance with an own __eq__ against anything -/
section
variable {prog : Program} {w : World} {A : Around} {E : Value → Shared → Prop} {s : Shared} {K : PySem.W.Frag} {x C L f : Addr} {h₀ : Heap} {m : Str → Option Value} {ox : Obj} {od : Option Obj} {b tb : Value}
open PySem.W Builtin in
theorem obj_neA {y : Value} {Q : Value → Shared → Prop} (hu : A.in1.units < cLine) (X : K.In s.heap) (I : InstAt s.heap x ox C od) (hm : mroIn K C (.type "object") = some true) (hr : findIn K (.ref C) "__eq__" = some (some (.ref f))) (hf : isFn K (.ref f) = true)
    (h : wpAny (model prog w) A.in1 (call (.ref f) [.ref x, y]) (fun v s' => ∃ b, v = .bool b ∧ Q (.bool (!b)) s') E s) : wpAny (model prog w) A (call (.builtin "object.__ne__") [.ref x, y]) Q E s := by
  refine wpAny_call (codeAny_call_builtin PySem.F.slot_object_ne.plain PySem.F.entry_object_ne (@check_slot (model prog w) _ _ s "object.__ne__" "object" "__ne__" (.ref x) [y] [] _ (by decide +kernel) (by decide +kernel) (I.type.andThen (looks_mroIn X hm)) (PySem.F.args_object_ne_2 _ _) ?_))
  unfold Builtin.«object.__ne__»
  refine wpAny_bind (m := slotArgs "__ne__" 1 _) (wpAny_pure ?_)
  refine wpAny_bind (m := cRoomFor _ _) (wpAny_cRoomFor hu ?_)
  refine wpAny_bind (m := callSpecialIfBound? (.ref x) (Str.ofString "__eq__") _) (ifBound_K X I hr hf (wpAny_mono h (fun r s' hq => ?_) fun _ _ y => y))
  obtain ⟨b, rfl, q⟩ := hq
  refine wpAny_bind (m := truthy (.bool b)) (wpAny_truthy_bool ?_)
  exact wpAny_pure q
open PySem.W in
theorem ne_ownA {y : Value} {Q : Value → Shared → Prop} (hu : A.units < cLine) (hu1 : A.in1.units < cLine) (X : K.In s.heap) (I : InstAt s.heap x ox C od) (hb : Looks (model prog w) s.heap (typeOf y) tb) (hnf : notFirst K C tb = true) (hm : mroIn K C (.type "object") = some true)
    (hn : findIn K (.ref C) "__ne__" = some (some (.builtin "object.__ne__"))) (hr : findIn K (.ref C) "__eq__" = some (some (.ref f))) (hf : isFn K (.ref f) = true)
    (h : wpAny (model prog w) A.in1 (call (.ref f) [.ref x, y]) (fun v s' => ∃ b, v = .bool b ∧ Q (.bool (!b)) s') E s) : wpAny (model prog w) A (compareOp .NotEq (.ref x) y) Q E s := by
  have one : wpAny (model prog w) A (tryCompare (.ref x) (cmpInfo .NotEq).2.1 y) (fun r s' => ∃ v, r = some v ∧ Q v s') E s := by
    unfold tryCompare
    refine wpAny_bind (ifBound_B X I hn PySem.F.slot_object_ne.bind (obj_neA hu1 X I hm hr hf (wpAny_mono h (fun v s' hv => ?_) fun _ _ e => e)))
    obtain ⟨b, rfl, hq⟩ := hv
    exact ⟨b, rfl, wpAny_pure ⟨_, rfl, hq⟩⟩
  unfold compareOp
  show wpAny (model prog w) A (richCompare .NotEq (.ref x) y) Q E s
  unfold richCompare
  simp only [oneThing_ref]
  refine wpAny_holding (wpAny_bind (wpAny_cRoomFor hu ?_))
  refine wpAny_bind (I.type.here (wpAny_bind (hb.here ?_)))
  split
  · rename_i q
    have e : subIn K tb (.ref C) = some false := by
      rcases Bool.or_eq_true_iff.mp hnf with e | e
      · rw [beq_iff_eq.mp e] at q; simp at q
      · exact beq_iff_eq.mp e
    refine wpAny_bind ((looks_subIn X e).here ?_)
    simp only [Bool.false_eq_true, if_false]
    refine wpAny_bind (wpAny_mono one (fun r s' z => ?_) fun _ _ e => e)
    obtain ⟨v, rfl, hq⟩ := z
    exact wpAny_pure hq
  · refine wpAny_bind (wpAny_pure ?_)
    simp only [Bool.false_eq_true, if_false]
    refine wpAny_bind (wpAny_mono one (fun r s' z => ?_) fun _ _ e => e)
    obtain ⟨v, rfl, hq⟩ := z
    exact wpAny_pure hq
end
/-- x == y, x an instance of the class at C with its own __eq__, y anything of a class not below C -/
def rOwnEqA (K : PySem.W.Frag) (C : Addr) (sp : Sp) : R2 := fun x y H Q => ∃ a dx fs t, x = .ref a ∧ H a = some (.ins C dx fs) ∧ TyX K H y t ∧ PySem.W.notFirst K C t = true ∧ sp [x, y] H (fun z H' => ∃ c, z = .bl c ∧ Q (.bl c) H') E0
def rOwnNeA (K : PySem.W.Frag) (C : Addr) (sp : Sp) : R2 := fun x y H Q => ∃ a dx fs t, x = .ref a ∧ H a = some (.ins C dx fs) ∧ TyX K H y t ∧ PySem.W.notFirst K C t = true ∧ sp [x, y] H (fun z H' => ∃ c, z = .bl c ∧ Q (.bl (!c)) H') E0
section
variable {X : Cx} {C f : Addr} {fd : FuncData} {ps : List Str} {sp : Sp} {k : Nat}
theorem own_run {pins : List (Addr × Obj)} {σ : St} {H : Hp} {s : Shared} {A : Around} {x y : V} {u v : Value} {Q : VK} (M : Meth X.K C "__eq__" f) (F : FnOk X.prog X.w X.K X.mg X.base CX0 k f fd ps sp) (hb : Binds X.K fd ps []) (hr : Room k A) (hf : A.frames = X.A.frames)
    (I : Inv X pins σ H s) (rx : RelV x u) (ry : RelV y v) (q : sp [x, y] H Q E0) : wpAny (model X.prog X.w) A (call (.ref f) [u, v]) (EP X pins σ Q) X.xe s := by
  have e0 : Env0 X.prog X.w X.K X.mg X.base A X.stack s H := by
    have e := I.env0
    exact ⟨by rw [hf]; exact e.frames, e.mod, e.bs, e.bsz, e.funs, e.frf, e.hok, e.bare⟩
  have hl := F.len _ _ _ _ q
  have r2 : Vals [x, y] [u, v] := .cons rx (.cons ry .nil)
  refine wpAny_call (codeAny_mono (F.run A X.stack s H ⟨[u, v], []⟩ [u, v] [x, y] Q E0 hr e0 (by
    have := hb s [u, v] I.kIn (by simpa using hl)
    simpa using this) r2 q) fun r s' hq => ?_)
  cases r with
  | error e => exact pass0 pins σ H s e s' I hq
  | ok fl =>
    cases fl with
    | ret w => exact I.after hq
    | next => exact False.elim hq
    | brk => exact False.elim hq
    | cont => exact False.elim hq
theorem op_ownNeA (hm : PySem.W.mroIn X.K C (.type "object") = some true) (hn : PySem.W.findIn X.K (.ref C) "__ne__" = some (some (.builtin "object.__ne__")))
    (M : Meth X.K C "__eq__" f) (F : FnOk X.prog X.w X.K X.mg X.base CX0 k f fd ps sp) (hb : Binds X.K fd ps []) (hr : Room (k + 1) X.A) : OpR X (compareOp .NotEq) (rOwnNeA X.K C sp) := by
  intro pins s σ H x y v u Q I rx ry h
  obtain ⟨a, dx, fs, t, rfl, ha, ty, hnf, q⟩ := h
  cases (show v = Value.ref a from rx)
  obtain ⟨mA, J, _⟩ := ins_get I.hok ha
  obtain ⟨od, J, _⟩ := J.look
  obtain ⟨P, Z, hP, _⟩ := kit_of I ry ty
  refine ne_ownA hr.units0 hr.in1.units0 I.kIn J (Z.ty _ _ I.kIn hP) hnf hm hn M.at_ M.fn ?_
  refine wpAny_mono (own_run M F hb hr.in1 rfl I (show RelV (.ref a) (.ref a) from rfl) ry q) (fun r s' hq => ?_) fun _ _ x => x
  obtain ⟨z, H', I', rz, c, ez, qz⟩ := hq
  subst ez
  cases rz
  exact ⟨c, rfl, .bl (!c), H', I', rfl, qz⟩
theorem op_ownEqA (M : Meth X.K C "__eq__" f) (F : FnOk X.prog X.w X.K X.mg X.base CX0 k f fd ps sp) (hb : Binds X.K fd ps []) (hr : Room k X.A) : OpR X (compareOp .Eq) (rOwnEqA X.K C sp) := by
  intro pins s σ H x y v u Q I rx ry h
  obtain ⟨a, dx, fs, t, rfl, ha, ty, hnf, q⟩ := h
  cases (show v = Value.ref a from rx)
  obtain ⟨mA, J, _⟩ := ins_get I.hok ha
  obtain ⟨od, J, _⟩ := J.look
  obtain ⟨P, Z, hP, _⟩ := kit_of I ry ty
  obtain ⟨m, hF⟩ := I.fr
  refine PySem.W.cmp_K (op := .Eq) hr.units0 hF I.ok.mod.kin J (Z.ty _ _ I.kIn hP) hnf M.at_ M.fn ?_
  refine wpAny_mono (own_run M F hb hr rfl I (show RelV (.ref a) (.ref a) from rfl) ry q) (fun r s' hq => ?_) fun _ _ x => x
  obtain ⟨z, H', I', rz, c, ez, qz⟩ := hq
  subst ez
  cases rz
  exact ⟨.bl c, H', I', rfl, qz⟩
end
end QW

namespace QW
open PySem L2
/-! ### things of any kind: ints, flags, tuples of things, others -/
inductive Th where
  | int (i : Int)
  | bl (b : Bool)
  | tup (l : List Th)
  | oth
mutual
def ThR (P : Addr → Prop) (H : Hp) : V → Th → Prop
  | v, .int i => v = .int i
  | v, .bl b => v = .bl b
  | v, .tup ds => ∃ a vs, v = .ref a ∧ H a = some (.tup vs) ∧ ThL P H vs ds
  | v, .oth => v = .non ∨ (∃ x, v = .str x) ∨ (∃ a xs, v = .ref a ∧ P a ∧ H a = some (.lst xs)) ∨ (∃ a kvs, v = .ref a ∧ P a ∧ H a = some (.dK kvs))
def ThL (P : Addr → Prop) (H : Hp) : List V → List Th → Prop
  | [], [] => True
  | v :: vs, d :: ds => ThR P H v d ∧ ThL P H vs ds
  | [], _ :: _ => False
  | _ :: _, [] => False
end
structure Kp (P : Addr → Prop) (H H' : Hp) : Prop where
  lst : ∀ b xs, P b → H b = some (.lst xs) → ∃ ys, H' b = some (.lst ys)
  dk : ∀ b kvs, P b → H b = some (.dK kvs) → H' b = some (.dK kvs)
  tup : ∀ b xs, H b = some (.tup xs) → H' b = some (.tup xs)
theorem Same.kp {P : Addr → Prop} {H H' : Hp} (s : Same H H') : Kp P H H' := ⟨fun b xs _ e => ⟨xs, s b _ e⟩, fun b xs _ e => s b _ e, fun b xs e => s b _ e⟩
theorem KL.kp {m : Addr} {P : Addr → Prop} {H H' : Hp} (s : KL m H H') : Kp P H H' := ⟨fun b xs _ e => s.lst b xs e, fun b xs _ e => s.dk b xs e, s.tup⟩
theorem KS.kp {S : List Addr} {P : Addr → Prop} {H H' : Hp} (s : KS S H H') : Kp P H H' := ⟨fun b xs _ e => s.lst b xs e, fun b xs _ e => s.dk b xs e, s.tup⟩
mutual
theorem ThR.mono {P P' : Addr → Prop} {H H' : Hp} (hp : ∀ a, P a → P' a) (k : Kp P H H') : ∀ {v : V} (d : Th), ThR P H v d → ThR P' H' v d
  | _, .int _, h => by simpa [ThR] using h
  | _, .bl _, h => by simpa [ThR] using h
  | _, .tup ds, h => by
    simp only [ThR] at h ⊢
    obtain ⟨a, vs, e, ha, hl⟩ := h
    exact ⟨a, vs, e, k.tup _ _ ha, ThL.mono hp k ds hl⟩
  | _, .oth, h => by
    simp only [ThR] at h ⊢
    rcases h with h | h | ⟨a, xs, e, pa, ha⟩ | ⟨a, xs, e, pa, ha⟩
    · exact .inl h
    · exact .inr (.inl h)
    · obtain ⟨ys, e2⟩ := k.lst _ _ pa ha
      exact .inr (.inr (.inl ⟨a, ys, e, hp _ pa, e2⟩))
    · exact .inr (.inr (.inr ⟨a, xs, e, hp _ pa, k.dk _ _ pa ha⟩))
theorem ThL.mono {P P' : Addr → Prop} {H H' : Hp} (hp : ∀ a, P a → P' a) (k : Kp P H H') : ∀ {vs : List V} (ds : List Th), ThL P H vs ds → ThL P' H' vs ds
  | [], [], _ => by simp [ThL]
  | v :: vs, d :: ds, h => by
    simp only [ThL] at h ⊢
    exact ⟨ThR.mono hp k d h.1, ThL.mono hp k ds h.2⟩
  | [], _ :: _, h => by simp [ThL] at h
  | _ :: _, [], h => by simp [ThL] at h
end
theorem ThR.mon {P : Addr → Prop} {H H' : Hp} (k : Kp P H H') {v : V} {d : Th} (h : ThR P H v d) : ThR P H' v d := ThR.mono (fun _ h => h) k d h
theorem sm_th {P : Addr → Prop} {v : V} {d : Th} {H H' : Hp} (s : Same H H') (h : ThR P H v d) : ThR P H' v d := h.mon (Same.kp s)
theorem kl_th {m : Addr} {P : Addr → Prop} {v : V} {d : Th} {H H' : Hp} (s : KL m H H') (h : ThR P H v d) : ThR P H' v d := h.mon s.kp
theorem ks_th {S : List Addr} {P : Addr → Prop} {v : V} {d : Th} {H H' : Hp} (s : KS S H H') (h : ThR P H v d) : ThR P H' v d := h.mon s.kp
theorem ThL.mon {P : Addr → Prop} {H H' : Hp} (k : Kp P H H') {v : List V} {d : List Th} (h : ThL P H v d) : ThL P H' v d := ThL.mono (fun _ h => h) k d h
mutual
theorem ThR.live {P P' : Addr → Prop} {H : Hp} (hp : ∀ a, P a → H a ≠ none → P' a) : ∀ {v : V} (d : Th), ThR P H v d → ThR P' H v d
  | _, .int _, h => by simpa [ThR] using h
  | _, .bl _, h => by simpa [ThR] using h
  | _, .tup ds, h => by
    simp only [ThR] at h ⊢
    obtain ⟨a, vs, e, ha, hl⟩ := h
    exact ⟨a, vs, e, ha, ThL.live hp ds hl⟩
  | _, .oth, h => by
    simp only [ThR] at h ⊢
    rcases h with h | h | ⟨a, xs, e, pa, ha⟩ | ⟨a, xs, e, pa, ha⟩
    · exact .inl h
    · exact .inr (.inl h)
    · exact .inr (.inr (.inl ⟨a, xs, e, hp _ pa (by rw [ha]; simp), ha⟩))
    · exact .inr (.inr (.inr ⟨a, xs, e, hp _ pa (by rw [ha]; simp), ha⟩))
theorem ThL.live {P P' : Addr → Prop} {H : Hp} (hp : ∀ a, P a → H a ≠ none → P' a) : ∀ {vs : List V} (ds : List Th), ThL P H vs ds → ThL P' H vs ds
  | [], [], _ => by simp [ThL]
  | v :: vs, d :: ds, h => by
    simp only [ThL] at h ⊢
    exact ⟨ThR.live hp d h.1, ThL.live hp ds h.2⟩
  | [], _ :: _, h => by simp [ThL] at h
  | _ :: _, [], h => by simp [ThL] at h
end
theorem ThL.length {P : Addr → Prop} {H : Hp} : ∀ {vs : List V} {ds : List Th}, ThL P H vs ds → vs.length = ds.length
  | [], [], _ => rfl
  | v :: vs, d :: ds, h => by
    simp only [ThL] at h
    simp [ThL.length h.2]
  | [], _ :: _, h => by simp [ThL] at h
  | _ :: _, [], h => by simp [ThL] at h
theorem ThL.get {P : Addr → Prop} {H : Hp} : ∀ {vs : List V} {ds : List Th} {i : Nat} {v : V}, ThL P H vs ds → vs[i]? = some v → ∃ d, ds[i]? = some d ∧ ThR P H v d
  | [], [], _, _, _, e => by simp at e
  | v :: vs, d :: ds, 0, w, h, e => by
    simp only [ThL] at h
    simp at e
    subst e
    exact ⟨d, rfl, h.1⟩
  | v :: vs, d :: ds, i + 1, w, h, e => by
    simp only [ThL] at h
    obtain ⟨x, h1, h2⟩ := ThL.get (i := i) h.2 (by simpa using e)
    exact ⟨x, by simpa using h1, h2⟩
  | [], _ :: _, _, _, h, _ => by simp [ThL] at h
  | _ :: _, [], _, _, h, _ => by simp [ThL] at h
theorem ThL.append {P : Addr → Prop} {H : Hp} : ∀ {vs : List V} {ds : List Th} {ws : List V} {es : List Th}, ThL P H vs ds → ThL P H ws es → ThL P H (vs ++ ws) (ds ++ es)
  | [], [], _, _, _, q => q
  | v :: vs, d :: ds, _, _, h, q => by
    simp only [ThL] at h
    simp only [List.cons_append, ThL]
    exact ⟨h.1, ThL.append h.2 q⟩
  | [], _ :: _, _, _, h, _ => by simp [ThL] at h
  | _ :: _, [], _, _, h, _ => by simp [ThL] at h
theorem ThL.take {P : Addr → Prop} {H : Hp} : ∀ {vs : List V} {ds : List Th} (n : Nat), ThL P H vs ds → ThL P H (vs.take n) (ds.take n)
  | _, _, 0, _ => by simp [ThL]
  | [], [], n + 1, h => by simp [ThL]
  | v :: vs, d :: ds, n + 1, h => by
    simp only [ThL] at h
    simp only [List.take_succ_cons, ThL]
    exact ⟨h.1, ThL.take n h.2⟩
  | [], _ :: _, _ + 1, h => by simp [ThL] at h
  | _ :: _, [], _ + 1, h => by simp [ThL] at h
theorem ThL.drop {P : Addr → Prop} {H : Hp} : ∀ {vs : List V} {ds : List Th} (n : Nat), ThL P H vs ds → ThL P H (vs.drop n) (ds.drop n)
  | _, _, 0, h => h
  | [], [], n + 1, h => by simp [ThL]
  | v :: vs, d :: ds, n + 1, h => by
    simp only [ThL] at h
    simp only [List.drop_succ_cons]
    exact ThL.drop n h.2
  | [], _ :: _, _ + 1, h => by simp [ThL] at h
  | _ :: _, [], _ + 1, h => by simp [ThL] at h
mutual
def thOf : PyData → Th
  | .int i => .int i
  | .bool b => .bl b
  | .tuple ds => .tup (thAll ds)
  | _ => .oth
def thAll : List PyData → List Th
  | [] => []
  | d :: ds => thOf d :: thAll ds
end
theorem thAll_map (ds : List PyData) : thAll ds = ds.map thOf := by
  induction ds with
  | nil => rfl
  | cons d ds ih => simp [thAll, ih]
mutual
theorem Im.th {P : Addr → Prop} {H : Hp} : ∀ {v : V} (d : PyData), Im H v d → ThR P H v (thOf d)
  | _, .none, h => by simp only [Im] at h; subst h; simp [thOf, ThR]
  | _, .bool _, h => by simp only [Im] at h; subst h; simp [thOf, ThR]
  | _, .int _, h => by simp only [Im] at h; subst h; simp [thOf, ThR]
  | _, .str _, h => by simp only [Im] at h; subst h; simp [thOf, ThR]
  | _, .tuple ds, h => by
    simp only [Im] at h
    obtain ⟨a, vs, e, ha, hl⟩ := h
    simp only [thOf, ThR]
    exact ⟨a, vs, e, ha, ImL.th ds hl⟩
  | _, .list _, h => by simp [Im] at h
  | _, .dict _, h => by simp [Im] at h
theorem ImL.th {P : Addr → Prop} {H : Hp} : ∀ {vs : List V} (ds : List PyData), ImL H vs ds → ThL P H vs (thAll ds)
  | [], [], _ => by simp [thAll, ThL]
  | v :: vs, d :: ds, h => by
    simp only [ImL] at h
    simp only [thAll, ThL]
    exact ⟨Im.th d h.1, ImL.th ds h.2⟩
  | [], _ :: _, h => by simp [ImL] at h
  | _ :: _, [], h => by simp [ImL] at h
end
def Th.isTup : Th → Bool
  | .tup _ => true
  | _ => false
def Th.isInt : Th → Bool
  | .int _ => true
  | .bl _ => true
  | _ => false
def Th.isBl : Th → Bool
  | .bl _ => true
  | _ => false
theorem kit_bi : kitB "bool" "int" = some true := by decide +kernel
theorem kit_bb : kitB "bool" "bool" = some true := by decide +kernel
theorem kit_it : kitB "int" "tuple" = some false := by decide +kernel
theorem kit_bt : kitB "bool" "tuple" = some false := by decide +kernel
theorem kit_nt : kitB "NoneType" "tuple" = some false := by decide +kernel
theorem kit_st : kitB "str" "tuple" = some false := by decide +kernel
theorem kit_lt : kitB "list" "tuple" = some false := by decide +kernel
theorem kit_dt : kitB "dict" "tuple" = some false := by decide +kernel
theorem kit_ti : kitB "tuple" "int" = some false := by decide +kernel
theorem kit_ni : kitB "NoneType" "int" = some false := by decide +kernel
theorem kit_si : kitB "str" "int" = some false := by decide +kernel
theorem kit_li : kitB "list" "int" = some false := by decide +kernel
theorem kit_di : kitB "dict" "int" = some false := by decide +kernel
theorem kit_tb : kitB "tuple" "bool" = some false := by decide +kernel
theorem kit_nb : kitB "NoneType" "bool" = some false := by decide +kernel
theorem kit_sb : kitB "str" "bool" = some false := by decide +kernel
theorem kit_lb : kitB "list" "bool" = some false := by decide +kernel
theorem kit_db : kitB "dict" "bool" = some false := by decide +kernel
section
variable {K : PySem.W.Frag} {H : Hp} {Q : VK} {P : Addr → Prop}
theorem i_isi_tupT {v : V} {d : Th} (h : ThR P H v d) (q : Q (.bl d.isTup) H) : rIsi K [v, .ty "tuple"] H Q := by
  cases d with
  | int i => simp only [ThR] at h; subst h; exact i_isiB (.base (.int _)) kit_it q
  | bl b => simp only [ThR] at h; subst h; exact i_isiB (.base (.bl _)) kit_bt q
  | tup l =>
    simp only [ThR] at h
    obtain ⟨a, vs, rfl, ha, hl⟩ := h
    exact i_isiB (.base (.tup ha)) kit_tt q
  | oth =>
    simp only [ThR] at h
    rcases h with rfl | ⟨x, rfl⟩ | ⟨a, xs, rfl, _, ha⟩ | ⟨a, xs, rfl, _, ha⟩
    · exact i_isiB (.base .non) kit_nt q
    · exact i_isiB (.base (.str _)) kit_st q
    · exact i_isiB (.base (.lst ha)) kit_lt q
    · exact i_isiB (.base (.dK ha)) kit_dt q
theorem i_isi_intT {v : V} {d : Th} (h : ThR P H v d) (q : Q (.bl d.isInt) H) : rIsi K [v, .ty "int"] H Q := by
  cases d with
  | int i => simp only [ThR] at h; subst h; exact i_isiB (.base (.int _)) kit_ii q
  | bl b => simp only [ThR] at h; subst h; exact i_isiB (.base (.bl _)) kit_bi q
  | tup l =>
    simp only [ThR] at h
    obtain ⟨a, vs, rfl, ha, hl⟩ := h
    exact i_isiB (.base (.tup ha)) kit_ti q
  | oth =>
    simp only [ThR] at h
    rcases h with rfl | ⟨x, rfl⟩ | ⟨a, xs, rfl, _, ha⟩ | ⟨a, xs, rfl, _, ha⟩
    · exact i_isiB (.base .non) kit_ni q
    · exact i_isiB (.base (.str _)) kit_si q
    · exact i_isiB (.base (.lst ha)) kit_li q
    · exact i_isiB (.base (.dK ha)) kit_di q
theorem i_isi_blT {v : V} {d : Th} (h : ThR P H v d) (q : Q (.bl d.isBl) H) : rIsi K [v, .ty "bool"] H Q := by
  cases d with
  | int i => simp only [ThR] at h; subst h; exact i_isiB (.base (.int _)) kit_ib q
  | bl b => simp only [ThR] at h; subst h; exact i_isiB (.base (.bl _)) kit_bb q
  | tup l =>
    simp only [ThR] at h
    obtain ⟨a, vs, rfl, ha, hl⟩ := h
    exact i_isiB (.base (.tup ha)) kit_tb q
  | oth =>
    simp only [ThR] at h
    rcases h with rfl | ⟨x, rfl⟩ | ⟨a, xs, rfl, _, ha⟩ | ⟨a, xs, rfl, _, ha⟩
    · exact i_isiB (.base .non) kit_nb q
    · exact i_isiB (.base (.str _)) kit_sb q
    · exact i_isiB (.base (.lst ha)) kit_lb q
    · exact i_isiB (.base (.dK ha)) kit_db q
theorem i_isi_bb {b : Bool} (q : Q (.bl true) H) : rIsi K [.bl b, .ty "bool"] H Q := i_isiB (.base (.bl _)) kit_bb q
/-- tuples of things put together -/
theorem i_catTh {x y : V} {ds es : List Th} (h1 : ThR P H x (.tup ds)) (h2 : ThR P H y (.tup es)) (hz : ds.length + es.length ≤ sizeLine)
    (q : ∀ v H', Same H H' → ThR P H' v (.tup (ds ++ es)) → Q v H') : rCatA K x y H Q := by
  have h1' := h1
  have h2' := h2
  simp only [ThR] at h1' h2'
  obtain ⟨a, xs, rfl, ha, la⟩ := h1'
  obtain ⟨b, ys, rfl, hb, lb⟩ := h2'
  have e1 := la.length
  have e2 := lb.length
  refine ⟨a, b, xs, ys, rfl, rfl, SqT.of ha, SqT.of hb, by omega, fun z => ?_, fun _ z => ?_, fun _ _ => new_obj fun p H' hp s e => ?_⟩
  · subst z
    have : ds = [] := List.eq_nil_of_length_eq_zero e1.symm
    subst this
    exact q _ _ (Same.refl _) h2
  · subst z
    have : es = [] := List.eq_nil_of_length_eq_zero e2.symm
    subst this
    rw [List.append_nil] at q
    exact q _ _ (Same.refl _) h1
  · refine q _ _ s ?_
    simp only [ThR]
    exact ⟨p, _, rfl, e, ThL.append (la.mon (Same.kp s)) (lb.mon (Same.kp s))⟩
/-- a slice of a tuple of things: some of them -/
theorem i_slTh {x : V} {ds : List Th} {lo hi : Option Int} (h : ThR P H x (.tup ds))
    (q : ∀ v H' es, Same H H' → es.length ≤ ds.length → ThR P H' v (.tup es) → Q v H') : rSlA K x lo hi H Q := by
  have h' := h
  simp only [ThR] at h'
  obtain ⟨a, xs, rfl, ha, la⟩ := h'
  refine ⟨a, xs, rfl, SqT.of ha, fun _ => q _ _ ds (Same.refl _) (Nat.le_refl _) h, fun _ => new_obj fun p H' hp s e => ?_⟩
  refine q _ _ ((ds.drop (HT.sIx xs.length 0 lo)).take (HT.sIx xs.length xs.length hi - HT.sIx xs.length 0 lo)) s ?_ ?_
  · rw [List.length_take, List.length_drop]; omega
  · simp only [ThR]
    refine ⟨p, _, rfl, e, ?_⟩
    unfold cutV
    exact ThL.take _ (ThL.drop _ (la.mon (Same.kp s)))
end
theorem ThR.tup_of {P : Addr → Prop} {H : Hp} {a : Addr} {vs : List V} {ds : List Th} (h : H a = some (.tup vs)) (l : ThL P H vs ds) : ThR P H (.ref a) (.tup ds) := by
  simp only [ThR]; exact ⟨a, vs, rfl, h, l⟩
theorem ThR.tup_at {P : Addr → Prop} {H : Hp} {v : V} {ds : List Th} (h : ThR P H v (.tup ds)) : ∃ a vs, v = .ref a ∧ H a = some (.tup vs) ∧ ThL P H vs ds := by
  simpa only [ThR] using h
/-! ### any(xs) of a list of ints -/
theorem truth_ints {prog : Program} {w : World} {A : Around} {ns : List Int} {its : List Value} (r : Vals (ns.map V.int) its) :
    TruthOf prog w A (fun i v => its.toArray[i]? = some v) (fun i => ns.getD i 0 != 0) := fun i v s Q E hv hq => by
  have hv' : its[i]? = some v := by simpa using hv
  have hi : i < ns.length := by
    have := r.length
    rw [List.length_map] at this
    rcases Nat.lt_or_ge i its.length with h | h
    · omega
    · rw [List.getElem?_eq_none h] at hv'; cases hv'
  have e1 : (ns.map V.int)[i]? = some (.int (ns.getD i 0)) := by
    rw [List.getElem?_map, List.getD_eq_getElem?_getD, List.getElem?_eq_getElem hi]; rfl
  obtain ⟨u, eu, ru⟩ := r.get e1
  rw [hv'] at eu
  cases eu
  obtain ⟨t, rfl⟩ := ru
  exact PySem.P.truthy_int hq
theorem any_rangeI : ∀ ns : List Int, (List.range ns.length).any (fun i => ns.getD i 0 != 0) = ns.any (· != 0)
  | [] => rfl
  | b :: bs => by
    rw [List.length_cons, List.range_succ_eq_map, List.any_cons, List.any_map, List.any_cons, ← any_rangeI bs]
    all_goals rfl
def rAnyI (K : PySem.W.Frag) : List V → Hp → VK → Prop := fun vs H Q => ∃ (a : Addr) (ns : List Int), vs = [V.ref a] ∧ SqL K H a (ns.map V.int) ∧ Q (.bl (ns.any (· != 0))) H
theorem cr_anyI {X : Cx} (hc : X.calm = true) : CallR X (.builtin "any") (rAnyI X.K) := by
  intro pins s σ H vs us Q I r h
  obtain ⟨a, ns, rfl, hs, q⟩ := h
  obtain ⟨its, rv, hl, _⟩ := I.list hs
  rw [Vals.ref1 r]
  have hlen := rv.length
  rw [List.length_map] at hlen
  refine call_any_walk (iter_any hl.isList fun s₂ e2 st hne => ?_)
  subst e2
  refine ⟨_, _, _, _, _, _, _, rfl, Walks.list (A := X.A.in1) (I.ok.hd hc) _ a hne its.toArray, st, truth_ints rv, fun h' tk hk => ?_⟩
  refine ⟨.bl _, H, I.kept fun b o eo => hk b o (fun hmem => ?_) (Heap.get?_push_of_some _ eo), ?_, q⟩
  · rcases List.mem_cons.mp hmem with e1 | hmem
    · exact absurd (e1 ▸ Heap.lt_size eo) (Nat.lt_irrefl _)
    · cases hmem
  · show Value.bool _ = Value.bool _
    rw [← any_rangeI, List.size_toArray, ← hlen]
theorem i_ranyI {K : PySem.W.Frag} {H : Hp} {Q : VK} {a : Addr} {ns : List Int} (h : H a = some (.lst (ns.map V.int))) (q : Q (.bl (ns.any (· != 0))) H) : rAnyI K [.ref a] H Q := ⟨a, ns, rfl, SqL.of h, q⟩
/-! ### dict displays -/
theorem i_dnew {σ : St} {H : Hp} {Q : VK} (q : ∀ p H', H p = none → Same H H' → H' p = some (.dK []) → Q (.ref p) H') : tDNewK σ H Q := new_obj q
theorem i_disp1 {σ : St} {H : Hp} {Q : VK} {x : Str} {v : V} (q : ∀ p H' kvs, H p = none → Same H H' → H' p = some (.dK kvs) → Q (.ref p) H') : tDisp [(tC (.str x), tC v)] σ H Q := by
  intro p hp
  refine ⟨upd_same, [(.inr x, v)], rfl, by show 1 ≤ 15; omega, ?_⟩
  rw [upd_upd]
  exact q p _ _ hp (same_upd hp) upd_same
/-! ### comprehensions over a tuple with a test -/
section
variable {K : PySem.W.Frag} {σ : St} {H : Hp} {Q : VK}
def LcTt (K : PySem.W.Frag) (g : TG) (tt : TT) (te : TE) (vs : List Nat) (σ : St) (Q : VK) (x : V) (H1 : Hp) : Prop := ∃ a, x = .ref a ∧ (∃ xs, SqT K H1 a xs) ∧ ∀ D, H1 D = none → ∃ W : Nat → Nat → Hp → Prop, (∃ m, W 0 m (upd H1 D (.lst []))) ∧ ∀ i m H, W i m H →
  ((Itt K a).stop i H ∧ Q (.ref D) H) ∨ ((Itt K a).go i H ∧ ∃ Nx : Hp → Prop, (∀ H', Nx H' → ∃ m', m' < m ∧ W (i + 1) m' H') ∧ ∀ x H', (Itt K a).yld i H x H' → g x (wipe σ vs) H' fun σ2 H2 => wipe σ2 vs = wipe σ vs ∧ tt σ2 H2 fun b H3 =>
    if b = true then te σ2 H3 fun y H4 => ∃ acc, H4 D = some (.lst acc) ∧ acc.length < sizeLine ∧ Nx (upd H4 D (.lst (acc ++ [y]))) else Nx H3)
theorem i_lcTt {tl te : TE} {tt : TT} {g : TG} {vs : List Nat} (h : tl σ H fun x H1 => LcTt K g tt te vs σ Q x H1) : tLc (iTup K tl) g tt te vs σ H Q := h
def LcF2 (H : Hp) (Dl : Addr) (es : List PyData) (F : PyData → List PyData) (i : Nat) (H1 : Hp) : Prop :=
  Same H H1 ∧ ∃ ys, H1 Dl = some (.lst ys) ∧ ImL H1 ys ((es.take i).flatMap F)
theorem flatMap_le {F : PyData → List PyData} (hF : ∀ e, (F e).length ≤ 1) : ∀ es : List PyData, (es.flatMap F).length ≤ es.length
  | [] => by simp
  | e :: es => by
    rw [List.flatMap_cons, List.length_append, List.length_cons]
    have := flatMap_le hF es
    have := hF e
    omega
theorem lcTt_of {g : TG} {tt : TT} {te : TE} {vs : List Nat} {a : Addr} {xs : List V} {es : List PyData} (F : PyData → List PyData) (hF : ∀ e, (F e).length ≤ 1) (ha : H a = some (.tup xs)) (hl : ImL H xs es) (hz : es.length < 1000000)
    (turn : ∀ (e : PyData) (x : V) (H1 : Hp) (N M : Hp → Prop) (NE : V → Hp → Prop), e ∈ es → Same H H1 → Im H1 x e → (∀ y H3 d, F e = [d] → Same H1 H3 → Im H3 y d → NE y H3) → (∀ H3, F e = [] → Same H1 H3 → M H3) →
      g x (wipe σ vs) H1 fun σ2 H2 => wipe σ2 vs = wipe σ vs ∧ tt σ2 H2 fun b H3 => if b = true then te σ2 H3 NE else M H3)
    (done : ∀ D H1 ys, H D = none → Same H H1 → H1 D = some (.lst ys) → ImL H1 ys (es.flatMap F) → Q (.ref D) H1) : LcTt K g tt te vs σ Q (.ref a) H := by
  have e0 : sizeLine = 16777216 := PySem.sizeLine_eq
  refine ⟨a, rfl, ⟨xs, SqT.of ha⟩, fun Dl hD => ?_⟩
  refine lc_tup (K := K) (a := a) (xs := xs) (tt := tt) (LcF2 H Dl es F) ⟨same_upd hD, [], upd_same, by simp [ImL]⟩ (fun i H' _ p => SqT.of (p.1 _ _ ha)) (fun i x H' hx p => ?_) (fun H' p => ?_)
  · obtain ⟨e, he, hi⟩ := hl.get hx
    obtain ⟨s, ys, h1, h2⟩ := p
    have hy := h2.length
    have hb := flatMap_le hF (es.take i)
    rw [List.length_take] at hb
    have e1 : (es.take (i + 1)).flatMap F = (es.take i).flatMap F ++ F e := by
      rw [List.take_add_one, he, List.flatMap_append]; simp
    refine turn e x H' (LcF2 H Dl es F (i + 1)) _ _ (List.mem_of_getElem? he) s (sm_im s hi) (fun y H3 d hd s3 hy => ?_) (fun H3 hd s3 => ?_)
    · refine ⟨ys, s3 _ _ h1, by omega, same_loc (Same.trans s s3) (kl_upd (s3 _ _ h1)) hD, ys ++ [y], upd_same, ?_⟩
      have kl := kl_upd (ys := ys ++ [y]) (s3 _ _ h1)
      rw [e1, hd]
      exact ImL.append (kl_iml kl (sm_iml s3 h2)) (by simp only [ImL]; exact ⟨kl_im kl hy, trivial⟩)
    · refine ⟨s.trans s3, ys, s3 _ _ h1, ?_⟩
      rw [e1, hd, List.append_nil]
      exact sm_iml s3 h2
  · obtain ⟨s, ys, h1, h2⟩ := p
    rw [List.take_of_length_le (by rw [hl.length]; exact Nat.le_refl _)] at h2
    exact done Dl H' ys hD s h1 h2
end
/-! ### pairs among things -/
def pth (p : Nat × Nat) : Th := .tup [.int (p.1 : Nat), .int (p.2 : Nat)]
theorem pth_inj {p q : Nat × Nat} (h : pth p = pth q) : p = q := by
  obtain ⟨a, b⟩ := p
  obtain ⟨c, d⟩ := q
  simp only [pth, Th.tup.injEq, List.cons.injEq, Th.int.injEq, and_true] at h
  obtain ⟨h1, h2⟩ := h
  have : a = c := by omega
  have : b = d := by omega
  simp_all
theorem pths_inj : ∀ {ps qs : List (Nat × Nat)}, ps.map pth = qs.map pth → ps = qs
  | [], [], _ => rfl
  | p :: ps, q :: qs, h => by
    simp only [List.map_cons, List.cons.injEq] at h
    rw [pth_inj h.1, pths_inj h.2]
  | [], _ :: _, h => by simp at h
  | _ :: _, [], h => by simp at h
/-- a pair of people as data (the same as pd) -/
def pd0 (p : Nat × Nat) : PyData := .tuple [.int (p.1 : Nat), .int (p.2 : Nat)]
theorem thOf_pd (p : Nat × Nat) (q : PyData) (h : q = .tuple [.int (p.1 : Nat), .int (p.2 : Nat)]) : thOf q = pth p := by subst h; rfl
def Th.blw (n : Int) : Th → Bool
  | .int i => decide (0 ≤ i ∧ i < n)
  | _ => false
def Th.two (n m : Int) : Th → Bool
  | .tup [x, y] => x.blw n && y.blw m
  | _ => false
theorem blw_iff {d : Th} {n : Nat} : d.blw n = true ↔ ∃ i : Nat, d = .int i ∧ i < n := by
  cases d with
  | int i =>
    simp only [Th.blw, decide_eq_true_eq, Th.int.injEq]
    constructor
    · rintro ⟨h1, h2⟩
      exact ⟨i.toNat, by omega, by omega⟩
    · rintro ⟨k, h1, h2⟩
      omega
  | bl b => simp [Th.blw]
  | tup l => simp [Th.blw]
  | oth => simp [Th.blw]
theorem two_iff {d : Th} {n m : Nat} : d.two n m = true ↔ ∃ p : Nat × Nat, d = pth p ∧ p.1 < n ∧ p.2 < m := by
  constructor
  · intro h
    match d, h with
    | .tup [x, y], h =>
      simp only [Th.two, Bool.and_eq_true] at h
      obtain ⟨i, rfl, hi⟩ := blw_iff.mp h.1
      obtain ⟨j, rfl, hj⟩ := blw_iff.mp h.2
      exact ⟨(i, j), rfl, hi, hj⟩
  · rintro ⟨p, rfl, h1, h2⟩
    simp only [pth, Th.two, Bool.and_eq_true]
    exact ⟨blw_iff.mpr ⟨_, rfl, h1⟩, blw_iff.mpr ⟨_, rfl, h2⟩⟩
def Th.small (d : Th) : Prop := ∀ l, d = .tup l → l.length ≤ 1000
def IsRow (s : Sta) (d : Th) : Prop := ∃ ps, d = .tup (ps.map pth) ∧ rowR s ps
def IsWay (s : Sta) (d : Th) : Prop := ∃ ps, d = .tup (ps.map pth) ∧ rowR s ps ∧ ∀ q ∈ (runR s ps).1, q = 0
theorem th_cases (d : Th) : (∃ l, d = .tup l) ∨ (d.isTup = false ∧ ∀ l, d ≠ .tup l) := by
  cases d with
  | tup l => exact .inl ⟨l, rfl⟩
  | int i => exact .inr ⟨rfl, fun l h => by cases h⟩
  | bl i => exact .inr ⟨rfl, fun l h => by cases h⟩
  | oth => exact .inr ⟨rfl, fun l h => by cases h⟩
theorem ThR.pd {P : Addr → Prop} {H : Hp} {v : V} {p : Nat × Nat} (h : ThR P H v (pth p)) : ∃ a, v = .ref a ∧ H a = some (.tup [.int (p.1 : Nat), .int (p.2 : Nat)]) := by
  obtain ⟨a, vs, rfl, ha, hl⟩ := h.tup_at
  match vs, hl, ha with
  | [x, y], hl, ha =>
    simp only [ThL, ThR] at hl
    obtain ⟨rfl, rfl, _⟩ := hl
    exact ⟨a, rfl, ha⟩
theorem not_row {s : Sta} {l0 : List Th} {ps : List (Nat × Nat)} {i : Nat} {e : Th} (htk : l0.take i = ps.map pth) (he : l0[i]? = some e) (hno : ¬ ∃ p, e = pth p ∧ canR (runR s ps) p) : ¬ IsRow s (.tup l0) := by
  rintro ⟨ps', e', r'⟩
  have e1 : l0 = ps'.map pth := by injection e'
  have e2 : ps'.take i = ps := by
    refine pths_inj ?_
    rw [List.map_take, ← e1, htk]
  rw [e1, List.getElem?_map] at he
  cases e3 : ps'[i]? with
  | none => rw [e3] at he; cases he
  | some p =>
    rw [e3] at he
    have e4 : pth p = e := by simpa using he
    refine hno ⟨p, e4.symm, ?_⟩
    have := r'
    rw [← List.take_append_drop (i + 1) ps', rowR_append, List.take_add_one, e3, Option.toList_some, e2, rowR_append] at this
    exact this.1.2.1
theorem IsWay.row {s : Sta} {d : Th} (h : IsWay s d) : IsRow s d := by
  obtain ⟨ps, e, r, _⟩ := h
  exact ⟨ps, e, r⟩
/-- the things of a list of values that a menu holds -/
theorem th_non {P : Addr → Prop} {H : Hp} : ThR P H .non .oth := by simp [ThR]
theorem th_str {P : Addr → Prop} {H : Hp} {x : Str} : ThR P H (.str x) .oth := by simp [ThR]
theorem th_bl {P : Addr → Prop} {H : Hp} {b : Bool} : ThR P H (.bl b) (.bl b) := by simp [ThR]
theorem th_int {P : Addr → Prop} {H : Hp} {b : Int} : ThR P H (.int b) (.int b) := by simp [ThR]
theorem th_lst {P : Addr → Prop} {H : Hp} {a : Addr} {xs : List V} (h : H a = some (.lst xs)) (p : P a) : ThR P H (.ref a) .oth := by
  simp only [ThR]; exact .inr (.inr (.inl ⟨a, xs, rfl, p, h⟩))
theorem th_dK {P : Addr → Prop} {H : Hp} {a : Addr} {xs : List (Key × V)} (h : H a = some (.dK xs)) (p : P a) : ThR P H (.ref a) .oth := by
  simp only [ThR]; exact .inr (.inr (.inr ⟨a, xs, rfl, p, h⟩))
theorem th_t0 {P : Addr → Prop} {H : Hp} {a : Addr} (h : H a = some (.tup [])) : ThR P H (.ref a) (.tup []) := ThR.tup_of h (by simp [ThL])
theorem th_t1 {P : Addr → Prop} {H : Hp} {a : Addr} {x : V} {d : Th} (h : H a = some (.tup [x])) (hx : ThR P H x d) : ThR P H (.ref a) (.tup [d]) := ThR.tup_of h (by simp only [ThL]; exact ⟨hx, trivial⟩)
theorem th_t2 {P : Addr → Prop} {H : Hp} {a : Addr} {x y : V} {d e : Th} (h : H a = some (.tup [x, y])) (hx : ThR P H x d) (hy : ThR P H y e) : ThR P H (.ref a) (.tup [d, e]) := ThR.tup_of h (by simp only [ThL]; exact ⟨hx, hy, trivial⟩)
theorem th_t3 {P : Addr → Prop} {H : Hp} {a : Addr} {x y z : V} {d e f : Th} (h : H a = some (.tup [x, y, z])) (hx : ThR P H x d) (hy : ThR P H y e) (hz : ThR P H z f) : ThR P H (.ref a) (.tup [d, e, f]) := ThR.tup_of h (by simp only [ThL]; exact ⟨hx, hy, hz, trivial⟩)
def Th.Sm : Th → Prop
  | .tup l => l.length ≤ 1000
  | _ => True
theorem Th.Sm.small {d : Th} (h : d.Sm) : d.small := fun l e => by subst e; exact h
/-- a small thing -/
def Thing (H : Hp) (v : V) : Prop := ∃ d, ThR (fun _ => True) H v d ∧ d.Sm
theorem Thing.same {H H' : Hp} {v : V} (s : Same H H') (h : Thing H v) : Thing H' v := by
  obtain ⟨d, h1, h2⟩ := h
  exact ⟨d, sm_th s h1, h2⟩
theorem Thing.kl {m : Addr} {H H' : Hp} {v : V} (s : KL m H H') (h : Thing H v) : Thing H' v := by
  obtain ⟨d, h1, h2⟩ := h
  exact ⟨d, kl_th s h1, h2⟩
theorem all_get {p : V → Prop} : ∀ {xs : List V} {i : Nat} {v : V}, (∀ x ∈ xs, p x) → xs[i]? = some v → p v := fun h e => h _ (List.mem_of_getElem? e)
theorem atI_lt {xs : List V} {i : Int} (h0 : 0 ≤ i) (h1 : i < (xs.length : Nat)) : ∃ v ∈ xs, atI xs i = some v := by
  obtain ⟨v, e1, e2⟩ := atI_i h0 h1
  exact ⟨v, List.mem_of_getElem? e1, e2⟩
theorem len_two {α : Type} {l : List α} (h : l.length = 2) : ∃ a b, l = [a, b] := by
  match l, h with
  | [a, b], _ => exact ⟨a, b, rfl⟩
theorem len_three {α : Type} {l : List α} (h : l.length = 3) : ∃ a b c, l = [a, b, c] := by
  match l, h with
  | [a, b, c], _ => exact ⟨a, b, c, rfl⟩
theorem i_notB {H : Hp} {Q : VK} {a b : Bool} (q : Q (.bl (!decide (a = b))) H) : rNotB (.bl a) (.bl b) H Q := ⟨a, b, rfl, rfl, q⟩
theorem i_isB {H : Hp} {Q : VK} {a b : Bool} (q : Q (.bl (decide (a = b))) H) : rIsB (.bl a) (.bl b) H Q := ⟨a, b, rfl, rfl, q⟩
theorem thAll_pd (ps : List (Nat × Nat)) : thAll (ps.map pd0) = ps.map pth := by
  rw [thAll_map, List.map_map]; rfl
theorem ite_ndT {α : Type} {x : α} {i : Decidable (x = x)} {A B : Prop} (h : B) : if (!decide (x = x)) = true then A else B := by
  rw [if_neg (by simp)]; exact h
theorem ite_dT {α : Type} {x : α} {i : Decidable (x = x)} {A B : Prop} (h : A) : if decide (x = x) = true then A else B := by
  rw [if_pos (by simp)]; exact h
theorem im_bb {H : Hp} {a : Addr} {x y : Bool} (h : H a = some (.tup [.bl x, .bl y])) : Im H (.ref a) (.tuple [.bool x, .bool y]) := Im.tup h (by simp [ImL, Im])
end QW

namespace L2
open PySem PySem.Spec PyProof.Rows
/-! ### an exception without fields: made by an own __init__ that keeps nothing -/
section
variable {X : Cx}
theorem mk_endN0 {pins : List (Addr × Obj)} {σ : St} {H1 H2 : Hp} {hp hp2 h2 : Heap} {g1 g2 : Array GenState} {d1 d2 : Drawn} {t1 t2 : Nat} {os1 os2 : OsState} {a C : Addr} (I1 : Inv X pins σ H1 ⟨hp, g1, d1, t1, os1⟩)
    (ha : hp.objs.size ≤ a) (k : ∀ b o, hp.get? b = some o → hp2.get? b = some o) (un : Un (frs X.stack) [] (upd H1 a (exo a C none)) H2 hp2 h2) (hok : HOk X.prog X.w H2 h2) (ho : os2 = os1) (hb : AllBare g2)
    (ea : H2 a = some (exo a C none)) :
    ∃ (t0 : Addr) (G : Heap), Inv X pins σ (del H2 a) ⟨G, g2, d2, t2, os2⟩ ∧ (∀ b o, G.get? b = some o → h2.get? b = some o) ∧ G.get? a = none ∧
      h2.get? a = some ({ cls := .ref C, dict := none, data := .fields #[.ref t0, .none, .none, .none, .bool false, .none] } : Obj) ∧ (del H2 a) a = none := by
  obtain ⟨t0, hoe⟩ := exo_at hok ea
  have hn : H1 a = none := I1.hok.fresh ha
  obtain ⟨G, g1', g2'⟩ := restrict h2 fun b => decide (b ≠ a)
  have gk : ∀ b, b ≠ a → G.get? b = h2.get? b := fun b hb => g1' b (decide_eq_true hb)
  have ge : G.get? a = none := g2' a (by simp)
  have nha : ∀ {b : Addr} {o : Obj}, hp.get? b = some o → b ≠ a := fun {b o} z => Nat.ne_of_lt (Nat.lt_of_lt_of_le (Heap.lt_size z) ha)
  have up : ∀ {b : Addr}, b ≠ a → H1 b = none → upd H1 a (exo a C none) b = none := fun {b} hb n => by rw [upd_ne hb]; exact n
  have U : Un (frs X.stack) [] H1 (del H2 a) hp G := {
    keep := fun b o z n hf hx => by
      rw [gk b (nha z)]
      exact un.keep b o (k b o z) (up (nha z) n) hf hx
    slot := fun b o z n hf hx => by
      rw [gk b (nha z)]
      exact un.slot b o (k b o z) (up (nha z) n) hf hx
    free := fun b o z n hx => by
      rw [del_ne (nha z)]
      exact un.free b o (k b o z) (up (nha z) n) hx
    there := fun b o z hx => by
      rw [gk b (nha z)]
      exact un.there b o (k b o z) hx
    tups := fun b xs z => by
      rw [del_ne (ne_of_none z hn)]
      exact un.tups b xs (by rw [upd_ne (ne_of_none z hn)]; exact z)
    frzs := fun b o v z => by
      rw [del_ne (ne_of_none z hn)]
      exact un.frzs b o v (by rw [upd_ne (ne_of_none z hn)]; exact z)
    tbls := fun b ps z => by
      rw [del_ne (ne_of_none z hn)]
      exact un.tbls b ps (by rw [upd_ne (ne_of_none z hn)]; exact z) }
  have hok3 : HOk X.prog X.w (del H2 a) G := fun b o z => by
    have hba : b ≠ a := fun e => by
      rw [e, del_same] at z
      cases z
    rw [del_ne hba] at z
    have noa : ∀ {c : Addr}, H2 c = some (.own b) → c ≠ a := fun {c} hc => at_ne ea hc exo_own
    exact (hok b o z).stay (fun c v hc y => by
        have hca : c ≠ a := by
          rcases hc with hc | hc
          · rw [hc]
            exact hba
          · exact noa hc
        rw [gk c hca]
        exact y)
      (fun c hc => by rw [del_ne (noa hc)]; exact hc) (fun c xs hc => by rw [del_ne (at_ne ea hc exo_tup)]; exact hc)
  have J : Inv X pins σ (del H2 a) ⟨G, g2, d2, t2, os2⟩ := I1.call' (ch := []) ho U hok3 hb (fun b z => absurd z (by simp))
  refine ⟨t0, G, J, fun b o z => ?_, ge, hoe, del_same⟩
  by_cases hba : b = a
  · rw [hba, ge] at z
    cases z
  · exact (gk b hba).symm.trans z
def tMkN (C : Addr) (sp : Sp) : St → Hp → XK → Prop := fun σ H Q => ∀ a, H a = none → sp [.ref a] (upd H a (exo a C none)) (fun v H2 => v = .non ∧ H2 a = some (exo a C none) ∧ Q (.ref C) none (del H2 a)) (fun _ _ _ => False)
theorem pmk_oex0 {CX : CXT} {x : Str} {C fI : Addr} {k : Nat} {fd : FuncData} {ps : List Str} {sp : Sp} {p pos : Pos} (T : OexC X.K C) (iC : PySem.W.findIn X.K (.ref C) "__init__" = some (some (.ref fI))) (tI : PySem.W.typeIn X.K (.ref fI) = some (.type "function"))
    (F1 : FnOk X.prog X.w X.K X.mg X.base CX k fI fd ps sp) (hr : Room (k + 1) X.A) (hb : Binds X.K fd ps []) (hx : Passes CX X (fun _ _ _ => False)) (hg : Gl X x) (hm : X.mg x = some (.ref C))
    (hdb : (x == ("__debug__" : Str)) = false := by decide) :
    PMk X (.Call (.Name x p) [] [] pos) (tMkN C sp) := by
  intro pins s σ H1 Q I1 q1
  obtain ⟨nm, q, N, bs, bm, sn, sub, ab, col, dd, k0, k1, k2, k3, k5, hC, hbm⟩ := T.cls
  refine wpAny_Call_Name_kw (ld_glob I1 hg hm ?_ hdb)
  refine PySem.W.callWith_K0 I1.kIn T.kC ?_
  show wpAny _ _ (call (.ref C) []) _ _ _
  have I2' := I1.tok
  obtain ⟨hp, g, dr, tk, os⟩ := s
  have hsz : hp.objs.size ≤ hp.objs.size + 1 := Nat.le_succ _
  have hn : H1 (hp.objs.size + 1) = none := I1.hok.fresh hsz
  have hq := q1 (hp.objs.size + 1) hn
  have kk : ∀ b o, hp.get? b = some o → ((hp.push (PySem.W.kdv_tup [])).push (PySem.HandSPX.excO C hp.objs.size)).get? b = some o := fun b o e => Heap.get?_push_of_some _ (Heap.get?_push_of_some _ e)
  have hget : ((hp.push (PySem.W.kdv_tup [])).push (PySem.HandSPX.excO C hp.objs.size)).get? (hp.objs.size + 1) = some (PySem.HandSPX.excO C hp.objs.size) := by heap_get
  have I2 : Inv X pins σ (upd H1 (hp.objs.size + 1) (exo (hp.objs.size + 1) C none)) ⟨(hp.push (PySem.W.kdv_tup [])).push (PySem.HandSPX.excO C hp.objs.size), g, dr, tk, os⟩ :=
    I1.laid (t' := tk) (a := hp.objs.size + 1) (o := exo (hp.objs.size + 1) C none) (h' := (hp.push (PySem.W.kdv_tup [])).push (PySem.HandSPX.excO C hp.objs.size)) kk hsz (exo_ok hget)
  have r2 : Vals [V.ref (hp.objs.size + 1)] [Value.ref (hp.objs.size + 1)] := .cons rfl .nil
  have hl : [Value.ref (hp.objs.size + 1)].length = ps.length := by
    have e := r2.length
    rw [F1.len _ _ _ _ hq] at e
    exact e.symm
  have hus : ([] : List Value).length ≤ sizeLine := Nat.zero_le _
  refine wpAny_call (PySem.HandSPX.call_own F.excBase_ValueError (fun Y => PySem.HandSPX.refsVE_contains Y bm hbm) (I1.kIn _ _ hC) (PySem.W.looks_findIn I1.kIn iC) (fun self => PySem.W.bind_fn I1.kIn self tI) hus
    (codeAny_mono (F1.run _ X.stack _ _ ⟨Value.ref (hp.objs.size + 1) :: [], []⟩ [Value.ref (hp.objs.size + 1)] _ _ (fun _ _ _ => False) (hr.make C [] []) (I2.env0.make C [] []) (hb _ [Value.ref (hp.objs.size + 1)] I2.kIn (by rw [List.append_nil]; exact hl)) r2 hq) fun r s' hq' => ?_))
  cases r with
  | error er => exact hx pins σ _ _ er s' I2 hq'
  | ok fl =>
    cases fl with
    | ret u =>
      obtain ⟨v, H2, os2, bare2, un2, hok2, rv, ev, ea, q2⟩ := hq'
      subst ev
      obtain ⟨h2, g2, d2, t2, os'⟩ := s'
      obtain ⟨t0, G, J, kG, ge, hoe, na⟩ := mk_endN0 (d2 := d2) (t2 := t2) I1 hsz kk un2 hok2 os2 bare2 ea
      exact ⟨rv, _, _, _, ⟨G, g2, d2, t2, os'⟩, _, .ref C, none, rfl, J, kG, ge, hoe, ⟨rfl, rfl⟩, rfl, rfl, na, rfl, bare2, raises_own T.exC T.tyC, q2⟩
    | next => exact False.elim hq'
    | brk => exact False.elim hq'
    | cont => exact False.elim hq'
end
end L2
namespace QW
open PySem L2
theorem del_upd {H : Hp} {a : Addr} {o : HO} (h : H a = none) : del (upd H a o) a = H := by
  funext b
  unfold del upd
  by_cases e : b = a
  · subst e; rw [if_pos rfl, h]
  · rw [if_neg e, if_neg e]
end QW

namespace HT
open PySem PySem.Spec PyProof.Rows L2
section
variable {prog : Program} {w : World} {A : Around} {E : Value → Shared → Prop} {s : Shared}
theorem adjust_rev (n : Nat) : Builtin.Slice.sliceAdjust none none (-1) (n : Int) = ((n : Int) - 1, -1) := by
  unfold Builtin.Slice.sliceAdjust
  rfl
theorem places_rev (n : Nat) : Builtin.Slice.slicePlaces ((n : Int) - 1) (-1) (-1) = n := by
  unfold Builtin.Slice.slicePlaces
  have h1 : ¬ ((-1 : Int) > 0) := by omega
  simp only [h1, if_false]
  split
  · have : - -(1 : Int) = 1 := rfl
    rw [this, Int.ediv_one]; omega
  · omega
theorem sliceApplied_rev {sl : Addr} {vs : Value} {n : Nat} {Q : Int × Int × Nat → Shared → Prop} (hs : s.heap.IsSliceOf sl .none .none vs) (pv : IsPart vs (some (-1)))
    (h : Q ((n : Int) - 1, -1, n) s) : wpAny (model prog w) A (Builtin.Slice.sliceApplied (.ref sl) (pure (n : Int))) Q E s := by
  obtain ⟨os, hos, hcs, hds⟩ := id hs
  unfold Builtin.Slice.sliceApplied Builtin.Slice.sliceFields
  refine wpAny_bind (wpAny_bind (wpAny_field hos hds (x := .none) rfl (wpAny_bind (wpAny_field hos hds (x := .none) rfl (wpAny_bind (wpAny_field hos hds (x := vs) rfl (wpAny_pure ?_)))))))
  refine wpAny_bind (slicePart_ pv ?_)
  show wpAny _ _ (if ((-1 : Int) == 0) = true then _ else _) _ _ s
  rw [if_neg (by decide)]
  refine wpAny_bind (slicePart_none (wpAny_bind (slicePart_none (wpAny_bind (wpAny_pure ?_)))))
  show wpAny _ _ (match Builtin.Slice.sliceAdjust none none (-1) (n : Int) with | (lo, hi) => pure (lo, (-1 : Int), Builtin.Slice.slicePlaces lo hi (-1))) _ _ s
  rw [adjust_rev n]
  show wpAny _ _ (pure ((n : Int) - 1, (-1 : Int), Builtin.Slice.slicePlaces ((n : Int) - 1) (-1) (-1))) _ _ s
  rw [places_rev]
  exact wpAny_pure h
theorem fm_congr {α β : Type} {f g : α → Option β} : ∀ {l : List α}, (∀ a ∈ l, f a = g a) → l.filterMap f = l.filterMap g
  | [], _ => rfl
  | a :: l, h => by
    rw [List.filterMap_cons, List.filterMap_cons, h a List.mem_cons_self, fm_congr fun b hb => h b (List.mem_cons_of_mem _ hb)]
theorem pick_rev (xs : Array Value) : ((List.range xs.size).filterMap fun (m : Nat) => xs[(((xs.size : Int) - 1) + (m : Int) * -1).toNat]?).toArray = xs.toList.reverse.toArray := by
  congr 1
  have e : (List.range xs.size).filterMap (fun (m : Nat) => xs[(((xs.size : Int) - 1) + (m : Int) * -1).toNat]?) = (List.range xs.size).filterMap (fun m => xs.toList.reverse[m]?) := by
    refine fm_congr fun m hm => ?_
    have hm' := List.mem_range.mp hm
    have e1 : (((xs.size : Int) - 1) + (m : Int) * -1).toNat = xs.size - 1 - m := by omega
    rw [e1, List.getElem?_reverse (by simpa using hm')]
    simp
  rw [e]
  have : ∀ l : List Value, (List.range l.length).filterMap (fun m => l[m]?) = l := by
    intro l
    induction l with
    | nil => rfl
    | cons a l ih =>
      rw [List.length_cons, List.range_succ_eq_map, List.filterMap_cons]
      simp only [List.getElem?_cons_zero, List.filterMap_map]
      have : ((fun m => (a :: l)[m]?) ∘ Nat.succ) = fun m => l[m]? := by funext m; simp
      rw [this, ih]
  have h2 := this xs.toList.reverse
  rw [List.length_reverse, Array.length_toList] at h2
  exact h2
theorem getItem_tuple_rev {t sl : Addr} {items : Array Value} {vs : Value} {Q : Value → Shared → Prop} (ht : IsTup s.heap t items) (hs : s.heap.IsSliceOf sl .none .none vs) (pv : IsPart vs (some (-1)))
    (h : Q (.ref s.heap.objs.size) { s with heap := s.heap.push { cls := .type "tuple", data := .seq items.toList.reverse.toArray } })
    (hsz : items.size ≤ sizeLine) : wpAny (model prog w) A (getItem (.ref t) (.ref sl)) Q E s := by
  have htake : sizeOk (.seq items.toList.reverse.toArray) := by
    show items.toList.reverse.toArray.size ≤ sizeLine
    rw [List.size_toArray, List.length_reverse, Array.length_toList]
    exact hsz
  obtain ⟨os, hos, hcs, hds⟩ := id hs
  have hTs : s.TypeIs (.ref sl) "slice" := ⟨os, hos, hcs⟩
  unfold getItem
  try with_reducible refine wpAny_holding ?_
  first | refine wpAny_bind (wpAny_pure ?_) | skip
  refine wpAny_bind (wpAny_sequenceKey ht.typeIs (by decide) ?_)
  refine wpAny_bind (wpAny_callSpecial?_slot (name := Str.ofString "__getitem__") ht.typeIs PyProof.Rows.slot_tuple_getitem
    (wpAny_call_entry PyProof.Rows.slot_tuple_getitem ht.typeIs entry_tuple_getitem ?_ (args_tuple_getitem _ _)))
  show wpAny _ _ (Builtin.Tuple.tupleItemsOf (.ref t) >>= _) _ _ s
  refine wpAny_bind (tupleItemsOf_ ht ?_)
  refine wpAny_bind (wpAny_typeOf hTs ?_)
  rw [if_pos (by decide)]
  refine wpAny_bind (sliceApplied_rev hs pv ?_)
  have hno : ¬ ((((items.size : Int) - 1) == 0 && (-1 : Int) == 1 && items.size == items.size) = true) := by
    intro q
    rw [Bool.and_eq_true, Bool.and_eq_true] at q
    exact absurd q.1.2 (by decide)
  show wpAny _ _ (if (((items.size : Int) - 1) == 0 && (-1 : Int) == 1 && items.size == items.size) = true then _ else _) _ _ s
  rw [if_neg hno, pick_rev]
  first
    | exact wpAny_bind (m := Builtin.Tuple.tupleExact _) (wpAny_newObj_type (wpAny_pure ⟨_, rfl, wpAny_pure h⟩) htake)
    | exact wpAny_bind (m := Builtin.Tuple.tupleExact _) (wpAny_newObj_type (wpAny_bind (wpAny_pure (wpAny_pure ⟨_, rfl, wpAny_pure h⟩))) htake)
    | exact wpAny_bind (wpAny_bind (m := Builtin.Tuple.tupleExact _) (wpAny_newObj_type (wpAny_pure (wpAny_pure ⟨_, rfl, wpAny_pure h⟩)) htake))
    | exact wpAny_bind (wpAny_bind (m := Builtin.Tuple.tupleExact _) (wpAny_newObj_type (wpAny_pure ⟨_, rfl, wpAny_pure h⟩) htake))
end
end HT
namespace L2
open PySem PySem.Spec PyProof.Rows
section
variable {X : Cx}
/-- t[::-1] -/
def tRevT (K : PySem.W.Frag) (te : TE) : TE := fun σ H Q => te σ H fun x H1 => ∃ a xs, x = .ref a ∧ SqT K H1 a xs ∧ ∀ p, H1 p = none → Q (.ref p) (upd H1 p (.tup xs.reverse))
theorem pe_revT {e : Expr} {te : TE} {k : Nat} {p1 p2 p3 pos : Pos} (he : PE X e te) : PE X (.Subscript e (.Slice none none (some (.UnaryOp .USub (.Constant (.int 1) k p1) p2)) p3) pos) (tRevT X.K te) := by
  refine ⟨fun pins s σ H Q I h => ?_⟩
  refine Subscript_ (thn (he.run pins s σ H _ I h) fun v s1 ⟨x, H1, I1, r1, q1⟩ => ?_)
  obtain ⟨a, xs, ex, hx, q⟩ := q1
  subst ex
  cases r1
  have hst : PO X (some (.UnaryOp .USub (.Constant (.int 1) k p1) p2)) (tPart (tUn (rU fun i => .int (-i)) (tC (.int 1)))) := po_some (pe_un un_neg pe_int)
  refine wpAny_Slice (thn (po_none.run pins s1 σ H1 (fun o H2 => o = none ∧ H2 = H1) I1 ⟨rfl, rfl⟩) fun vl s2 ⟨l, H2, I2, pl, el, e2⟩ => ?_)
  subst el e2
  refine thn (po_none.run pins s2 σ H2 (fun o H3 => o = none ∧ H3 = H2) I2 ⟨rfl, rfl⟩) fun vu s3 ⟨u, H3, I3, pu, eu, e3⟩ => ?_
  subst eu e3
  refine thn (hst.run pins s3 σ H3 (fun o H4 => o = some (-1) ∧ H4 = H3) I3 ⟨1, rfl, -1, rfl, rfl, rfl⟩) fun vs s4 ⟨o, H4, I4, ps, eo, e4⟩ => ?_
  subst eo e4
  have I5 : Inv X pins σ H4 { s4 with heap := s4.heap.push { cls := .type "slice", data := .fields #[vl, vu, vs] } } := I4.kept (t' := s4.toks) fun b ob q => Heap.get?_push_of_some _ q
  obtain ⟨its, r, ht, hz⟩ := I5.tuple hx
  have hlen := r.length
  cases pl
  cases pu
  show wpAny (model X.prog X.w) X.A (subscriptTail e (.Slice none none (some (.UnaryOp .USub (.Constant (.int 1) k p1) p2)) p3) (.ref a) (.ref s4.heap.objs.size)) (EP X pins σ Q) X.xe { s4 with heap := s4.heap.push { cls := .type "slice", data := .fields #[.none, .none, vs] } }
  refine tail_any (ops := [.ref a, .ref s4.heap.objs.size]) ht.typeIs (PyProof.Rows.slot_tuple_getitem.lookup) ?_ (by with_unfolding_all rfl)
  refine HT.getItem_tuple_rev ht (Heap.IsSliceOf.new _ .none .none vs) ps ?_ (by rw [List.size_toArray]; omega)
  refine ⟨.ref _, _, I5.laid (t' := s4.toks) (o := .tup xs.reverse) (fun b ob q => Heap.get?_push_of_some _ q) (Nat.le_refl _) ?_, rfl, q _ (I5.hok.fresh (Nat.le_refl _))⟩
  exact ⟨by rw [List.length_reverse]; exact hz, _, r.reverse, IsTup.new _ _⟩
end
end L2
namespace QW
open PySem L2
/-! ### raising and trying -/
def tRz (t : St → Hp → XK → Prop) (W : WX) : TS := fun _ σ H => t σ H fun cls d H' => W cls d σ H'
theorem ps_rz {X : Cx} {W : WX} {e : Expr} {t : St → Hp → XK → Prop} {pos : Pos} (hc : X.calm = true) (tk : Takes X W) (he : PMk X e t) : PS X (.Raise (some e) none pos) (tRz t W) := ps_raise hc tk he
theorem i_rz {t : St → Hp → XK → Prop} {W : WX} {D : Ends} {σ : St} {H : Hp} (h : t σ H fun cls d H' => W cls d σ H') : tRz t W D σ H := h
def tTryAs (K : PySem.W.Frag) (c : Value) (i : Nat) (ts : Addr → Value → Option Addr → TS) (tb : WX → TS) : TS := fun D σ H => tb (wAs K c i ts (fun _ _ _ _ => False) D) D σ H
def tTryMany (K : PySem.W.Frag) (l : List (Value × (Addr → Value → Option Addr → TS))) (tb : WX → TS) : TS := fun D σ H => tb (wMany K (fun _ _ _ _ => False) D l) D σ H
theorem i_tryAs {K : PySem.W.Frag} {c : Value} {i : Nat} {ts : Addr → Value → Option Addr → TS} {tb : WX → TS} {D : Ends} {σ : St} {H : Hp} (h : tb (wAs K c i ts (fun _ _ _ _ => False) D) D σ H) : tTryAs K c i ts tb D σ H := h
theorem i_tryMany {K : PySem.W.Frag} {l : List (Value × (Addr → Value → Option Addr → TS))} {tb : WX → TS} {D : Ends} {σ : St} {H : Hp} (h : tb (wMany K (fun _ _ _ _ => False) D l) D σ H) : tTryMany K l tb D σ H := h
theorem i_callS {sp : Sp} {E : St → XK} {t : TA} {σ : St} {H : Hp} {Q : VK} (h : t σ H fun vs H1 => sp vs H1 Q (E σ)) : tCallS sp E t σ H Q := h
/-- an exception that the first clause of several takes -/
theorem wMany_hit {K : PySem.W.Frag} {W : WX} {D : Ends} {c cls : Value} {ts : Addr → Value → Option Addr → TS} {r : List (Value × (Addr → Value → Option Addr → TS))} {d : Option Addr} {σ : St} {H : Hp} (he : PySem.W.exmOne K cls c = some true) (h : ∀ a, H a = none → ts a cls d D σ H) :
    wMany K W D ((c, ts) :: r) cls d σ H := ⟨true, he, fun _ => h, fun z => Bool.noConfusion z⟩
theorem wAs_hit {K : PySem.W.Frag} {W : WX} {D : Ends} {c cls : Value} {i : Nat} {ts : Addr → Value → Option Addr → TS} {d : Option Addr} {σ : St} {H : Hp} (he : PySem.W.exmOne K cls c = some true)
    (h : ∀ a, H a = none → ts a cls d { nx := fun σ' H' => D.nx (σ'.set i none) H', rt := D.rt, bk := fun σ' H' => D.bk (σ'.set i none) H', ct := fun σ' H' => D.ct (σ'.set i none) H' } (σ.set i (some (.ref a))) H) :
    wAs K c i ts W D cls d σ H := ⟨true, he, fun _ => h, fun z => Bool.noConfusion z⟩
/-- a def that may raise -/
structure OkdX (P : Program) (w : World) (K : PySem.W.Frag) (mg : Str → Option Value) (base : Heap) (k : Nat) (x : Str) (ps : List Str) (sp : Sp) : Prop where
  ex : ∃ f fd, FnOk P w K mg base (L2.CX P w) k f fd ps sp ∧ mg x = some (.ref f) ∧ PySem.W.keepIn K (.ref f) = true ∧ Binds K fd ps []
theorem DefAt.okdX {P : Program} {w : World} {K : PySem.W.Frag} {mg : Str → Option Value} {base h : Heap} {k : Nat} {x : Str} {ps : List Str} {sp : Sp} {st : Stmt} (D : DefAt K x st) (X : K.In h) (G : h.Ns mainGlobals mg) (hb : BindsBy x x st ps) (ok : ∀ f fd, Fun K x x st f fd → FnOk P w K mg base (L2.CX P w) k f fd ps sp) : OkdX P w K mg base k x ps sp := by
  obtain ⟨f, oc, od, kV, doc, pm, an, cdv, ct, osl, a, l, c, kp⟩ := D
  have F := fun_mk (st := st) l c kp
  exact ⟨⟨f, _, ok _ _ F, PySem.W.mg_of X G a, kp, F.binds hb⟩⟩
theorem pe_callDX {X : Cx} {x : Str} {p pos : Pos} {e : Expr} {es : List Expr} {t : TA} {k : Nat} {ps : List Str} {sp : Sp} {W : WX} (Dd : OkdX X.prog X.w X.K X.mg X.base k x ps sp) (hr : Room k X.A) (tk : Takes X W) (ha : PA X (e :: es) t) (hg : Gl X x := by rfl) (hdb : (x == ("__debug__" : Str)) = false := by decide)
    (he : starEach (e :: es) X.env = (false, eval e X.env) :: starEach es X.env := by rfl) (hpl : (backTo pos (starEach es X.env)).any (·.1) = false := by rfl) : PE X (.Call (.Name x p) (e :: es) [] pos) (tCallS sp (WE W) t) := by
  obtain ⟨f, fd, F, h1, h2, h3⟩ := Dd.ex
  exact pe_callS F hr hg h1 h2 h3 (fun σ => passAt tk σ) ha hdb he hpl
/-- an own exception class, its __init__ keeping sp -/
structure Okx (P : Program) (w : World) (K : PySem.W.Frag) (mg : Str → Option Value) (base : Heap) (k : Nat) (Cc : Addr) (ps : List Str) (sp : Sp) : Prop where
  ex : ∃ f fd, OexC K Cc ∧ PySem.W.findIn K (.ref Cc) "__init__" = some (some (.ref f)) ∧ PySem.W.typeIn K (.ref f) = some (.type "function") ∧ FnOk P w K mg base CX0 k f fd ps sp ∧ Binds K fd ps []
theorem MethAt.okx {P : Program} {w : World} {K : PySem.W.Frag} {mg : Str → Option Value} {base : Heap} {k : Nat} {q : Str} {ps : List Str} {sp : Sp} {st : Stmt} {Cc : Addr} (D : MethAt K Cc "__init__" q st) (T : OexC K Cc) (ht : ∀ f, PySem.W.findIn K (.ref Cc) "__init__" = some (some (.ref f)) → PySem.W.typeIn K (.ref f) = some (.type "function")) (hb : BindsBy "__init__" q st ps) (ok : ∀ f fd, Fun K "__init__" q st f fd → FnOk P w K mg base CX0 k f fd ps sp) :
    Okx P w K mg base k Cc ps sp := by
  obtain ⟨f, oc, od, kV, doc, pm, an, cdv, ct, osl, a, i, l, c, kp⟩ := D
  have F := fun_mk (st := st) l c kp
  exact ⟨⟨f, _, T, a, ht f a, ok _ _ F, F.binds hb⟩⟩
theorem pmk_x0 {X : Cx} {x : Str} {C : Addr} {k : Nat} {ps : List Str} {sp : Sp} {p pos : Pos} (D : Okx X.prog X.w X.K X.mg X.base k C ps sp) (hr : Room (k + 1) X.A) (hg : Gl X x) (hm : X.mg x = some (.ref C)) (hdb : (x == ("__debug__" : Str)) = false := by decide) :
    PMk X (.Call (.Name x p) [] [] pos) (tMkN C sp) := by
  obtain ⟨f, fd, T, h1, h2, F, b⟩ := D.ex
  exact pmk_oex0 T h1 h2 F hr b pass0 hg hm hdb
theorem pmk_x1 {X : Cx} {x : Str} {C : Addr} {k : Nat} {ps : List Str} {sp : Sp} {p pos : Pos} {e : Expr} {es : List Expr} {ta : TA} (D : Okx X.prog X.w X.K X.mg X.base k C ps sp) (hr : Room (k + 1) X.A) (hg : Gl X x) (hm : X.mg x = some (.ref C)) (ha : PA X (e :: es) ta) (hdb : (x == ("__debug__" : Str)) = false := by decide)
    (he : starEach (e :: es) X.env = (false, eval e X.env) :: starEach es X.env := by rfl) (hpl : (backTo pos (starEach es X.env)).any (·.1) = false := by rfl) :
    PMk X (.Call (.Name x p) (e :: es) [] pos) (tMkO C sp [] ta) := by
  obtain ⟨f, fd, T, h1, h2, F, b⟩ := D.ex
  exact pmk_oex T h1 h2 F hr b .nil pass0 hg hm ha hdb he hpl
/-- what is known of an own exception class that a clause names -/
structure ExcOk (K : PySem.W.Frag) (c : Addr) : Prop where
  te : PySem.W.exmOne K (.ref c) (.ref c) = some true
  xf : XfC K c
theorem exm_of {K : PySem.W.Frag} {S B : Addr} {b : Bool} (h1 : PySem.W.subIn K (.ref B) (.type "BaseException") = some true) (h2 : PySem.W.isClsIn K B = true) (h3 : PySem.W.typeIn K (.ref B) = some (.type "type")) (h4 : PySem.W.subIn K (.ref S) (.ref B) = some b) :
    PySem.W.exmOne K (.ref S) (.ref B) = some b := by
  have e1 : (PySem.W.subIn K (.ref B) (.type "BaseException") == some true) = true := by rw [h1] <;> rfl
  have e2 : ((PySem.W.clsIn K B).isSome && PySem.W.typeIn K (.ref B) == some (.type "type")) = true := by
    have h2' : (PySem.W.clsIn K B).isSome = true := h2
    rw [h2', h3] <;> rfl
  show (if (PySem.W.subIn K (.ref B) (.type "BaseException") == some true) = true then (if ((PySem.W.clsIn K B).isSome && PySem.W.typeIn K (.ref B) == some (.type "type")) = true then PySem.W.subIn K (.ref S) (.ref B) else none) else none) = some b
  rw [if_pos e1, if_pos e2]
  exact h4
theorem i_mkN {C : Addr} {sp : Sp} {σ : St} {H : Hp} {Q : XK} (hsp : ∀ a H Q E, Q .non H → sp [.ref a] H Q E) (q : Q (.ref C) none H) : tMkN C sp σ H Q :=
  fun a ha => hsp _ _ _ _ ⟨rfl, upd_same, by rw [del_upd ha]; exact q⟩
/-! ### ranges as tuples and lists -/
def RgTO (n : Int) (H : Hp) (Q : VK) : Prop := RgOk 0 n ∧ ∀ q, H q = none → Q (.ref q) (upd H q (.tup (rgV 0 n)))
def RgLO (n : Int) (H : Hp) (Q : VK) : Prop := RgOk 0 n ∧ ∀ q, H q = none → Q (.ref q) (upd H q (.lst (rgV 0 n)))
theorem i_tupRg1 {ta : TE} {σ : St} {H : Hp} {Q : VK} (h : ta σ H fun x H1 => ∃ n, x = .int n ∧ RgTO n H1 Q) : tTupRg (tRg1 ta) σ H Q := h
theorem i_lstRg1 {ta : TE} {σ : St} {H : Hp} {Q : VK} (h : ta σ H fun x H1 => ∃ n, x = .int n ∧ RgLO n H1 Q) : tLstRg (tRg1 ta) σ H Q := h
theorem rgV_nat (n : Nat) : rgV 0 ((n : Nat) : Int) = (List.range n).map fun (i : Nat) => V.int (i : Nat) := by
  unfold rgV
  rw [show ((n : Nat) : Int) - 0 = (n : Nat) by omega, Int.toNat_natCast]
  refine List.map_congr_left fun i _ => ?_
  rw [Int.zero_add]
theorem rg_tup {n : Nat} {H : Hp} {Q : V → Hp → Prop} (hn : n ≤ 1000) (q : ∀ p H', H p = none → Same H H' → H' p = some (.tup ((List.range n).map fun (i : Nat) => V.int (i : Nat))) → Q (.ref p) H') : RgTO ((n : Nat) : Int) H Q := by
  refine ⟨RgOk.of_le (by omega) (by omega) (by omega) (by omega), ?_⟩
  rw [rgV_nat]
  exact new_obj q
theorem rg_lst {n : Nat} {H : Hp} {Q : V → Hp → Prop} (hn : n ≤ 1000) (q : ∀ p H', H p = none → Same H H' → H' p = some (.lst ((List.range n).map fun (i : Nat) => V.int (i : Nat))) → Q (.ref p) H') : RgLO ((n : Nat) : Int) H Q := by
  refine ⟨RgOk.of_le (by omega) (by omega) (by omega) (by omega), ?_⟩
  rw [rgV_nat]
  exact new_obj q
/-! ### comprehensions over range(a, b) with a test -/
section
variable {K : PySem.W.Frag} {σ : St} {H : Hp} {Q : VK}
def LcR2 (g : TG) (tt : TT) (te : TE) (vs : List Nat) (σ : St) (Q : VK) (ws : List V) (H1 : Hp) : Prop := ∃ i0 j : Int, ws = [.int i0, .int j] ∧ (-(2 ^ 62) ≤ i0 ∧ i0 < 2 ^ 62 ∧ -(2 ^ 62) ≤ j ∧ j < 2 ^ 62) ∧ ∀ D, H1 D = none → ∃ W : Nat → Nat → Hp → Prop, (∃ m, W 0 m (upd H1 D (.lst []))) ∧ ∀ i m H, W i m H →
  ((Itr i0 (j - i0).toNat).stop i H ∧ Q (.ref D) H) ∨ ((Itr i0 (j - i0).toNat).go i H ∧ ∃ Nx : Hp → Prop, (∀ H', Nx H' → ∃ m', m' < m ∧ W (i + 1) m' H') ∧ ∀ x H', (Itr i0 (j - i0).toNat).yld i H x H' → g x (wipe σ vs) H' fun σ2 H2 => wipe σ2 vs = wipe σ vs ∧ tt σ2 H2 fun b H3 =>
    if b = true then te σ2 H3 fun y H4 => ∃ acc, H4 D = some (.lst acc) ∧ acc.length < sizeLine ∧ Nx (upd H4 D (.lst (acc ++ [y]))) else Nx H3)
theorem i_lcR2 {ta : TA} {te : TE} {tt : TT} {g : TG} {vs : List Nat} (h : ta σ H fun ws H1 => LcR2 g tt te vs σ Q ws H1) : tLc (iRng2 ta) g tt te vs σ H Q := h
theorem lcR2_of {k : Nat} {te : TE} {tt : TT} {vs : List Nat} {i0 j : Int} {n : Nat} (F : Nat → List PyData) (h0 : -(2 ^ 60) ≤ i0 ∧ i0 < 2 ^ 60) (hj : -(2 ^ 60) ≤ j ∧ j < 2 ^ 60) (he : (j - i0).toNat = n) (hn : n < 1000000) (hF : ∀ i, (F i).length ≤ 1)
    (turn : ∀ (i : Nat) (H1 : Hp) (N M : Hp → Prop) (NE : V → Hp → Prop), i < n → Same H H1 → (∀ y H3 d, F i = [d] → Same H1 H3 → Im H3 y d → NE y H3) → (∀ H3, F i = [] → Same H1 H3 → M H3) →
      wipe ((wipe σ vs).set k (some (.int (i0 + (i : Nat))))) vs = wipe σ vs ∧ tt ((wipe σ vs).set k (some (.int (i0 + (i : Nat))))) H1 fun b H3 => if b = true then te ((wipe σ vs).set k (some (.int (i0 + (i : Nat))))) H3 NE else M H3)
    (done : ∀ D H1 ys, H D = none → Same H H1 → H1 D = some (.lst ys) → ImL H1 ys ((List.range n).flatMap F) → Q (.ref D) H1) : LcR2 (gName k) tt te vs σ Q [.int i0, .int j] H := by
  refine ⟨_, _, rfl, ⟨by omega, by omega, by omega, by omega⟩, fun Dl hD => ?_⟩
  rw [he]
  refine lc_range (lo := i0) (n := n) (LcF H Dl F) ⟨same_upd hD, [], upd_same, by simp [ImL]⟩ (fun i H1 hi p => ?_) (fun H1 p => ?_)
  · obtain ⟨s, ys, h1, h2⟩ := p
    have hl := h2.length
    have hb := flatMap_len F hF i
    have e0 : sizeLine = 16777216 := PySem.sizeLine_eq
    refine turn i H1 (LcF H Dl F (i + 1)) _ _ hi s (fun y H3 d hd s3 hy => ?_) (fun H3 hd s3 => ?_)
    · refine ⟨ys, s3 _ _ h1, by omega, same_loc (Same.trans s s3) (kl_upd (s3 _ _ h1)) hD, ys ++ [y], upd_same, ?_⟩
      have kl := kl_upd (ys := ys ++ [y]) (s3 _ _ h1)
      rw [flatMap_range_succ, hd]
      exact ImL.append (kl_iml kl (sm_iml s3 h2)) (by simp only [ImL]; exact ⟨kl_im kl hy, trivial⟩)
    · refine ⟨s.trans s3, ys, s3 _ _ h1, ?_⟩
      rw [flatMap_range_succ, hd, List.append_nil]
      exact sm_iml s3 h2
  · obtain ⟨s, ys, h1, h2⟩ := p
    exact done Dl H1 ys hD s h1 h2
def RevTO (K : PySem.W.Frag) (x : V) (H1 : Hp) (Q : VK) : Prop := ∃ a xs, x = .ref a ∧ SqT K H1 a xs ∧ ∀ p, H1 p = none → Q (.ref p) (upd H1 p (.tup xs.reverse))
theorem i_revT {te : TE} (h : te σ H fun x H1 => RevTO K x H1 Q) : tRevT K te σ H Q := h
end
/-! ### comprehensions over things -/
section
variable {K : PySem.W.Frag} {σ : St} {H : Hp} {Q : VK} {P : Addr → Prop}
theorem lcTh_of {g : TG} {te : TE} {vs : List Nat} {a : Addr} {xs : List V} {es : List Th} (F : Th → PyData) (ha : H a = some (.tup xs)) (hl : ThL P H xs es) (hz : es.length < 1000000)
    (turn : ∀ (e : Th) (x : V) (H1 : Hp) (N : V → Hp → Prop), e ∈ es → Same H H1 → ThR P H1 x e → (∀ y H3, Same H1 H3 → Im H3 y (F e) → N y H3) → g x (wipe σ vs) H1 fun σ2 H2 => wipe σ2 vs = wipe σ vs ∧ te σ2 H2 N)
    (done : ∀ D H1 ys, H D = none → Same H H1 → H1 D = some (.lst ys) → ImL H1 ys (es.map F) → Q (.ref D) H1) : LcT K g te vs σ Q (.ref a) H := by
  have e0 : sizeLine = 16777216 := PySem.sizeLine_eq
  refine ⟨a, rfl, ⟨xs, SqT.of ha⟩, fun Dl hD => ?_⟩
  refine lc_tup (K := K) (a := a) (xs := xs) (tt := tYes) (fun i H1 => Same H H1 ∧ ∃ ys, H1 Dl = some (.lst ys) ∧ ImL H1 ys ((es.take i).map F)) ⟨same_upd hD, [], upd_same, by simp [ImL]⟩ (fun i H' _ p => SqT.of (p.1 _ _ ha)) (fun i x H' hx p => ?_) (fun H' p => ?_)
  · obtain ⟨e, he, hi⟩ := hl.get hx
    obtain ⟨s, ys, h1, h2⟩ := p
    have hy := h2.length
    rw [List.length_map, List.length_take] at hy
    have e1 : (es.take (i + 1)).map F = (es.take i).map F ++ [F e] := by
      rw [List.take_add_one, he]; simp
    refine turn e x H' _ (List.mem_of_getElem? he) s (sm_th s hi) (fun y H3 s3 hy' => ?_)
    refine ⟨ys, s3 _ _ h1, by omega, same_loc (Same.trans s s3) (kl_upd (s3 _ _ h1)) hD, ys ++ [y], upd_same, ?_⟩
    have kl := kl_upd (ys := ys ++ [y]) (s3 _ _ h1)
    rw [e1]
    exact ImL.append (kl_iml kl (sm_iml s3 h2)) (by simp only [ImL]; exact ⟨kl_im kl hy', trivial⟩)
  · obtain ⟨s, ys, h1, h2⟩ := p
    rw [List.take_of_length_le (by rw [hl.length]; exact Nat.le_refl _)] at h2
    exact done Dl H' ys hD s h1 h2
/-- how many things pass a test -/
theorem lcThT_of {g : TG} {tt : TT} {te : TE} {vs : List Nat} {a : Addr} {xs : List V} {es : List Th} (F : Th → Bool) (ha : H a = some (.tup xs)) (hl : ThL P H xs es) (hz : es.length < 1000000)
    (turn : ∀ (e : Th) (x : V) (H1 : Hp) (N M : Hp → Prop) (NE : V → Hp → Prop), e ∈ es → Same H H1 → ThR P H1 x e → (∀ y H3, F e = true → Same H1 H3 → NE y H3) → (∀ H3, F e = false → Same H1 H3 → M H3) →
      g x (wipe σ vs) H1 fun σ2 H2 => wipe σ2 vs = wipe σ vs ∧ tt σ2 H2 fun b H3 => if b = true then te σ2 H3 NE else M H3)
    (done : ∀ D H1 ys, H D = none → Same H H1 → H1 D = some (.lst ys) → ys.length = (es.filter F).length → Q (.ref D) H1) : LcTt K g tt te vs σ Q (.ref a) H := by
  have e0 : sizeLine = 16777216 := PySem.sizeLine_eq
  refine ⟨a, rfl, ⟨xs, SqT.of ha⟩, fun Dl hD => ?_⟩
  refine lc_tup (K := K) (a := a) (xs := xs) (tt := tt) (fun i H1 => Same H H1 ∧ ∃ ys, H1 Dl = some (.lst ys) ∧ ys.length = ((es.take i).filter F).length) ⟨same_upd hD, [], upd_same, by simp⟩ (fun i H' _ p => SqT.of (p.1 _ _ ha)) (fun i x H' hx p => ?_) (fun H' p => ?_)
  · obtain ⟨e, he, hi⟩ := hl.get hx
    obtain ⟨s, ys, h1, h2⟩ := p
    have hb := List.length_filter_le F (es.take i)
    rw [List.length_take] at hb
    have e1 : (es.take (i + 1)).filter F = (es.take i).filter F ++ (if F e = true then [e] else []) := by
      rw [List.take_add_one, he, List.filter_append]
      cases hF : F e <;> simp [hF]
    refine turn e x H' (fun H1 => Same H H1 ∧ ∃ ys, H1 Dl = some (.lst ys) ∧ ys.length = ((es.take (i + 1)).filter F).length) _ _ (List.mem_of_getElem? he) s (sm_th s hi) (fun y H3 hF s3 => ?_) (fun H3 hF s3 => ?_)
    · refine ⟨ys, s3 _ _ h1, by omega, same_loc (Same.trans s s3) (kl_upd (s3 _ _ h1)) hD, ys ++ [y], upd_same, ?_⟩
      rw [e1, if_pos hF, List.length_append, List.length_append, h2]; rfl
    · refine ⟨s.trans s3, ys, s3 _ _ h1, ?_⟩
      rw [e1, if_neg (by rw [hF]; simp), List.append_nil, h2]
  · obtain ⟨s, ys, h1, h2⟩ := p
    rw [List.take_of_length_le (by rw [hl.length]; exact Nat.le_refl _)] at h2
    exact done Dl H' ys hD s h1 h2
theorem lcRz_of {k : Nat} {te : TE} {tt : TT} {vs : List Nat} {j : Int} {n : Nat} (F : Nat → List PyData) (hj : j.toNat = n) (hb : -1000 ≤ j) (hn : n < 1000000) (hF : ∀ i, (F i).length ≤ 1)
    (turn : ∀ (i : Nat) (H1 : Hp) (N M : Hp → Prop) (NE : V → Hp → Prop), i < n → Same H H1 → (∀ y H3 d, F i = [d] → Same H1 H3 → Im H3 y d → NE y H3) → (∀ H3, F i = [] → Same H1 H3 → M H3) →
      wipe ((wipe σ vs).set k (some (.int (i : Nat)))) vs = wipe σ vs ∧ tt ((wipe σ vs).set k (some (.int (i : Nat)))) H1 fun b H3 => if b = true then te ((wipe σ vs).set k (some (.int (i : Nat)))) H3 NE else M H3)
    (done : ∀ D H1 ys, H D = none → Same H H1 → H1 D = some (.lst ys) → ImL H1 ys ((List.range n).flatMap F) → Q (.ref D) H1) : LcR (gName k) tt te vs σ Q [.int j] H := by
  refine ⟨_, rfl, by omega, by omega, fun Dl hD => ?_⟩
  rw [hj]
  refine lc_range (lo := 0) (n := n) (LcF H Dl F) ⟨same_upd hD, [], upd_same, by simp [ImL]⟩ (fun i H1 hi p => ?_) (fun H1 p => ?_)
  · obtain ⟨s, ys, h1, h2⟩ := p
    have hl := h2.length
    have hb := flatMap_len F hF i
    have e0 : sizeLine = 16777216 := PySem.sizeLine_eq
    have e : (0 : Int) + ((i : Nat) : Int) = (i : Nat) := by omega
    rw [e]
    refine turn i H1 (LcF H Dl F (i + 1)) _ _ hi s (fun y H3 d hd s3 hy => ?_) (fun H3 hd s3 => ?_)
    · refine ⟨ys, s3 _ _ h1, by omega, same_loc (Same.trans s s3) (kl_upd (s3 _ _ h1)) hD, ys ++ [y], upd_same, ?_⟩
      have kl := kl_upd (ys := ys ++ [y]) (s3 _ _ h1)
      rw [flatMap_range_succ, hd]
      exact ImL.append (kl_iml kl (sm_iml s3 h2)) (by simp only [ImL]; exact ⟨kl_im kl hy, trivial⟩)
    · refine ⟨s.trans s3, ys, s3 _ _ h1, ?_⟩
      rw [flatMap_range_succ, hd, List.append_nil]
      exact sm_iml s3 h2
  · obtain ⟨s, ys, h1, h2⟩ := p
    exact done Dl H1 ys hD s h1 h2
end
theorem ImL.bls {H : Hp} : ∀ {ys : List V} {bs : List Bool}, ImL H ys (bs.map PyData.bool) → ys = bs.map V.bl
  | [], [], _ => rfl
  | y :: ys, b :: bs, h => by
    simp only [List.map_cons, ImL, Im] at h
    rw [h.1, ImL.bls h.2]; rfl
  | [], _ :: _, h => by simp [ImL] at h
  | _ :: _, [], h => by simp [ImL] at h
/-! ### lots and groups -/
def ascB (ns : List Int) : Bool := (List.range (ns.length - 1)).all fun k => decide (ns.getD k 0 < ns.getD (k + 1) 0)
def thInt : Th → Int
  | .int i => i
  | _ => 0
def Th.lot (n : Int) : Th → Bool
  | .tup l => l.all (·.blw n) && ascB (l.map thInt)
  | _ => false
def Th.len : Th → Nat
  | .tup l => l.length
  | _ => 0
def nth (i : Nat) : Th := .int (i : Nat)
theorem lot_iff {d : Th} {n : Nat} : d.lot n = true ↔ ∃ xs : List Nat, d = .tup (xs.map nth) ∧ (∀ i ∈ xs, i < n) ∧ ascB (xs.map fun (i : Nat) => ((i : Nat) : Int)) = true := by
  constructor
  · intro h
    cases d with
    | tup l =>
      simp only [Th.lot, Bool.and_eq_true] at h
      obtain ⟨h1, h2⟩ := h
      have : ∃ xs : List Nat, l = xs.map nth ∧ ∀ i ∈ xs, i < n := by
        clear h2
        induction l with
        | nil => exact ⟨[], rfl, by simp⟩
        | cons a l ih =>
          rw [List.all_cons, Bool.and_eq_true] at h1
          obtain ⟨xs, e, hx⟩ := ih h1.2
          obtain ⟨i, ei, hi⟩ := blw_iff.mp h1.1
          exact ⟨i :: xs, by rw [List.map_cons, ← e, ei]; rfl, fun j hj => by
            rcases List.mem_cons.mp hj with rfl | hj
            · exact hi
            · exact hx j hj⟩
      obtain ⟨xs, rfl, hx⟩ := this
      refine ⟨xs, rfl, hx, ?_⟩
      rw [List.map_map] at h2
      exact h2
    | int i => simp [Th.lot] at h
    | bl b => simp [Th.lot] at h
    | oth => simp [Th.lot] at h
  · rintro ⟨xs, rfl, hx, ha⟩
    simp only [Th.lot, Bool.and_eq_true, List.map_map]
    refine ⟨List.all_eq_true.mpr fun d hd => ?_, ha⟩
    obtain ⟨i, hi, rfl⟩ := List.mem_map.mp hd
    exact blw_iff.mpr ⟨i, rfl, hx i hi⟩
def grpT (xs ys : List Nat) : Th := .tup [.tup (xs.map nth), .tup (ys.map nth)]
theorem nths_inj {xs ys : List Nat} (h : xs.map nth = ys.map nth) : xs = ys := by
  induction xs generalizing ys with
  | nil => cases ys <;> simp_all
  | cons x xs ih =>
    cases ys with
    | nil => simp at h
    | cons y ys =>
      simp only [List.map_cons, List.cons.injEq, nth, Th.int.injEq] at h
      rw [ih h.2]
      congr 1
      omega
theorem grpT_inj {xs ys xs' ys' : List Nat} (h : grpT xs ys = grpT xs' ys') : xs = xs' ∧ ys = ys' := by
  simp only [grpT, Th.tup.injEq, List.cons.injEq, and_true] at h
  exact ⟨nths_inj h.1, nths_inj h.2⟩
def pickR (o : List Rat) (xs : List Nat) : List Rat := xs.map fun i => o.getD i 0
structure GrpOk (o d : List Rat) (xs ys : List Nat) : Prop where
  hx : ∀ i ∈ xs, i < o.length
  hy : ∀ i ∈ ys, i < d.length
  ax : ascB (xs.map fun (i : Nat) => ((i : Nat) : Int)) = true
  ay : ascB (ys.map fun (i : Nat) => ((i : Nat) : Int)) = true
  n0 : 0 < xs.length + ys.length
def IsGrp (o d : List Rat) (th : Th) : Prop := ∃ xs ys, th = grpT xs ys ∧ GrpOk o d xs ys
def IsEven (o d : List Rat) (th : Th) : Prop := ∃ xs ys, th = grpT xs ys ∧ GrpOk o d xs ys ∧ (pickR o xs).sum = (pickR d ys).sum
theorem IsEven.grp {o d : List Rat} {th : Th} (h : IsEven o d th) : IsGrp o d th := by
  obtain ⟨xs, ys, e, g, _⟩ := h
  exact ⟨xs, ys, e, g⟩
theorem grp_of {o d : List Rat} {x y : Th} : IsGrp o d (.tup [x, y]) ↔ x.lot o.length = true ∧ y.lot d.length = true ∧ 0 < x.len + y.len := by
  constructor
  · rintro ⟨xs, ys, e, g⟩
    simp only [grpT, Th.tup.injEq, List.cons.injEq, and_true] at e
    obtain ⟨rfl, rfl⟩ := e
    refine ⟨lot_iff.mpr ⟨xs, rfl, g.hx, g.ax⟩, lot_iff.mpr ⟨ys, rfl, g.hy, g.ay⟩, ?_⟩
    simpa [Th.len] using g.n0
  · rintro ⟨h1, h2, h3⟩
    obtain ⟨xs, rfl, hx, ax⟩ := lot_iff.mp h1
    obtain ⟨ys, rfl, hy, ay⟩ := lot_iff.mp h2
    exact ⟨xs, ys, rfl, hx, hy, ax, ay, by simpa [Th.len] using h3⟩
def Th.Sm2 : Th → Prop
  | .tup l => l.length ≤ 1000 ∧ ∀ x ∈ l, x.len ≤ 1000
  | _ => True
theorem Th.Sm2.small {d : Th} (h : d.Sm2) : d.small := fun l e => by subst e; exact h.1
theorem small_len {d : Th} (h : d.len ≤ 1000) : d.small := fun l e => by subst e; exact h
def Thing2 (H : Hp) (v : V) : Prop := ∃ d, ThR (fun _ => True) H v d ∧ d.Sm2
theorem Thing2.same {H H' : Hp} {v : V} (s : Same H H') (h : Thing2 H v) : Thing2 H' v := by
  obtain ⟨d, h1, h2⟩ := h
  exact ⟨d, sm_th s h1, h2⟩
theorem Thing2.kl {m : Addr} {H H' : Hp} {v : V} (s : KL m H H') (h : Thing2 H v) : Thing2 H' v := by
  obtain ⟨d, h1, h2⟩ := h
  exact ⟨d, kl_th s h1, h2⟩
theorem ThL.ints {P : Addr → Prop} {H : Hp} : ∀ {vs : List V} {xs : List Nat}, ThL P H vs (xs.map nth) → vs = xs.map fun (i : Nat) => V.int (i : Nat)
  | [], [], _ => rfl
  | v :: vs, x :: xs, h => by
    simp only [List.map_cons, ThL, nth, ThR] at h
    rw [h.1, ThL.ints h.2]; rfl
  | [], _ :: _, h => by simp [ThL] at h
  | _ :: _, [], h => by simp [ThL] at h
theorem grp_at {P : Addr → Prop} {H : Hp} {v : V} {xs ys : List Nat} (h : ThR P H v (grpT xs ys)) : ∃ a b c, v = .ref a ∧ H a = some (.tup [.ref b, .ref c]) ∧ H b = some (.tup (xs.map fun (i : Nat) => V.int (i : Nat))) ∧ H c = some (.tup (ys.map fun (i : Nat) => V.int (i : Nat))) := by
  unfold grpT at h
  obtain ⟨a, vs, rfl, ha, hl⟩ := h.tup_at
  match vs, hl, ha with
  | [x, y], hl, ha =>
    simp only [ThL] at hl
    obtain ⟨b, xs', rfl, hb, hlb⟩ := hl.1.tup_at
    obtain ⟨c, ys', rfl, hc, hlc⟩ := hl.2.1.tup_at
    rw [hlb.ints] at hb
    rw [hlc.ints] at hc
    exact ⟨a, b, c, rfl, ha, hb, hc⟩
theorem all_notfilter {α : Type} (p : α → Bool) : ∀ l : List α, ((l.filter fun a => !p a).length = 0) ↔ l.all p = true
  | [] => by simp
  | a :: l => by
    have ih := all_notfilter p l
    cases h : p a <;> simp [h] <;> simpa using ih
theorem i_yes {σ : St} {H : Hp} {QB : Bool → Hp → Prop} (h : QB true H) : tYes σ H QB := h
theorem nogrp_len {o d : List Rat} {l : List Th} (h : l.length ≠ 2) : ¬ IsGrp o d (.tup l) := by
  rintro ⟨xs, ys, e, _⟩
  simp only [grpT, Th.tup.injEq] at e
  rw [e] at h
  exact h rfl
theorem nogrp_tup {o d : List Rat} {t : Th} (h : ∀ l, t ≠ .tup l) : ¬ IsGrp o d t := by
  rintro ⟨xs, ys, e, _⟩
  exact h _ e
theorem fls {P : Prop} (h : ¬ P) : (false = true ↔ P) := ⟨fun z => (by cases z), fun z => absurd z h⟩
theorem tru {P : Prop} (h : P) : (true = true ↔ P) := ⟨fun _ => h, fun _ => rfl⟩
theorem pick_mem {o : List Rat} {xs : List Nat} (h : ∀ i ∈ xs, i < o.length) : ∀ q ∈ pickR o xs, q ∈ o := by
  intro q hq
  obtain ⟨i, hi, rfl⟩ := List.mem_map.mp hq
  exact getD_mem (h i hi)
theorem pick_bs {o d : List Rat} {xs : List Nat} (hb : Bs (o ++ d)) (hl : xs.length ≤ 1000) (h : ∀ i ∈ xs, i < o.length) : Bs (pickR o xs) :=
  hb.sub (by unfold pickR; rw [List.length_map]; exact hl) fun q hq => List.mem_append_left _ (pick_mem h q hq)
theorem pick_bs' {o d : List Rat} {xs : List Nat} (hb : Bs (o ++ d)) (hl : xs.length ≤ 1000) (h : ∀ i ∈ xs, i < d.length) : Bs (pickR d xs) :=
  hb.sub (by unfold pickR; rw [List.length_map]; exact hl) fun q hq => List.mem_append_right _ (pick_mem h q hq)
theorem grp_small {xs ys : List Nat} (h : (grpT xs ys).Sm2) : xs.length ≤ 1000 ∧ ys.length ≤ 1000 := by
  have h1 := h.2 (.tup (xs.map nth)) (by simp)
  have h2 := h.2 (.tup (ys.map nth)) (by simp)
  simpa [Th.len] using And.intro h1 h2
def pickF (o : List Rat) : PyData → PyData
  | .int i => fr (o.getD i.toNat 0)
  | e => e
theorem pick_map (o : List Rat) (xs : List Nat) : (xs.map fun (i : Nat) => PyData.int (i : Nat)).map (pickF o) = (pickR o xs).map fr := by
  unfold pickR
  rw [List.map_map, List.map_map]
  refine List.map_congr_left fun i _ => ?_
  simp [pickF]
theorem im_nats {H : Hp} (xs : List Nat) : ImL H (xs.map fun (i : Nat) => V.int (i : Nat)) (xs.map fun (i : Nat) => PyData.int (i : Nat)) := by
  induction xs with
  | nil => simp [ImL]
  | cons x xs ih => simp only [List.map_cons, ImL, Im]; exact ⟨trivial, ih⟩
theorem ThL.rev {P : Addr → Prop} {H : Hp} : ∀ {vs : List V} {ds : List Th}, ThL P H vs ds → ThL P H vs.reverse ds.reverse
  | [], [], _ => by simp [ThL]
  | v :: vs, d :: ds, h => by
    simp only [ThL] at h
    rw [List.reverse_cons, List.reverse_cons]
    exact ThL.append (ThL.rev h.2) (by simp only [ThL]; exact ⟨h.1, trivial⟩)
  | [], _ :: _, h => by simp [ThL] at h
  | _ :: _, [], h => by simp [ThL] at h
theorem i_revTh {K : PySem.W.Frag} {H : Hp} {Q : VK} {P : Addr → Prop} {x : V} {ds : List Th} (h : ThR P H x (.tup ds)) (q : ∀ v H', Same H H' → ThR P H' v (.tup ds.reverse) → Q v H') : RevTO K x H Q := by
  obtain ⟨a, vs, rfl, ha, hl⟩ := h.tup_at
  refine ⟨a, vs, rfl, SqT.of ha, new_obj fun p H' hp s e => q _ _ s ?_⟩
  exact ThR.tup_of e ((hl.mon (Same.kp s)).rev)
end QW

namespace L2
open PySem PySem.Spec PyProof.Rows
/-! ### C(e, ..) where C's __init__ may raise, within a try -/
section
variable {X : Cx} {CX : CXT} {k : Nat} {f C : Addr} {fd : FuncData} {ps : List Str} {sp : Sp} {E : St → XK} {x : Str} {p pos : Pos} {e : Expr} {es : List Expr} {t : TA}
theorem run_makeS {pins : List (Addr × Obj)} {σ : St} {H : Hp} {s : Shared} {Q : VK} {us : List Value} {vs : List V} (M : Mk X.K C f) (F : FnOk X.prog X.w X.K X.mg X.base CX k f fd ps sp) (hr : Room (k + 1) X.A) (hb : Binds X.K fd ps [])
    (hx : PassesAt CX X σ (E σ)) (I : Inv X pins σ H s) (r : Vals vs us)
    (h : ∀ x dx, H x = none → H dx = none → dx ≠ x → sp (.ref x :: vs) (upd (upd H dx (.own x)) x (.ins C dx [])) (fun v H2 => v = .non ∧ Q (.ref x) H2) (E σ)) :
    wpAny (model X.prog X.w) X.A (call (.ref C) us) (EP X pins σ Q) X.xe s := by
  have hq := h (s.heap.objs.size + 1) s.heap.objs.size (I.hok.fresh (Nat.le_succ _)) (I.hok.fresh (Nat.le_refl _)) (Nat.ne_of_lt (Nat.lt_succ_self _))
  have I2 := Inv.made (C := C) I
  have r2 : Vals (V.ref (s.heap.objs.size + 1) :: vs) (Value.ref (s.heap.objs.size + 1) :: us) := .cons rfl r
  have hl : (Value.ref (s.heap.objs.size + 1) :: us).length = ps.length := by
    have e := r2.length
    rw [F.len _ _ _ _ hq] at e
    exact e.symm
  have b := hb _ (Value.ref (s.heap.objs.size + 1) :: us) I2.kIn (by rw [List.append_nil]; exact hl)
  rw [List.append_nil] at b
  refine wpAny_call (make_map (f := f) I.kIn M.makes M.init (beq_iff_eq.mp M.fn) (codeAny_mono (F.run _ X.stack _ _ ⟨Value.ref (s.heap.objs.size + 1) :: us, []⟩ (Value.ref (s.heap.objs.size + 1) :: us) _ _ (E σ) (hr.make C us [])
    (I2.env0.make C us []) b r2 hq) fun r s' hq' => ?_))
  cases r with
  | error e => exact hx pins _ _ e s' I2 hq'
  | ok fl =>
    cases fl with
    | ret u =>
      obtain ⟨v, H', I3, rv, ev, q3⟩ := I2.after hq'
      subst ev
      exact ⟨rv, ⟨V.ref (s.heap.objs.size + 1), H', I3, rfl, q3⟩⟩
    | next => exact False.elim hq'
    | brk => exact False.elim hq'
    | cont => exact False.elim hq'
def tMakeS (C : Addr) (sp : Sp) (E : St → XK) (t : TA) : TE := fun σ H Q => t σ H fun vs H1 => ∀ x dx, H1 x = none → H1 dx = none → dx ≠ x → sp (.ref x :: vs) (upd (upd H1 dx (.own x)) x (.ins C dx [])) (fun v H2 => v = .non ∧ Q (.ref x) H2) (E σ)
theorem pe_makeS (M : Mk X.K C f) (F : FnOk X.prog X.w X.K X.mg X.base CX k f fd ps sp) (hr : Room (k + 1) X.A) (hg : Gl X x) (hm : X.mg x = some (.ref C)) (hb : Binds X.K fd ps []) (hx : ∀ σ, PassesAt CX X σ (E σ))
    (ha : PA X (e :: es) t) (hdb : (x == ("__debug__" : Str)) = false := by decide) (he : starEach (e :: es) X.env = (false, eval e X.env) :: starEach es X.env := by rfl) (hpl : (backTo pos (starEach es X.env)).any (·.1) = false := by rfl) :
    PE X (.Call (.Name x p) (e :: es) [] pos) (tMakeS C sp E t) := by
  refine ⟨fun pins s σ H Q I h => ?_⟩
  refine wpAny_Call_Name_kw (ld_glob I hg hm ?_ hdb)
  refine PySem.W.callWith_K (h₀ := X.base) I.ok.mod.kin M.kp (thn (ha.run pos pins s σ H _ I h) fun us s1 ⟨vs, H1, I1, r, q⟩ => ⟨I1.kIn, ?_⟩) he hpl
  exact run_makeS M F hr hb (hx σ) I1 r q
end
end L2
namespace QW
open PySem L2
structure OkmX (P : Program) (w : World) (K : PySem.W.Frag) (mg : Str → Option Value) (base : Heap) (k : Nat) (x : Str) (Cc : Addr) (ps : List Str) (sp : Sp) : Prop where
  ex : ∃ f fd, Mk K Cc f ∧ FnOk P w K mg base (L2.CX P w) k f fd ps sp ∧ mg x = some (.ref Cc) ∧ Binds K fd ps []
theorem MethAt.okmX {P : Program} {w : World} {K : PySem.W.Frag} {mg : Str → Option Value} {base : Heap} {k : Nat} {x q : Str} {ps : List Str} {sp : Sp} {st : Stmt} {Cc : Addr} (D : MethAt K Cc "__init__" q st) (hm : mg x = some (.ref Cc)) (mk : PySem.W.makesIn K Cc = true) (kc : PySem.W.keepIn K (.ref Cc) = true) (hb : BindsBy "__init__" q st ps) (ok : ∀ f fd, Fun K "__init__" q st f fd → FnOk P w K mg base (L2.CX P w) k f fd ps sp) :
    OkmX P w K mg base k x Cc ps sp := by
  obtain ⟨f, oc, od, kV, doc, pm, an, cdv, ct, osl, a, i, l, c, kp⟩ := D
  have F := fun_mk (st := st) l c kp
  exact ⟨⟨f, _, ⟨mk, a, i, kc⟩, ok _ _ F, hm, F.binds hb⟩⟩
theorem pe_makeDX {X : Cx} {x : Str} {p pos : Pos} {e : Expr} {es : List Expr} {t : TA} {k : Nat} {Cc : Addr} {ps : List Str} {sp : Sp} {W : WX} (Dd : OkmX X.prog X.w X.K X.mg X.base k x Cc ps sp) (hr : Room (k + 1) X.A) (tk : Takes X W) (ha : PA X (e :: es) t) (hg : Gl X x := by rfl) (hdb : (x == ("__debug__" : Str)) = false := by decide)
    (he : starEach (e :: es) X.env = (false, eval e X.env) :: starEach es X.env := by rfl) (hpl : (backTo pos (starEach es X.env)).any (·.1) = false := by rfl) : PE X (.Call (.Name x p) (e :: es) [] pos) (tMakeS Cc sp (WE W) t) := by
  obtain ⟨f, fd, M, F, h1, h3⟩ := Dd.ex
  exact pe_makeS M F hr hg h1 h3 (fun σ => passAt tk σ) ha hdb he hpl
def MakeSO (Cc : Addr) (sp : Sp) (vs : List V) (H1 : Hp) (Q : VK) (E : XK) : Prop := ∀ x dx, H1 x = none → H1 dx = none → dx ≠ x → sp (.ref x :: vs) (upd (upd H1 dx (.own x)) x (.ins Cc dx [])) (fun v H2 => v = .non ∧ Q (.ref x) H2) E
theorem i_makeS {Cc : Addr} {sp : Sp} {t : TA} {E : St → XK} {σ : St} {H : Hp} {Q : VK} (h : t σ H fun vs H1 => MakeSO Cc sp vs H1 Q (E σ)) : tMakeS Cc sp E t σ H Q := h
theorem makeSO_of {Cc : Addr} {sp : Sp} {vs : List V} {E : XK} {H : Hp} {Q : VK} (h : ∀ x dx H', H x = none → Same H H' → H' x = some (.ins Cc dx []) → sp (.ref x :: vs) H' (fun v H2 => v = .non ∧ Q (.ref x) H2) E) : MakeSO Cc sp vs H Q E :=
  fun x dx nx nd ne => h x dx _ nx (fun b u hb => by rw [upd_ne (ne_of_none hb nx), upd_ne (ne_of_none hb nd)]; exact hb) upd_same
/-! ### an own exception with a field -/
structure ExcF (K : PySem.W.Frag) (c : Addr) (f : Str) : Prop where
  ox : OexC K c
  no : PySem.W.findIn K (.ref c) f = some none
  te : PySem.W.exmOne K (.ref c) (.ref c) = some true
  xf : XfC K c
def MkOO (C : Addr) (sp : Sp) (vs : List V) (H1 : Hp) (Q : XK) : Prop := vs.length ≤ 1000 ∧ ∀ a, H1 a = none → sp (.ref a :: (vs ++ [])) (upd H1 a (exo a C none))
  (fun v H2 => v = .non ∧ ∃ (d : Addr) (fs : List (Str × V)), H2 a = some (exo a C (some d)) ∧ H2 d = some (exd d fs) ∧ H1 d = none ∧ Q (.ref C) (some d) (upd (del H2 a) d (.xd fs))) (fun _ _ _ => False)
theorem i_mkO {C : Addr} {sp : Sp} {ta : TA} {σ : St} {H : Hp} {Q : XK} (h : ta σ H fun vs H1 => MkOO C sp vs H1 Q) : tMkO C sp [] ta σ H Q := h
/-- an __init__ that keeps its one argument under f -/
def spKeep (K : PySem.W.Frag) (c : Addr) (f : Str) : Sp := fun vs H Q _ => ∃ (a : Addr) (v : V), vs = [.ref a, v] ∧ OexC K c ∧ PySem.W.findIn K (.ref c) f = some none ∧ H a = some (exo a c none) ∧ ∀ dx, H dx = none → dx ≠ a → Q .non (upd (upd H dx (exd dx [(f, v)])) a (exo a c (some dx)))
theorem mkKeep {K : PySem.W.Frag} {c : Addr} {f : Str} {v : V} {H : Hp} {Q : XK} (TF : ExcF K c f) (q : ∀ d H', Same H H' → H' d = some (.xd [(f, v)]) → Q (.ref c) (some d) H') : MkOO c (spKeep K c f) [v] H Q := by
  refine ⟨by simp, fun a ha => ⟨a, v, rfl, TF.ox, TF.no, upd_same, fun dx hdx hne => ⟨rfl, dx, [(f, v)], upd_same, ?_, ?_, q dx _ (fun b o e => ?_) upd_same⟩⟩⟩
  · rw [upd_ne hne]; exact upd_same
  · rw [upd_ne hne] at hdx; exact hdx
  · have h1 : H dx = none := by rw [upd_ne hne] at hdx; exact hdx
    have n1 := ne_of_none e ha
    have n2 := ne_of_none e h1
    rw [upd_ne n2, del_ne n1, upd_ne n1, upd_ne n2, upd_ne n1]
    exact e
def OstO (K : PySem.W.Frag) (f : Str) (D : Ends) (σ : St) (y x : V) (H2 : Hp) : Prop := ∃ a C : Addr, x = .ref a ∧ OexC K C ∧ PySem.W.findIn K (.ref C) f = some none ∧
  ((H2 a = some (exo a C none) ∧ ∀ dx, H2 dx = none → dx ≠ a → D.nx σ (upd (upd H2 dx (exd dx [(f, y)])) a (exo a C (some dx)))) ∨
    ∃ (dx : Addr) (fs : List (Str × V)), H2 a = some (exo a C (some dx)) ∧ H2 dx = some (exd dx fs) ∧ fs.length ≤ 900 ∧ D.nx σ (upd H2 dx (exd dx ((f, y) :: fs))))
theorem i_ost {K : PySem.W.Frag} {f : Str} {to te : TE} {D : Ends} {σ : St} {H : Hp} (h : te σ H fun y H1 => to σ H1 fun x H2 => OstO K f D σ y x H2) : tOst K f to te D σ H := h
theorem i_xf {a : Addr} {cls : Value} {d : Option Addr} {C : Addr} {f : Str} {te : TE} {σ : St} {H : Hp} {Q : VK} (h : te σ H fun x H1 => x = .ref a ∧ cls = .ref C ∧ ∃ (dd : Addr) (fs : List (Str × V)) (v : V), d = some dd ∧ H1 dd = some (.xd fs) ∧ fs.lookup f = some v ∧ Q v H1) : tXf a cls d C f te σ H Q := h
/-! ### tuples of things repeated, sliced -/
theorem ThL.rep {P : Addr → Prop} {H : Hp} {vs : List V} {ds : List Th} (h : ThL P H vs ds) : ∀ n : Nat, ThL P H (List.replicate n vs).flatten (List.replicate n ds).flatten
  | 0 => by simp [ThL]
  | n + 1 => by
    rw [List.replicate_succ, List.replicate_succ, List.flatten_cons, List.flatten_cons]
    exact ThL.append h (ThL.rep h n)
theorem i_repTh {K : PySem.W.Frag} {H : Hp} {Q : VK} {P : Addr → Prop} {x : V} {k : Int} {ds : List Th} (h : ThR P H x (.tup ds)) (hn : ds ≠ []) (h1 : 2 ≤ k) (h2 : k ≤ 1000) (hz : ds.length ≤ 1000) (q : ∀ v H', Same H H' → ThR P H' v (.tup (List.replicate k.toNat ds).flatten) → Q v H') : rRepA K x (.int k) H Q := by
  obtain ⟨a, xs, rfl, ha, hl⟩ := h.tup_at
  have e := hl.length
  refine .inr ⟨a, k, xs, rfl, rfl, SqT.of ha, fun z => hn (List.eq_nil_of_length_eq_zero (by rw [← e, z]; rfl)), by omega, h2, by omega, new_obj fun p H' hp s ee => q _ _ s (ThR.tup_of ee ((hl.mon (Same.kp s)).rep _))⟩
/-- a slice, its items among the tuple's -/
theorem i_slTh' {K : PySem.W.Frag} {H : Hp} {Q : VK} {P : Addr → Prop} {x : V} {ds : List Th} {lo hi : Option Int} (h : ThR P H x (.tup ds))
    (q : ∀ v H' es, Same H H' → es.length ≤ ds.length → (∀ e ∈ es, e ∈ ds) → ThR P H' v (.tup es) → Q v H') : rSlA K x lo hi H Q := by
  have h' := h
  simp only [ThR] at h'
  obtain ⟨a, xs, rfl, ha, la⟩ := h'
  refine ⟨a, xs, rfl, SqT.of ha, fun _ => q _ _ ds (Same.refl _) (Nat.le_refl _) (fun _ h => h) h, fun _ => new_obj fun p H' hp s e => ?_⟩
  refine q _ _ ((ds.drop (HT.sIx xs.length 0 lo)).take (HT.sIx xs.length xs.length hi - HT.sIx xs.length 0 lo)) s ?_ (fun e he => List.mem_of_mem_drop (List.mem_of_mem_take he)) ?_
  · rw [List.length_take, List.length_drop]; omega
  · simp only [ThR]
    refine ⟨p, _, rfl, e, ?_⟩
    unfold cutV
    exact ThL.take _ (ThL.drop _ (la.mon (Same.kp s)))
theorem cut_le101 {xs : List V} {ds : List Th} (h : xs.length = ds.length) : ((ds.drop (HT.sIx xs.length 0 none)).take (HT.sIx xs.length xs.length (some 101) - HT.sIx xs.length 0 none)).length ≤ 101 := by
  rw [List.length_take, List.length_drop]
  have e : HT.sIx xs.length xs.length (some ((101 : Nat) : Int)) = min 101 xs.length := HT.sIx_nat _ _ _
  have e' : HT.sIx xs.length xs.length (some 101) = min 101 xs.length := e
  rw [e']
  omega
theorem i_slTh101 {K : PySem.W.Frag} {H : Hp} {Q : VK} {P : Addr → Prop} {x : V} {ds : List Th} (h : ThR P H x (.tup ds))
    (q : ∀ v H' es, Same H H' → es.length ≤ 101 → (∀ e ∈ es, e ∈ ds) → ThR P H' v (.tup es) → Q v H') : rSlA K x none (some 101) H Q := by
  have h' := h
  simp only [ThR] at h'
  obtain ⟨a, xs, rfl, ha, la⟩ := h'
  have hl := la.length
  refine ⟨a, xs, rfl, SqT.of ha, fun z => q _ _ ds (Same.refl _) ?_ (fun _ h => h) h, fun _ => new_obj fun p H' hp s e => ?_⟩
  · have e : HT.sIx xs.length xs.length (some ((101 : Nat) : Int)) = min 101 xs.length := HT.sIx_nat _ _ _
    have e' : HT.sIx xs.length xs.length (some 101) = min 101 xs.length := e
    have := z.2
    rw [e'] at this
    omega
  refine q _ _ ((ds.drop (HT.sIx xs.length 0 none)).take (HT.sIx xs.length xs.length (some 101) - HT.sIx xs.length 0 none)) s (cut_le101 hl) (fun e he => List.mem_of_mem_drop (List.mem_of_mem_take he)) ?_
  · simp only [ThR]
    refine ⟨p, _, rfl, e, ?_⟩
    unfold cutV
    exact ThL.take _ (ThL.drop _ (la.mon (Same.kp s)))
/-! ### amounts among things -/
def Th.frac : Th → Bool
  | .tup [.int i, .int j] => decide (0 < j ∧ i.natAbs.gcd j.natAbs = 1)
  | _ => false
def Th.amt : Th → Bool
  | .tup [.int i, .int j] => decide (0 < i ∧ 0 < j ∧ i.natAbs.gcd j.natAbs = 1)
  | _ => false
def Th.side : Th → Bool
  | .tup l => decide (1 ≤ l.length ∧ l.length ≤ 100) && l.all Th.amt
  | _ => false
def frT (q : Rat) : Th := .tup [.int q.num, .int (q.den : Nat)]
theorem amt_iff {d : Th} : d.amt = true ↔ ∃ q : Rat, d = frT q ∧ 0 < q.num := by
  constructor
  · intro h
    match d, h with
    | .tup [.int i, .int j], h =>
      simp only [Th.amt, decide_eq_true_eq] at h
      obtain ⟨h1, h2, h3⟩ := h
      have e : (j.toNat : Int) = j := Int.toNat_of_nonneg (by omega)
      refine ⟨⟨i, j.toNat, by omega, ?_⟩, ?_, h1⟩
      · have e2 : j.natAbs = j.toNat := by omega
        rw [← e2]; exact h3
      · simp only [frT]
        rw [e]
  · rintro ⟨q, rfl, h⟩
    have hd : 0 < q.den := Nat.pos_of_ne_zero q.den_nz
    simp only [frT, Th.amt, decide_eq_true_eq]
    refine ⟨h, by omega, ?_⟩
    rw [Int.natAbs_natCast]
    exact q.reduced
theorem amt_frac {i j : Int} : (Th.tup [.int i, .int j]).amt = ((Th.tup [.int i, .int j]).frac && decide (0 < i)) := by
  simp only [Th.amt, Th.frac]
  rw [Bool.eq_iff_iff]
  simp only [decide_eq_true_eq, Bool.and_eq_true]
  constructor
  · rintro ⟨a, b, c⟩; exact ⟨⟨b, c⟩, a⟩
  · rintro ⟨⟨a, b⟩, c⟩; exact ⟨c, a, b⟩
theorem all_amt {l : List Th} (h : l.all Th.amt = true) : ∃ qs : List Rat, l = qs.map frT ∧ ∀ q ∈ qs, 0 < q.num := by
  induction l with
  | nil => exact ⟨[], rfl, by simp⟩
  | cons a l ih =>
    rw [List.all_cons, Bool.and_eq_true] at h
    obtain ⟨qs, e, hq⟩ := ih h.2
    obtain ⟨q, e1, h1⟩ := amt_iff.mp h.1
    refine ⟨q :: qs, by rw [e, e1]; rfl, fun r hr => ?_⟩
    rcases List.mem_cons.mp hr with rfl | hr
    · exact h1
    · exact hq r hr
theorem ThR.frD {P : Addr → Prop} {H : Hp} {v : V} {q : Rat} (h : ThR P H v (frT q)) : Im H v (fr q) := by
  obtain ⟨a, vs, rfl, ha, hl⟩ := h.tup_at
  match vs, hl, ha with
  | [x, y], hl, ha =>
    simp only [ThL, ThR] at hl
    obtain ⟨rfl, rfl, _⟩ := hl
    exact Im.fr_of ha
theorem ThL.frsD {P : Addr → Prop} {H : Hp} : ∀ {vs : List V} {qs : List Rat}, ThL P H vs (qs.map frT) → ImL H vs (qs.map fr)
  | [], [], _ => by simp [ImL]
  | v :: vs, q :: qs, h => by
    simp only [List.map_cons, ThL] at h
    simp only [List.map_cons, ImL]
    exact ⟨h.1.frD, ThL.frsD h.2⟩
  | [], _ :: _, h => by simp [ThL] at h
  | _ :: _, [], h => by simp [ThL] at h
theorem ThR.frsD {P : Addr → Prop} {H : Hp} {v : V} {qs : List Rat} (h : ThR P H v (.tup (qs.map frT))) : Im H v (.tuple (qs.map fr)) := by
  obtain ⟨a, vs, rfl, ha, hl⟩ := h.tup_at
  exact Im.tup ha hl.frsD
theorem thOf_fr (q : Rat) : thOf (fr q) = frT q := rfl
theorem frs_th {P : Addr → Prop} {H : Hp} {v : V} {qs : List Rat} (h : Im H v (.tuple (qs.map fr))) : ThR P H v (.tup (qs.map frT)) := by
  have := Im.th (P := P) _ h
  simp only [thOf, thAll_map, List.map_map] at this
  exact this
/-- what is known of all that may come as a side: its pairs are not great, the amounts' bottoms go into M -/
structure SideT (M : Nat) (d : Th) : Prop where
  ln : d.len ≤ 1000
  el : ∀ l, d = .tup l → ∀ x ∈ l, x.len ≤ 1000 ∧ ∀ i j, x = .tup [.int i, .int j] → i.natAbs < 2 ^ 100 ∧ j.natAbs < 2 ^ 100 ∧ (x.amt = true → j.toNat ∣ M)
theorem SideT.bw {M : Nat} (m0 : 0 < M) (m1 : M < 2 ^ 48) {qs : List Rat} (h : SideT M (.tup (qs.map frT))) (hp : ∀ q ∈ qs, 0 < q.num) : Bw qs := by
  have hl := h.ln
  simp only [Th.len, List.length_map] at hl
  refine ⟨hl, ⟨M, ⟨m0, fun q hq => ?_⟩, m1⟩, fun q hq => ?_⟩
  · obtain ⟨_, h2⟩ := h.el _ rfl (frT q) (List.mem_map_of_mem hq)
    have := (h2 q.num (q.den : Nat) rfl).2.2 (amt_iff.mpr ⟨q, rfl, hp q hq⟩)
    simpa using this
  · obtain ⟨_, h2⟩ := h.el _ rfl (frT q) (List.mem_map_of_mem hq)
    exact Nat.lt_trans (h2 q.num (q.den : Nat) rfl).1 (Nat.pow_lt_pow_right (by decide) (by decide))
theorem Bw.bd {qs : List Rat} (h : Bw qs) : Bd 8000 qs := by
  obtain ⟨h1, ⟨M, h2, h3⟩, h4⟩ := h
  exact ⟨h1, ⟨M, h2, Nat.lt_trans h3 (Nat.pow_lt_pow_right (by decide) (by decide))⟩, fun q hq => Nat.lt_trans (h4 q hq) (Nat.pow_lt_pow_right (by decide) (by decide))⟩
abbrev cStrI : List V → Hp → VK → Prop := fun xs H Q => ∃ i, xs = [.int i] ∧ i.natAbs.log2 < 1920 ∧ Q (.str (toString i)) H
end QW

namespace PySem
open Sem (wp)
open AutoSeq1 (wpAny_loadPart')
/-! ### enumerate(v) of a tuple -/
theorem meets_enumerate_new1 {v : Value} {o : Obj} {H : Heap → Prop} (B : Begins v o H) :
    Meets (Builtin.«enumerate.__new__» ⟨[.type "enumerate", v], []⟩) (fun _ R s => H s.heap ∧
      R (.ok (.ret (.ref (s.heap.push o).objs.size))) { s with heap := (s.heap.push o).push { cls := .type "enumerate", data := .fields #[.none, .bool false, .ref s.heap.objs.size, rawInt 0, .none, .none] } }) :=
  .of_wp fun prog w A R s h => by
    obtain ⟨hp, g, d, tk, os⟩ := s; obtain ⟨h1, h⟩ := h
    have hsub := sub_enumerate
    have q1 : ∀ {A' : Around} {E : Value → Shared → Prop} {Q : Value → Shared → Prop}, Q (.ref hp.objs.size) ⟨hp.push o, g, d, tk, os⟩ → wpAny (model prog w) A' (pyIter v) Q E ⟨hp, g, d, tk, os⟩ :=
      fun q => B.iter prog w _ _ ⟨hp, g, d, tk, os⟩ _ h1 q
    wp_walk using q1
    refine wpAny_stack_any fun st => wpAny_pure ?_
    split
    · rename_i c _ _ _ _ _
      cases (c == Value.type "enumerate")
      · wp_walk using q1
        exact ⟨_, rfl, h⟩
      · wp_walk using q1
        exact ⟨_, rfl, h⟩
    · wp_walk using q1
      exact ⟨_, rfl, h⟩
section
variable {prog : Program} {w : World} {A : Around} {E : Value → Shared → Prop} {s : Shared}
theorem enum_begins1 {v : Value} {o : Obj} {H : Heap → Prop} {Q : Value → Shared → Prop} (B : Begins v o H) (h1 : H s.heap)
    (h : ∀ h', IsEnum h' (s.heap.objs.size + 1) s.heap.objs.size 0 .none → h'.get? s.heap.objs.size = some o → h'.objs.size = s.heap.objs.size + 2 →
      (∀ b o, s.heap.get? b = some o → h'.get? b = some o) → Q (.ref (s.heap.objs.size + 1)) { s with heap := h' }) :
    wpAny (model prog w) A (call (.type "enumerate") [v]) Q E s := by
  refine callType_new F.called_enumerate (by decide) (F.typeCall_enumerate_1 _) (F.newCall_enumerate_1 _) (fun obj => F.args_object_init_2 obj _) F.entry_enumerate_new
    (meets_enumerate_new1 B) ⟨h1, ?_⟩
  have hz : (s.heap.push o).objs.size = s.heap.objs.size + 1 := Heap.size_push ..
  show _ ∧ _
  rw [hz]
  have he : IsEnum ((s.heap.push o).push { cls := .type "enumerate", data := .fields #[.none, .bool false, .ref s.heap.objs.size, rawInt 0, .none, .none] }) (s.heap.objs.size + 1) s.heap.objs.size 0 .none := by
    have := Heap.get?_push_size (s.heap.push o) (o := { cls := .type "enumerate", data := .fields #[.none, .bool false, .ref s.heap.objs.size, rawInt 0, .none, .none] }) rfl
    rw [hz] at this; exact this
  refine ⟨⟨_, he, rfl⟩, h _ he (Heap.get?_push_of_some _ (Heap.get?_push_size _ B.free)) (by rw [Heap.size_push, hz]) fun b o x => Heap.get?_push_of_some _ (Heap.get?_push_of_some _ x)⟩
end
end PySem
namespace L2
open PySem PySem.Spec PyProof.Rows
/-- the tuple at a, each item in a new pair with its place -/
def Itet (K : PySem.W.Frag) (a : Addr) : It :=
  ⟨fun i H => ∃ (xs : List V) (x : V), SqT K H a xs ∧ xs[i]? = some x, fun i H v H' => ∃ T x, v = .ref T ∧ H T = none ∧ H' = upd H T (.tup [.int (i : Nat), x]) ∧ ∀ xs, SqT K H a xs → xs[i]? = some x, fun i H => ∃ xs : List V, SqT K H a xs ∧ xs.length ≤ i⟩
theorem turn_enumT {P : Program} {w : World} {K : PySem.W.Frag} {elts : List Expr} {kk : Nat} {tpos : Pos} (a e it : Addr) :
    Turn P w K (.Tuple elts kk tpos) (Itet K a) [e, it] e (fun i h => (∃ old, IsEnum h e it ((i : Nat) : Int) old) ∧ h.IsTupleIter it a i ∧ e ≠ it) where
  mem := by simp
  obj := fun i h st b hb => by
    obtain ⟨⟨old, he⟩, ⟨o, ho, hc, hd⟩, _⟩ := st
    have e' : b = e ∨ b = it := by simpa using hb
    rcases e' with z | z
    · rw [z]; exact ⟨_, he, fun v q => nomatch q⟩
    · rw [z]; exact ⟨o, ho, fun v q => by rw [hd] at q; cases q⟩
  keep := fun i h h' st k => let ⟨⟨old, he⟩, hi, hne⟩ := st; ⟨⟨old, k e (by simp) _ he⟩, hi.at fun o q => k it (by simp) o q, hne⟩
  item := by
    intro X hP hw hK hc i pins s σ H E I hf st hg
    subst hP hw hK
    obtain ⟨⟨old, he⟩, hit, hne⟩ := st
    obtain ⟨xs, x, hq, hx⟩ := hg
    obtain ⟨its, rv, p, hz⟩ := I.tuple hq
    obtain ⟨u, hu, ru⟩ := rv.get hx
    have hel : e < s.heap.objs.size := Heap.lt_size he
    have hil : it < s.heap.objs.size := by obtain ⟨_, q, _⟩ := hit; exact Heap.lt_size q
    have hia : a ≠ it := by
      rintro rfl
      obtain ⟨o1, q1, c1, _⟩ := hit
      obtain ⟨o2, q2, c2, _⟩ := p
      rw [q1] at q2
      cases q2
      rw [c1] at c2
      exact absurd c2 (by decide)
    have hea : e ≠ a := by
      rintro rfl
      obtain ⟨o2, q2, c2, _⟩ := p
      rw [he] at q2
      cases q2
      exact absurd (show Value.type "enumerate" = Value.type "tuple" from c2) (by decide)
    have D := Draws.tuple (prog := X.prog) (w := X.w) (A := X.A.in1) (show X.A.in1.handled = none from I.ok.hd hc) it a hia its.toArray
    have hlt : i < its.toArray.size := by
      rw [List.size_toArray]
      exact (List.getElem?_eq_some_iff.mp hu).1
    refine wpAny_pyNext_enum_itemD D he ⟨hit, p⟩ hlt hne (by simp [hne, hea]) fun x' h' tk hP ho hst hT hsz hk => ?_
    have hxu : x' = u := by
      have e1 : its.toArray[i]? = some u := by simpa using hu
      rw [e1] at hP
      exact (Option.some.inj hP).symm
    subst hxu
    obtain ⟨hit', _⟩ := hst
    refine ⟨_, rfl, wpAny_letOwnedTupleGo_enum (s := { s with heap := h', toks := tk + 1 }) ho fun h'' he' sb => ?_⟩
    have hT2 : h''.get? s.heap.objs.size = some { cls := .type "tuple", data := .seq #[.int i tk, x'] } := (sb.2 _ (Nat.ne_of_gt hel)).trans hT
    have new : ObjOk X.prog X.w (upd H s.heap.objs.size (.tup [.int (i : Nat), x])) h'' s.heap.objs.size (.tup [.int (i : Nat), x]) :=
      ⟨by show 2 ≤ sizeLine; decide, [.int i tk, x'], .cons ⟨_, rfl⟩ (.cons ru .nil), ⟨_, hT2, rfl, _, rfl⟩⟩
    have I1 : Inv X pins σ (upd H s.heap.objs.size (.tup [.int (i : Nat), x])) { s with heap := h'', toks := tk + 1 } :=
      I.turnedNew (ch := [e, it]) (fun b ob hb q => (sb.2 b (fun z => hb (by simp [z]))).trans (hk b ob (fun z => hb (by simp [z])) (fun z => hb (by simp [z])) q)) hf (Nat.le_refl _) new
    refine ⟨.ref s.heap.objs.size, _, I1, rfl, ⟨_, x, rfl, I.hok.fresh (Nat.le_refl _), rfl, fun ys hy => by rw [I.tuple_inj hy hq]; exact hx⟩, ⟨⟨x', ?_⟩, hit'.at fun o q => (sb.2 it (Ne.symm hne)).trans q, hne⟩, fun b hb => ?_⟩
    · have e1 : ((i + 1 : Nat) : Int) = (i : Int) + 1 := by omega
      rw [e1]; exact he'
    · have hb' : b < s.heap.objs.size := by
        have e' : b = e ∨ b = it := by simpa using hb
        rcases e' with z | z
        · rw [z]; exact hel
        · rw [z]; exact hil
      rw [upd_ne (Nat.ne_of_lt hb')]
      exact (hf b hb).1
  done := by
    intro X hP hw hK hc i pins s σ H E I hf st hg
    subst hP hw hK
    obtain ⟨⟨old, he⟩, hit, hne⟩ := st
    obtain ⟨xs, hq, hx⟩ := hg
    obtain ⟨its, rv, p, hz⟩ := I.tuple hq
    obtain ⟨f0, f1, f2, f3, f4, f5⟩ := hf it (by simp)
    have hl := rv.length
    have hia : a ≠ it := by
      rintro rfl
      obtain ⟨o1, q1, c1, _⟩ := hit
      obtain ⟨o2, q2, c2, _⟩ := p
      rw [q1] at q2
      cases q2
      rw [c1] at c2
      exact absurd c2 (by decide)
    have D : Draws X.prog X.w X.A.in1 it [it, a] i (fun _ _ => False) (fun j h => j = i ∧ h.IsTupleIter it a j ∧ h.IsTuple a its.toArray) :=
      { live := fun _ _ st => let ⟨_, ⟨o, ho, _⟩, _⟩ := st; ⟨o, ho⟩
        frame := fun _ _ _ st hk => ⟨st.1, st.2.1.at fun o e => hk it (by simp) o e, st.2.2.at fun o e => hk a (by simp) o e⟩
        item := fun j s Q E hi st hQ => absurd st.1 (by omega)
        done := fun s Q E st hE => wpAny_nextOf_tuple_end (show X.A.in1.handled = none from I.ok.hd hc) st.2.1 st.2.2 (by simp; omega) hE }
    exact wpAny_pyNext_enum_endD D he ⟨rfl, hit, p⟩ fun h' eb => ⟨rfl, I.turned (t' := s.toks) (fun b o hb q => eb b o hb q) f0 f1 f3 f4 f5⟩
  self := fun A i s Q E st h => let ⟨⟨_, he⟩, _⟩ := st; wpAny_pyIter_enum he h
def iEnumT (K : PySem.W.Frag) (ta : TA) : TI := fun σ H R => ta σ H fun vs H1 => ∃ a xs, vs = [.ref a] ∧ SqT K H1 a xs ∧ R (Itet K a) H1
theorem pi_enumT {X : Cx} {e : Expr} {ta : TA} {p pos tpos : Pos} {elts : List Expr} {kk : Nat} (hg : Gl X "enumerate") (hm : X.mg "enumerate" = none) (ha : PA X [e] ta) (hs : starEach [e] X.env = [(false, eval e X.env)] := by rfl) :
    PI X (.Tuple elts kk tpos) (.Call (.Name "enumerate" p) [e] [] pos) (iEnumT X.K ta) := by
  refine ⟨fun pins s σ H R I h => ?_⟩
  refine Call_ (ld_blt I hg hm boot_enumerate (PyProof.Rows.callWith_type1 (thn (ha.run pos pins s σ H _ I h) fun us s1 ⟨vs, H1, I1, r1, q1⟩ => ?_) hs rfl))
  obtain ⟨a, xs, ex, hq, q⟩ := q1
  subst ex
  cases r1 with
  | cons r rr =>
    cases rr
    cases r
    obtain ⟨its, rv, p', hz⟩ := I1.tuple hq
    refine enum_begins1 (begins_tuple a its.toArray) p' fun h' he hit hsz hk => wpAny_pyIter_enum he ?_
    have I2 : Inv X pins σ H1 { s1 with heap := h' } := I1.kept (t' := s1.toks) hk
    refine ⟨s1.heap.objs.size + 1, [s1.heap.objs.size + 1, s1.heap.objs.size], _, _, H1, rfl, I2, turn_enumT a (s1.heap.objs.size + 1) s1.heap.objs.size, ⟨⟨.none, he⟩, ⟨_, hit, rfl, rfl⟩, Nat.succ_ne_self _⟩, fun b hb => ?_, q⟩
    have e' : b = s1.heap.objs.size + 1 ∨ b = s1.heap.objs.size := by simpa using hb
    have hle : s1.heap.objs.size ≤ b := by
      rcases e' with z | z
      · rw [z]; exact Nat.le_add_right _ _
      · rw [z]; exact Nat.le_refl _
    exact I1.fpOk hle (I1.hok.fresh hle)
theorem walk_enumT {K : PySem.W.Frag} {a : Addr} {xs : List V} : Walk (Itet K a) xs.length (fun H => SqT K H a xs) (YPair (fun i => some (.int (i : Nat))) (fun i => xs[i]?)) := by
  refine ⟨fun i _ hi q => ⟨xs, xs[i], q, by simp [hi]⟩, fun _ q => ⟨xs, q, Nat.le_refl _⟩, fun i H v H' _ q y => ?_⟩
  obtain ⟨T, x, h1, h2, h3, h4⟩ := y
  exact ⟨T, .int (i : Nat), x, h1, h2, h3, rfl, h4 xs q⟩
/-! ### sorted(xs), xs read as data -/
/-- xs, each with what it reads as -/
def rSortedD (K : PySem.W.Frag) : List V → Hp → VK → Prop := fun vs H Q => ∃ (a : Addr) (bs : List (V × PyData)), vs = [V.ref a] ∧ SqL K H a (bs.map Prod.fst) ∧ (∀ b ∈ bs, Dp K H b.1 b.2) ∧ PySem.W.AllAlike (bs.map Prod.snd) ∧ PySem.W.Sortable (bs.map Prod.snd) ∧ (∀ b ∈ bs, b.2.depth ≤ 8) ∧
  ∀ p, H p = none → Q (.ref p) (upd H p (.lst ((bs.mergeSort (PySem.W.dataLe false Prod.snd)).map Prod.fst)))
theorem each_vals {bs : List (V × PyData)} {us : List Value} (h : PySem.W.EachIs (fun u b => RelV b.1 u) us bs) : Vals (bs.map Prod.fst) us := by
  induction h with
  | nil => exact .nil
  | cons h _ ih => exact .cons h ih
theorem vals_each : ∀ {bs : List (V × PyData)} {us : List Value}, Vals (bs.map Prod.fst) us → PySem.W.EachIs (fun u b => RelV b.1 u) us bs
  | [], [], _ => .nil
  | [], _ :: _, h => by cases h
  | _ :: _, [], h => by cases h
  | b :: bs, u :: us, h => by
    cases h with
    | cons h1 h2 => exact .cons h1 (vals_each h2)
theorem each_reads {X : Cx} {pins : List (Addr × Obj)} {σ : St} {H : Hp} {s : Shared} (I : Inv X pins σ H s) : ∀ {bs : List (V × PyData)} {us : List Value}, Vals (bs.map Prod.fst) us → (∀ b ∈ bs, Dp X.K H b.1 b.2) → PySem.W.EachIs (fun u b => ∃ as, Reads s.heap u b.2 as) us bs
  | [], [], _, _ => .nil
  | [], _ :: _, h, _ => by cases h
  | _ :: _, [], h, _ => by cases h
  | b :: bs, u :: us, h, hd => by
    cases h with
    | cons h1 h2 => exact .cons (Dp.reads I _ _ _ (hd b List.mem_cons_self) h1) (each_reads I h2 fun c hc => hd c (List.mem_cons_of_mem _ hc))
theorem cr_sortedD {X : Cx} (hu : X.A.units + 64 < cLine) : CallR X (.builtin "sorted") (rSortedD X.K) := by
  intro pins s σ H vs us Q I r h
  obtain ⟨a, bs, rfl, hs, hd, ha, hk, hdep, q⟩ := h
  obtain ⟨its, rv, hl, hz⟩ := I.list hs
  rw [Vals.ref1 r]
  have hz' : bs.length ≤ sizeLine := by rw [List.length_map] at hz; exact hz
  refine PySem.W.sorted_data (enc := Prod.snd) hl.isList (vals_each rv) (each_reads I rv hd) ha hk hz' (fun b hb => by have := hdep b hb; omega) fun out hlen he => ?_
  obtain ⟨ep, he'⟩ := PyProof.Rows.sortedAll_at s.heap its out.toArray
  refine ⟨.ref _, upd H (s.heap.objs.size + 1) (.lst _), I.laid (t' := s.toks) (fun _ _ => PyProof.Rows.sortedAll_old) (Nat.le_succ _) ⟨?_, out, ep, each_vals he, he'⟩, rfl, q _ (I.hok.fresh (Nat.le_succ _))⟩
  rw [List.length_map, List.length_mergeSort]
  exact hz'
end L2
namespace L2
open PySem PySem.Spec PyProof.Rows
section
variable {P : Program} {w : World} {A : Around} {E : Value → Shared → Prop} {s : Shared}
/-! ### set(xs), xs a list of ints; sorted(set(xs)) -/
abbrev newSet (w : World) : Obj := { cls := .type "set", dict := none, data := .set #[] 0 (.fresh 0 0 (!w.params.followText "set-order")) }
theorem set_of_ints {l : Addr} {items : Array Value} (ns : List Int) {Q : Value → Shared → Prop} (hh : A.handled = none) (hl : s.heap.IsList l items) (hit : IntsAre items.toList ns) (hb : ns.length + 1 < scanBound)
    (h : ∀ (h' : Heap) (tk c : Nat), SetR w h' s.heap.objs.size (fun j => decide (j ∈ ns)) c → c ≤ ns.length → (∀ b o, s.heap.get? b = some o → h'.get? b = some o) → Q (.ref s.heap.objs.size) { s with heap := h', toks := tk }) :
    wpAny (model P w) A (call (.type "set") [.ref l]) Q E s := by
  have hisz : items.size = ns.length := by
    have q := IntsAre.length hit
    rwa [Array.length_toList] at q
  obtain ⟨c, tl, hmro⟩ := F.called_set.mro
  have hmade := F.called_set.made
  have hsub := F.called_set.sub
  have hnt := F.called_set.notType
  have hcc := F.called_set.canCreate
  have hct := F.typeCall_set_1 (.ref l)
  refine wpAny_call (codeAny_of_tree ?_)
  show wpAny _ _ (callAny (.type "set") _) _ _ _
  refine wpAny_pure ⟨Code.quiet_builtin _ (by decide +kernel), codeAny_builtin F.entry_type_call ?_⟩
  rw [Around.under_plain (weight_type_call_type "set" [.ref l] []) rfl]
  repeat (any_goals (first | assumption | wp_step))
  refine codeAny_mono (code_set_led1 (.ref l) (E := E) (Q₁ := fun obj s₁ => obj = .ref s.heap.objs.size ∧ s₁ = { s with heap := s.heap.push (newSet w) }) ⟨rfl, rfl⟩) fun r s₁ hr => ?_
  match r, hr with
  | .error e, hr => exact hr
  | .ok .next, hr => exact hr.elim
  | .ok .brk, hr => exact hr.elim
  | .ok .cont, hr => exact hr.elim
  | .ok (.ret obj), hr =>
    obtain ⟨rfl, rfl⟩ := hr
    have hS : (s.heap.push (newSet w)).get? s.heap.objs.size = some (newSet w) := Heap.get?_push_size _ rfl
    have hT : Shared.TypeIs { s with heap := s.heap.push (newSet w) } (.ref s.heap.objs.size) "set" := ⟨_, hS, rfl⟩
    have hli := F.called_set.init.lookup
    have hbi := F.called_set.init.bind (.ref s.heap.objs.size)
    repeat (any_goals (first | assumption | wp_step))
    refine codeAny_mono (codeAny_call_builtin (R := wants (fun r s₂ => r = .none ∧ ∃ h' tk c, s₂ = { s with heap := h', toks := tk } ∧ SetR w h' s.heap.objs.size (fun j => decide (j ∈ ns)) c ∧ c ≤ ns.length ∧
      (∀ b o, s.heap.get? b = some o → h'.get? b = some o)) E) F.called_set.init.plain F.entry_set_init (check_set_init_1 hT ?_)) fun r₂ s₂ hr₂ => ?_
    · obtain ⟨⟨ocls, odict, odata, oslots⟩, hol, hcl, nl, hdl⟩ := hl
      simp only at hcl hdl
      subst hcl hdl
      have hol' : (s.heap.push (newSet w)).get? l = some { cls := .type "list", dict := odict, data := .seq items nl, slots := oslots } := Heap.get?_push_of_some _ hol
      have hsls := F.sub_list_set
      have hslf := F.sub_list_frozenset
      have hne : (Value.type "list" == Value.type "dict") = false := by decide
      have hl1 : (s.heap.push (newSet w)).IsList l items := ⟨_, hol', rfl, nl, rfl⟩
      have hlS : l < s.heap.objs.size := Heap.lt_size hol
      have hz : (s.heap.push (newSet w)).objs.size = s.heap.objs.size + 1 := Heap.size_push ..
      unfold Builtin.«set.__init__» noKeywords Builtin.Frozenset.updateFrom
      generalize hPI : pyIter = PI
      wp_walk
      subst hPI
      refine wpAny_pyIter_list hl1 (wpAny_bind (wpAny_runValue ?_))
      have hneI : l ≠ (s.heap.push (newSet w)).objs.size := by rw [hz]; exact Nat.ne_of_lt (Nat.lt_succ_of_lt hlS)
      have hSf : s.heap.objs.size ∉ [(s.heap.push (newSet w)).objs.size, l] := by
        rw [hz]; simp only [List.mem_cons, List.not_mem_nil, or_false, not_or]; exact ⟨Nat.ne_of_lt (Nat.lt_succ_self _), Nat.ne_of_gt hlS⟩
      refine set_update_ints ((Walks.list (show A.in1.in1.in1.handled = none by simp [hh]) _ l hneI items).toS) s.heap.objs.size hSf ns hisz hb (fun i v hv => ?_) (items.size - 0) 0 _ (by omega) (Nat.zero_le _)
        ⟨⟨_, Heap.get?_push_size _ rfl, rfl, rfl⟩, hl1.push _⟩ ⟨0, Nat.le_refl 0, setR_new_at (Heap.get?_push_of_some _ hS)⟩ ?_
      · have hi : i < ns.length := by rw [← hisz]; exact (Array.getElem?_eq_some_iff.mp hv).1
        obtain ⟨t, e⟩ := PyProof.Rows.IntsAre.int_at hit i v (by rw [Array.getElem?_toList]; exact hv)
        exact ⟨ns[i], t, List.getElem?_eq_getElem hi, by rw [e, List.getD_eq_getElem?_getD, List.getElem?_eq_getElem hi]; rfl⟩
      · intro s' c' hm hc' hS'
        obtain ⟨h', g2, d', tk', os'⟩ := s'
        have eg : g2 = s.gens := hm.gens
        have ed : d' = s.drawn := hm.drawn
        have eo : os' = s.os := hm.os
        subst eg ed eo
        show wpAny _ _ _ _ _ _
        refine wpAny_pure ?_
        show wpAny _ _ (ret Value.none) _ _ _
        refine wpAny_pure ⟨rfl, h', tk', c', rfl, hS', by omega, fun b o e => ?_⟩
        have hb0 : b < s.heap.objs.size := Heap.lt_size e
        refine hm.heap b o ?_ (Heap.get?_push_of_some _ (Heap.get?_push_of_some _ e))
        rw [hz]; simp only [List.mem_cons, List.not_mem_nil, or_false, not_or]; exact ⟨Nat.ne_of_lt hb0, Nat.ne_of_lt (Nat.lt_succ_of_lt hb0)⟩
    · match r₂, hr₂ with
      | .error e, hr₂ => exact hr₂
      | .ok .next, hr₂ => exact hr₂.elim
      | .ok .brk, hr₂ => exact hr₂.elim
      | .ok .cont, hr₂ => exact hr₂.elim
      | .ok (.ret r), hr₂ =>
        obtain ⟨rfl, h', tk, c', rfl, hS', hc', hk'⟩ := hr₂
        repeat (any_goals (first | assumption | wp_step))
        exact h _ _ _ hS' hc' hk'
end
def rSetI (K : PySem.W.Frag) (w : World) : List V → Hp → VK → Prop := fun vs H Q => ∃ (a : Addr) (ns : List Int), vs = [V.ref a] ∧ SqL K H a (ns.map V.int) ∧ ns.length ≤ 1000 ∧
  ∀ p n, n ≤ ns.length → H p = none → Q (.ref p) (upd H p (SetO w p (fun j => decide (j ∈ ns)) n))
theorem cr_setI {X : Cx} (hc : X.calm = true) : CallR X (.type "set") (rSetI X.K X.w) := by
  intro pins s σ H vs us Q I r h
  obtain ⟨a, ns, rfl, hs, hl, q⟩ := h
  obtain ⟨its, rv, pl, hz⟩ := I.list hs
  rw [Vals.ref1 r]
  refine set_of_ints ns (I.ok.hd hc) pl.isList (by simpa using rv.ints) (by unfold scanBound; omega) fun h' tk c R hcn k => ?_
  exact ⟨.ref _, upd H s.heap.objs.size (SetO X.w _ _ c), I.laid (t' := tk) k (Nat.le_refl _) (setO_new R), rfl, q _ c hcn (I.hok.fresh (Nat.le_refl _))⟩
end L2
namespace L2
open PySem PySem.Spec PyProof.Rows
/-- sorted(set(xs)), xs a list of ints -/
def tSortSet (K : PySem.W.Frag) (ta : TE) : TE := fun σ H Q => ta σ H fun x H1 => ∃ (a : Addr) (ns : List Int), x = .ref a ∧ SqL K H1 a (ns.map V.int) ∧ ns.length < 64 ∧
  ∀ (ns' : List Int) (p : Addr) (H' : Hp), ns'.length ≤ ns.length → ns'.Pairwise (· < ·) → (∀ k, k ∈ ns' ↔ k ∈ ns) → H1 p = none → (∀ b o, H1 b = some o → H' b = some o) → H' p = some (.lst (ns'.map V.int)) → Q (.ref p) H'
theorem pe_sortSet {X : Cx} {a : Expr} {ta : TE} {p p2 q pos : Pos} (hc : X.calm = true) (hg : Gl X "sorted") (hm : X.mg "sorted" = none) (hg2 : Gl X "set") (hm2 : X.mg "set" = none) (ha : PE X a ta)
    (na : starEach [a] X.env = (false, eval a X.env) :: starEach [] X.env := by rfl) : PE X (.Call (.Name "sorted" p) [.Call (.Name "set" p2) [a] [] q] [] pos) (tSortSet X.K ta) := by
  refine ⟨fun pins s σ H Q I h => ?_⟩
  refine Call_ (ld_blt I hg hm PyProof.Rows.boot_sorted ?_)
  refine PyProof.Rows.callWith_builtin1 (PyProof.Rows.args_cons ?_ rfl) rfl rfl
  refine Call_ (ld_blt I hg2 hm2 PyProof.Rows.boot_set ?_)
  refine PyProof.Rows.callWith_type1 (PyProof.Rows.args_cons (thn (ha.run pins s σ H _ I h) fun v s1 ⟨x, H1, I1, r1, q1⟩ => PyProof.Rows.args_nil ?_) na) na rfl
  obtain ⟨l, ns, rfl, hq, h1, q1⟩ := q1
  refine thn (cr_setI (X := X) hc pins s1 σ H1 [.ref l] [v] (fun w H2 => ∃ p n, n ≤ ns.length ∧ w = .ref p ∧ H1 p = none ∧ H2 = upd H1 p (SetO X.w p (fun j => decide (j ∈ ns)) n)) I1 (.cons r1 .nil) ⟨l, ns, rfl, hq, by omega, fun p n hn hp => ⟨p, n, hn, rfl, hp, rfl⟩⟩) fun u s2 ⟨y, H2, I2, r2, b, n, hn, ey, hb, eH⟩ => PyProof.Rows.args_nil ?_
  subst ey eH
  refine cr_sortedSet hc pins s2 σ _ [.ref b] [u] Q I2 (.cons r2 .nil) ⟨b, _, n, rfl, upd_same, by omega, fun ns' p hp hm' hl hn' => ?_⟩
  have hpb : p ≠ b := fun e => by rw [e, upd_same] at hn'; cases hn'
  have hp1 : H1 p = none := by rw [upd_ne hpb] at hn'; exact hn'
  refine q1 ns' p _ (by omega) hp (fun k => by rw [hm' k, decide_eq_true_eq]) hp1 (fun c o e => ?_) upd_same
  rw [upd_ne (ne_of_none e hp1), upd_ne (ne_of_none e hb)]
  exact e
end L2

namespace QW
open PySem L2
section
variable {K : PySem.W.Frag} {H : Hp} {σ : St} {Q : VK} {D : Ends}
/-! ### for a, b in enumerate(tuple) -/
def EnBody (J : It) (g : TG) (tb : TS) (D : Ends) (σ : St) (H1 : Hp) : Prop := ∃ W : Nat → Nat → St → Hp → Prop, (∃ m, W 0 m σ H1) ∧ ∀ i m σ H, W i m σ H →
  (J.stop i H ∧ D.nx σ H) ∨ (J.go i H ∧ ∃ N : St → Hp → Prop, (∀ σ' H', N σ' H' → ∃ m', m' < m ∧ W (i + 1) m' σ' H') ∧ ∀ x H', J.yld i H x H' → g x σ H' fun σ2 H2 => tb { D with nx := N, ct := N, bk := D.nx } σ2 H2)
def ForET (K : PySem.W.Frag) (g : TG) (tb : TS) (D : Ends) (σ : St) (x : V) (H1 : Hp) : Prop := ∃ a xs, [x] = [V.ref a] ∧ SqT K H1 a xs ∧ EnBody (Itet K a) g tb D σ H1
theorem i_forET {te : TE} {g : TG} {tb : TS} (h : te σ H fun x H1 => ForET K g tb D σ x H1) : tFor (iEnumT K (tCons te tNil)) g tb D σ H := h
theorem forET_of {g : TG} {tb : TS} {a : Addr} {xs : List V} (ha : H a = some (.tup xs)) (Pv : Nat → St → Hp → Prop) (Bk : St → Hp → Prop) (h0 : Pv 0 σ H) (hl : ∀ i σ H', Pv i σ H' → H' a = some (.tup xs))
    (hs : ∀ (i : Nat) (x : V) (T : Addr) (σ : St) (H H' : Hp) (N B : St → Hp → Prop), xs[i]? = some x → Pv i σ H → H T = none → Same H H' → H' T = some (.tup [.int (i : Nat), x]) → (∀ σ H, Pv (i + 1) σ H → N σ H) → (∀ σ H, Bk σ H → B σ H) →
      g (.ref T) σ H' fun σ2 H2 => tb { D with nx := N, ct := N, bk := B } σ2 H2)
    (hd : ∀ σ H, Pv xs.length σ H → D.nx σ H) (hb : ∀ σ H, Bk σ H → D.nx σ H) : ForET K g tb D σ (.ref a) H := by
  refine ⟨a, xs, rfl, SqT.of ha, for_it (walk_enumT (K := K) (a := a) (xs := xs)) Pv h0 (fun i σ H' _ p => SqT.of (hl i σ H' p)) (fun i x σ H1 H' hi p y => ?_) hd⟩
  obtain ⟨T, u, v, rfl, hT, rfl, e1, e2⟩ := y
  cases e1
  exact hs i v T σ H1 _ (Pv (i + 1)) D.nx e2 p hT (same_upd hT) upd_same (fun _ _ q => q) hb
theorem i_gtup12 {a b : Addr} {x y z : V} {i j k : Nat} {QG : St → Hp → Prop} (h : H a = some (.tup [x, .ref b])) (h2 : H b = some (.tup [y, z])) (q : QG (((σ.set i (some x)).set j (some y)).set k (some z)) H) : gTup K 2 (gCons (gName i) (gCons (gTup K 2 (gCons (gName j) (gCons (gName k) gNil))) gNil)) (.ref a) σ H QG :=
  ⟨a, [x, .ref b], rfl, SqT.of h, rfl, x, [.ref b], rfl, .ref b, [], rfl, b, [y, z], rfl, SqT.of h2, rfl, y, [z], rfl, z, [], rfl, rfl, rfl, q⟩
/-! ### [.. for a, b in enumerate(list) if ..] -/
def LcE (K : PySem.W.Frag) (g : TG) (tt : TT) (te : TE) (vs : List Nat) (σ : St) (Q : VK) (x : V) (H1 : Hp) : Prop := ∃ a xs, [x] = [V.ref a] ∧ SqL K H1 a xs ∧ ∀ D, H1 D = none → ∃ W : Nat → Nat → Hp → Prop, (∃ m, W 0 m (upd H1 D (.lst []))) ∧ ∀ i m H, W i m H →
  ((Ite K a).stop i H ∧ Q (.ref D) H) ∨ ((Ite K a).go i H ∧ ∃ Nx : Hp → Prop, (∀ H', Nx H' → ∃ m', m' < m ∧ W (i + 1) m' H') ∧ ∀ x H', (Ite K a).yld i H x H' → g x (wipe σ vs) H' fun σ2 H2 => wipe σ2 vs = wipe σ vs ∧ tt σ2 H2 fun b H3 =>
    if b = true then te σ2 H3 fun y H4 => ∃ acc, H4 D = some (.lst acc) ∧ acc.length < sizeLine ∧ Nx (upd H4 D (.lst (acc ++ [y]))) else Nx H3)
theorem i_lcE {tl te : TE} {tt : TT} {g : TG} {vs : List Nat} (h : tl σ H fun x H1 => LcE K g tt te vs σ Q x H1) : tLc (iEnum K (tCons tl tNil)) g tt te vs σ H Q := h
def selV (f : Nat → V → Option V) (xs : List V) (n : Nat) : List V := (List.range n).filterMap fun j => (xs[j]?).bind (f j)
theorem selV_succ {f : Nat → V → Option V} {xs : List V} {n : Nat} {x : V} (h : xs[n]? = some x) : selV f xs (n + 1) = selV f xs n ++ (f n x).toList := by
  unfold selV
  rw [List.range_succ, List.filterMap_append]
  congr 1
  cases e : f n x <;> simp [List.filterMap_cons, h, e]
theorem selV_len {f : Nat → V → Option V} {xs : List V} {n : Nat} : (selV f xs n).length ≤ n := by
  unfold selV
  refine Nat.le_trans (List.length_filterMap_le _ _) ?_
  rw [List.length_range]; exact Nat.le_refl _
theorem lcE_of {g : TG} {tt : TT} {te : TE} {vs : List Nat} {a : Addr} {xs : List V} (f : Nat → V → Option V) (ha : H a = some (.lst xs)) (hz : xs.length ≤ 1000)
    (turn : ∀ (i : Nat) (x : V) (T : Addr) (H1 : Hp) (N : Hp → Prop) (NE : V → Hp → Prop), xs[i]? = some x → Same H H1 → H1 T = some (.tup [.int (i : Nat), x]) → (∀ y H3, f i x = some y → Same H1 H3 → NE y H3) → (∀ H3, f i x = none → Same H1 H3 → N H3) →
      g (.ref T) (wipe σ vs) H1 fun σ2 H2 => wipe σ2 vs = wipe σ vs ∧ tt σ2 H2 fun b H3 => if b = true then te σ2 H3 NE else N H3)
    (done : ∀ D H1, H D = none → Same H H1 → H1 D = some (.lst (selV f xs xs.length)) → Q (.ref D) H1) : LcE K g tt te vs σ Q (.ref a) H := by
  have e0 : sizeLine = 16777216 := PySem.sizeLine_eq
  refine ⟨a, xs, rfl, SqL.of ha, fun Dl hD => ?_⟩
  refine lc_it (walk_enum (K := K) (a := a) (xs := xs)) (fun i H1 => Same H H1 ∧ H1 Dl = some (.lst (selV f xs i))) ⟨same_upd hD, upd_same⟩ (fun i H' _ p => SqL.of (p.1 _ _ ha)) (fun i x H1 H' hi p y => ?_) (fun H' p => ?_)
  · obtain ⟨T, u, v, rfl, hT, rfl, e1, e2⟩ := y
    cases e1
    have s1 : Same H1 (upd H1 T (.tup [.int (i : Nat), v])) := same_upd hT
    have hl : (selV f xs i).length < sizeLine := by have := selV_len (f := f) (xs := xs) (n := i); omega
    have hDn : ∀ {H3 : Hp}, Same (upd H1 T (.tup [.int (i : Nat), v])) H3 → H3 Dl = some (.lst (selV f xs i)) := fun s3 => s3 _ _ (s1 _ _ p.2)
    have hS : ∀ {H3 : Hp}, Same (upd H1 T (.tup [.int (i : Nat), v])) H3 → Same H H3 := fun s3 => (p.1.trans s1).trans s3
    refine turn i v T _ _ _ e2 (p.1.trans s1) upd_same (fun y H3 ey s3 => ⟨_, hDn s3, hl, fun b o hb => ?_, ?_⟩) (fun H3 en s3 => ⟨hS s3, ?_⟩)
    · rw [upd_ne (ne_of_none hb hD)]; exact hS s3 _ _ hb
    · rw [upd_same, selV_succ e2, ey]; rfl
    · rw [hDn s3, selV_succ e2, en]; simp
  · exact done Dl H' hD p.1 p.2
/-! ### sorted(set(xs)) -/
def SortSetO (K : PySem.W.Frag) (x : V) (H1 : Hp) (Q : VK) : Prop := ∃ (a : Addr) (ns : List Int), x = .ref a ∧ SqL K H1 a (ns.map V.int) ∧ ns.length < 64 ∧
  ∀ (ns' : List Int) (p : Addr) (H' : Hp), ns'.length ≤ ns.length → ns'.Pairwise (· < ·) → (∀ k, k ∈ ns' ↔ k ∈ ns) → H1 p = none → (∀ b o, H1 b = some o → H' b = some o) → H' p = some (.lst (ns'.map V.int)) → Q (.ref p) H'
theorem i_sortSet {te : TE} (h : te σ H fun x H1 => SortSetO K x H1 Q) : tSortSet K te σ H Q := h
theorem sortSet_of {a : Addr} {ns : List Int} (h : H a = some (.lst (ns.map V.int))) (hn : ns.length < 64)
    (q : ∀ (ns' : List Int) (p : Addr) (H' : Hp), ns'.length ≤ ns.length → ns'.Pairwise (· < ·) → (∀ k, k ∈ ns' ↔ k ∈ ns) → H p = none → Same H H' → H' p = some (.lst (ns'.map V.int)) → Q (.ref p) H') : SortSetO K (.ref a) H Q := ⟨a, ns, rfl, SqL.of h, hn, q⟩
/-! ### sorted(xs), data -/
theorem i_sortedI {a : Addr} {ns : List Int} (h : H a = some (.lst (ns.map V.int))) (q : ∀ (ns' : List Int) (p : Addr) (H' : Hp), ns'.Perm ns → ns'.Pairwise (· ≤ ·) → H p = none → Same H H' → H' p = some (.lst (ns'.map V.int)) → Q (.ref p) H') : rSortedI K [.ref a] H Q :=
  ⟨a, ns, rfl, SqL.of h, fun ns' p h1 h2 hp => q ns' p _ h1 h2 hp (same_upd hp) upd_same⟩
theorem iml_zip : ∀ {xs : List V} {ds : List PyData}, ImL H xs ds → xs = (xs.zip ds).map Prod.fst ∧ ds = (xs.zip ds).map Prod.snd ∧ ∀ b ∈ xs.zip ds, Im H b.1 b.2
  | [], [], _ => ⟨rfl, rfl, fun _ h => by cases h⟩
  | x :: xs, d :: ds, h => by
    simp only [ImL] at h
    obtain ⟨h1, h2, h3⟩ := iml_zip h.2
    refine ⟨?_, ?_, fun b hb => ?_⟩
    · rw [List.zip_cons_cons, List.map_cons, ← h1]
    · rw [List.zip_cons_cons, List.map_cons, ← h2]
    · rw [List.zip_cons_cons] at hb
      rcases List.mem_cons.mp hb with rfl | hb
      · exact h.1
      · exact h3 b hb
  | [], _ :: _, h => by simp [ImL] at h
  | _ :: _, [], h => by simp [ImL] at h
theorem iml_of : ∀ {bs : List (V × PyData)}, (∀ b ∈ bs, Im H b.1 b.2) → ImL H (bs.map Prod.fst) (bs.map Prod.snd)
  | [], _ => by simp [ImL]
  | b :: bs, h => by
    simp only [List.map_cons, ImL]
    exact ⟨h b List.mem_cons_self, iml_of fun c hc => h c (List.mem_cons_of_mem _ hc)⟩
/-- the data of a sorted list: a permutation, ascending -/
theorem i_sortedD {a : Addr} {xs : List V} {ds : List PyData} (h : H a = some (.lst xs)) (hd : ImL H xs ds) (h1 : PySem.W.AllAlike ds) (h2 : PySem.W.Sortable ds) (h3 : ∀ d ∈ ds, d.depth ≤ 8)
    (q : ∀ (ys : List V) (p : Addr) (H' : Hp), H p = none → Same H H' → H' p = some (.lst ys) → ImL H' ys (ds.mergeSort (PySem.W.dataLe false id)) → Q (.ref p) H') : rSortedD K [.ref a] H Q := by
  obtain ⟨e1, e2, e3⟩ := iml_zip hd
  refine ⟨a, xs.zip ds, rfl, SqL.of (by rw [← e1]; exact h), fun b hb => Im.dp _ (e3 b hb), by rw [← e2]; exact h1, by rw [← e2]; exact h2, fun b hb => h3 _ (by rw [e2]; exact List.mem_map_of_mem hb), fun p hp => ?_⟩
  refine q _ p _ hp (same_upd hp) upd_same ?_
  have e4 : ((xs.zip ds).mergeSort (PySem.W.dataLe false Prod.snd)).map Prod.snd = ds.mergeSort (PySem.W.dataLe false id) := by
    rw [List.map_mergeSort (r := PySem.W.dataLe false Prod.snd) (s := PySem.W.dataLe false id) (f := Prod.snd) (fun _ _ _ _ => rfl), ← e2]
  rw [← e4]
  exact iml_of fun b hb => Im.mono (fun c ys e => same_upd hp c _ e) _ (e3 b (List.mem_mergeSort.mp hb))
end
end QW

namespace QW
open PySem L2
/-! ### marks: owers 0 .. n - 1, then takers; a pair makes both ends' marks one -/
def relab (n : Nat) (ms : List Int) (p : Nat × Nat) : List Int := ms.map fun x => if x = ms.getD (n + p.2) 0 then ms.getD p.1 0 else x
def marks0 (n : Nat) : List Int := (List.range n).map fun i => ((i : Nat) : Int)
def marksR (n m : Nat) (ps : List (Nat × Nat)) : List Int := ps.foldl (relab n) (marks0 (n + m))
def selR (ms : List Int) (w : Int) : List Nat := (List.range ms.length).filter fun i => ms.getD i 0 == w
def natsD (is : List Nat) : PyData := .tuple (is.map fun i => .int ((i : Nat) : Int))
def grpD (g : List Nat × List Nat) : PyData := .tuple [natsD g.1, natsD g.2]
def grpM (n : Nat) (ms : List Int) (w : Int) : List Nat × List Nat := (selR (ms.take n) w, selR (ms.drop n) w)
theorem relab_len {n : Nat} {ms : List Int} {p : Nat × Nat} : (relab n ms p).length = ms.length := List.length_map _
theorem fold_relab_len {n : Nat} {ps : List (Nat × Nat)} : ∀ {ms : List Int}, (ps.foldl (relab n) ms).length = ms.length := by
  induction ps with
  | nil => intro ms; rfl
  | cons p ps ih => intro ms; rw [List.foldl_cons, ih, relab_len]
theorem marksR_len {n m : Nat} {ps : List (Nat × Nat)} : (marksR n m ps).length = n + m := by
  unfold marksR; rw [fold_relab_len]; simp [marks0]
theorem relab_same {n : Nat} {ms : List Int} {p : Nat × Nat} (h : ms.getD p.1 0 = ms.getD (n + p.2) 0) : relab n ms p = ms := by
  unfold relab
  rw [h]
  conv => rhs; rw [← List.map_id ms]
  refine List.map_congr_left fun x _ => ?_
  show (if x = _ then _ else x) = x
  split
  · rename_i e; exact e.symm
  · rfl
theorem map_int_get {ms : List Int} {i : Nat} (h : i < ms.length) : (ms.map V.int)[i]? = some (.int (ms.getD i 0)) := by
  rw [List.getElem?_map, List.getD_eq_getElem?_getD, List.getElem?_eq_getElem h]; rfl
theorem sel_marks {ms : List Int} {w : Int} : selV (fun i x => if x = .int w then some (.int ((i : Nat) : Int)) else none) (ms.map V.int) (ms.map V.int).length = (selR ms w).map fun i => V.int ((i : Nat) : Int) := by
  unfold selV selR
  rw [List.length_map]
  have : ∀ n, n ≤ ms.length → (List.range n).filterMap (fun j => ((ms.map V.int)[j]?).bind ((fun i x => if x = V.int w then some (V.int ((i : Nat) : Int)) else none) j)) = ((List.range n).filter fun i => ms.getD i 0 == w).map fun i => V.int ((i : Nat) : Int) := by
    intro n
    induction n with
    | zero => intro _; rfl
    | succ n ih =>
      intro h
      rw [List.range_succ, List.filterMap_append, List.filter_append, List.map_append, ih (by omega)]
      congr 1
      simp only [List.filterMap_cons, List.filterMap_nil, List.filter_cons, List.filter_nil, map_int_get (show n < ms.length by omega), Option.bind_some, V.int.injEq]
      by_cases e : ms.getD n 0 = w
      · rw [if_pos e, if_pos (by simpa using e)]; rfl
      · rw [if_neg e, if_neg (by simpa using e)]; rfl
  exact this _ (Nat.le_refl _)
theorem iml_ints_eq {H : Hp} : ∀ {ys : List V} {ns : List Int}, ImL H ys (ns.map PyData.int) → ys = ns.map V.int
  | [], [], _ => rfl
  | y :: ys, n :: ns, h => by
    simp only [List.map_cons, ImL, Im] at h
    rw [h.1, iml_ints_eq h.2, List.map_cons]
  | [], _ :: _, h => by simp [ImL] at h
  | _ :: _, [], h => by simp [ImL] at h
theorem lcII_of {K : PySem.W.Frag} {σ : St} {H : Hp} {Q : VK} {g : TG} {te : TE} {vs : List Nat} {a : Addr} {ns : List Int} (f : Int → Int) (ha : H a = some (.lst (ns.map V.int))) (hz : ns.length ≤ 1000)
    (turn : ∀ (n : Int) (H1 : Hp) (N : V → Hp → Prop), n ∈ ns → Same H H1 → (∀ H3, Same H1 H3 → N (.int (f n)) H3) → g (.int n) (wipe σ vs) H1 fun σ2 H2 => wipe σ2 vs = wipe σ vs ∧ te σ2 H2 N)
    (done : ∀ D H1, H D = none → Same H H1 → H1 D = some (.lst ((ns.map f).map V.int)) → Q (.ref D) H1) : LcL K g te vs σ Q (.ref a) H := by
  refine lcL_of (es := ns.map PyData.int) (fun d => match d with | .int n => .int (f n) | d => d) (SqL.of ha) (ImL.ints ns) (by rw [List.length_map]; exact small1000 (by omega)) (fun e x H1 N he s hx hN => ?_) (fun D H1 ys hD s e hy => ?_)
  · obtain ⟨n, hn, rfl⟩ := List.mem_map.mp he
    have : x = .int n := by simpa [Im] using hx
    subst this
    exact turn n H1 N hn s fun H3 s3 => hN _ _ s3 Im.int'
  · refine done D H1 hD s ?_
    rw [e]
    rw [List.map_map] at hy
    have e2 : ns.map ((fun d => match d with | .int n => .int (f n) | d => d) ∘ PyData.int) = (ns.map f).map PyData.int := by
      rw [List.map_map]
      exact List.map_congr_left fun n _ => rfl
    have hy2 : ImL H1 ys ((ns.map f).map PyData.int) := by
      rw [← e2]; exact hy
    rw [iml_ints_eq hy2]
/-! ### doubles -/
/-- the places behind which both ends of the payment are quits -/
def dblR : Sta → Nat → List (Nat × Nat) → List Nat
  | _, _, [] => []
  | s, k, p :: ps => (if (payR s p).1.getD p.1 0 = 0 ∧ (payR s p).2.getD p.2 0 = 0 then [k] else []) ++ dblR (payR s p) (k + 1) ps
theorem dblR_app : ∀ (ps : List (Nat × Nat)) (s : Sta) (k : Nat) (p : Nat × Nat), dblR s k (ps ++ [p]) = dblR s k ps ++ (if (payR (runR s ps) p).1.getD p.1 0 = 0 ∧ (payR (runR s ps) p).2.getD p.2 0 = 0 then [k + ps.length] else [])
  | [], s, k, p => by simp [dblR, runR]
  | r :: ps, s, k, p => by
    rw [List.cons_append]
    simp only [dblR]
    rw [dblR_app ps, List.append_assoc, List.length_cons]
    simp only [runR, List.foldl_cons]
    rw [show k + 1 + ps.length = k + (ps.length + 1) by omega]
    rfl
theorem dblR_len : ∀ (ps : List (Nat × Nat)) (s : Sta) (k : Nat), (dblR s k ps).length ≤ ps.length
  | [], s, k => by simp [dblR]
  | r :: ps, s, k => by
    simp only [dblR, List.length_append, List.length_cons]
    have := dblR_len ps (payR s r) (k + 1)
    split <;> simp <;> omega
theorem row_can {s : Sta} {ps : List (Nat × Nat)} (h : rowR s ps) {i : Nat} {p : Nat × Nat} (e : ps[i]? = some p) : canR (runR s (ps.take i)) p := by
  have := h
  rw [← List.take_append_drop (i + 1) ps, rowR_append, List.take_add_one, e, Option.toList_some, rowR_append] at this
  exact this.1.2.1
/-! ### groups as data -/
theorem natsD_map (is : List Nat) : natsD is = .tuple ((is.map fun i => ((i : Nat) : Int)).map PyData.int) := by
  unfold natsD; rw [List.map_map]; rfl
theorem eqvAll_int : ∀ xs ys : List Int, PyData.eqvAll (xs.map PyData.int) (ys.map PyData.int) = decide (xs = ys)
  | [], [] => rfl
  | [], _ :: _ => by simp [PyData.eqvAll]
  | _ :: _, [] => by simp [PyData.eqvAll]
  | x :: xs, y :: ys => by
    simp only [List.map_cons, PyData.eqvAll, PyData.eqv, eqvAll_int xs ys]
    by_cases h : x = y <;> by_cases h2 : xs = ys <;> simp [h, h2]
theorem cast_inj {is js : List Nat} (h : is.map (fun i => ((i : Nat) : Int)) = js.map fun i => ((i : Nat) : Int)) : is = js :=
  (List.map_inj_right fun x y e => by omega).mp h
theorem natsD_eqv (is js : List Nat) : PyData.eqv (natsD is) (natsD js) = decide (is = js) := by
  rw [natsD_map, natsD_map]
  simp only [PyData.eqv, eqvAll_int]
  by_cases h : is = js
  · subst h; simp
  · have : ¬ (is.map (fun i => ((i : Nat) : Int)) = js.map fun i => ((i : Nat) : Int)) := fun e => h (cast_inj e)
    simp [h, this]
theorem natsD_lt (is js : List Nat) : PySem.W.dataLt (natsD is) (natsD js) = decide ((is.map fun i => ((i : Nat) : Int)) < js.map fun i => ((i : Nat) : Int)) := by
  rw [natsD_map, natsD_map, PySem.W.dataLt_tuple]
  exact PySem.W.dataLt_ints _ _
theorem natsD_alike (is js : List Nat) : PySem.W.alike (natsD is) (natsD js) = true := by
  rw [natsD_map, natsD_map]
  simp only [PySem.W.alike]
  exact PySem.W.alike_ints _ _
theorem grpD_alike (g h : List Nat × List Nat) : PySem.W.alike (grpD g) (grpD h) = true := by
  simp only [grpD, PySem.W.alike, PySem.W.alikeAll, natsD_alike, Bool.and_true]
theorem grpD_depth (g : List Nat × List Nat) : (grpD g).depth ≤ 8 := by
  have e : ∀ is, (natsD is).depth ≤ 1 := fun is => by
    rw [natsD_map]
    simp only [PyData.depth, PySem.W.depth_ints]
    omega
  have h1 := e g.1
  have h2 := e g.2
  simp only [grpD, PyData.depth, PyData.depthAll]
  omega
theorem ints_tri (xs ys : List Int) (h1 : ¬ xs < ys) (h2 : ¬ ys < xs) : xs = ys := by
  have a : ys ≤ xs := List.not_lt.mp h1
  have b : xs ≤ ys := List.not_lt.mp h2
  exact List.le_antisymm b a
theorem grpD_anti {g h : List Nat × List Nat} (h1 : PySem.W.dataLe false id (grpD g) (grpD h) = true) (h2 : PySem.W.dataLe false id (grpD h) (grpD g) = true) : g = h := by
  have e1 : PySem.W.dataLt (grpD h) (grpD g) = false := by simpa [PySem.W.dataLe_eq] using h1
  have e2 : PySem.W.dataLt (grpD g) (grpD h) = false := by simpa [PySem.W.dataLe_eq] using h2
  obtain ⟨a, b⟩ := g
  obtain ⟨c, d⟩ := h
  simp only [grpD] at e1 e2
  rw [PySem.W.dataLt_pair (natsD_alike _ _) (natsD_alike _ _)] at e1 e2
  simp only [natsD_eqv, natsD_lt, decide_eq_true_eq] at e1 e2
  by_cases hac : a = c
  · subst hac
    simp only [if_true] at e1 e2
    by_cases hbd : b = d
    · rw [hbd]
    · rw [if_neg (fun z => hbd z.symm)] at e1
      rw [if_neg hbd] at e2
      exact absurd (cast_inj (ints_tri _ _ (by simpa using e2) (by simpa using e1))) hbd
  · rw [if_neg (fun z => hac z.symm)] at e1
    rw [if_neg hac] at e2
    exact absurd (cast_inj (ints_tri _ _ (by simpa using e2) (by simpa using e1))) hac
theorem grp_sort {gs hs : List (List Nat × List Nat)} (p : gs.Perm hs) : (gs.map grpD).mergeSort (PySem.W.dataLe false id) = (hs.map grpD).mergeSort (PySem.W.dataLe false id) := by
  have T : PySem.W.TotalLe (PySem.W.dataLe (β := PyData) false id) := PySem.W.sortLe_total _ _ _
  have s : ∀ l : List PyData, (l.mergeSort (PySem.W.dataLe false id)).Pairwise fun a b => PySem.W.dataLe false id a b = true := fun l => List.pairwise_mergeSort T.trans (fun a b => by rcases T.total a b with h | h <;> simp [h]) l
  refine List.Perm.eq_of_pairwise (le := fun a b => PySem.W.dataLe false id a b = true) (fun a b ha hb h1 h2 => ?_) (s _) (s _) (((List.mergeSort_perm _ _).trans (p.map _)).trans (List.mergeSort_perm _ _).symm)
  obtain ⟨g, _, rfl⟩ := List.mem_map.mp (List.mem_mergeSort.mp ha)
  obtain ⟨h, _, rfl⟩ := List.mem_map.mp (List.mem_mergeSort.mp hb)
  rw [grpD_anti h1 h2]
/-! ### hanging together -/
def Conn (n : Nat) (ps : List (Nat × Nat)) (x y : Nat) : Prop := ∀ S : Nat → Prop, (∀ p ∈ ps, (S p.1 ↔ S (n + p.2))) → (S x ↔ S y)
theorem Conn.refl {n : Nat} {ps : List (Nat × Nat)} (x : Nat) : Conn n ps x x := fun _ _ => Iff.rfl
theorem Conn.symm {n : Nat} {ps : List (Nat × Nat)} {x y : Nat} (h : Conn n ps x y) : Conn n ps y x := fun S hS => (h S hS).symm
theorem Conn.trans {n : Nat} {ps : List (Nat × Nat)} {x y z : Nat} (h : Conn n ps x y) (k : Conn n ps y z) : Conn n ps x z := fun S hS => (h S hS).trans (k S hS)
theorem Conn.pair {n : Nat} {ps : List (Nat × Nat)} {p : Nat × Nat} (h : p ∈ ps) : Conn n ps p.1 (n + p.2) := fun S hS => hS p h
theorem Conn.mono {n : Nat} {ps qs : List (Nat × Nat)} {x y : Nat} (h : Conn n ps x y) (k : ∀ p ∈ ps, p ∈ qs) : Conn n qs x y := fun S hS => h S fun p hp => hS p (k p hp)
def GoodM (n L : Nat) (ms : List Int) (qs : List (Nat × Nat)) : Prop := ms.length = L ∧ (∀ x y, x < L → y < L → ms.getD x 0 = ms.getD y 0 → Conn n qs x y) ∧ ∀ p ∈ qs, ms.getD p.1 0 = ms.getD (n + p.2) 0
theorem relab_get {n : Nat} {ms : List Int} {p : Nat × Nat} {x : Nat} (h : x < ms.length) : (relab n ms p).getD x 0 = if ms.getD x 0 = ms.getD (n + p.2) 0 then ms.getD p.1 0 else ms.getD x 0 := by
  unfold relab
  rw [List.getD_eq_getElem?_getD, List.getElem?_map, List.getElem?_eq_getElem h, Option.map_some, Option.getD_some]
  rw [show ms.getD x 0 = ms[x] by rw [List.getD_eq_getElem?_getD, List.getElem?_eq_getElem h]; rfl]
theorem GoodM.step {n L : Nat} {ms : List Int} {qs : List (Nat × Nat)} {p : Nat × Nat} (g : GoodM n L ms qs) (h1 : p.1 < L) (h2 : n + p.2 < L) (hq : ∀ q ∈ qs, q.1 < L ∧ n + q.2 < L) : GoodM n L (relab n ms p) (qs ++ [p]) := by
  obtain ⟨hl, hc, hs⟩ := g
  have up : ∀ {x y}, Conn n qs x y → Conn n (qs ++ [p]) x y := fun h => h.mono fun q hq => List.mem_append_left _ hq
  have pp : Conn n (qs ++ [p]) p.1 (n + p.2) := Conn.pair (by simp)
  refine ⟨by rw [relab_len, hl], fun x y hx hy e => ?_, fun q hq' => ?_⟩
  · rw [relab_get (by omega), relab_get (by omega)] at e
    by_cases ex : ms.getD x 0 = ms.getD (n + p.2) 0 <;> by_cases ey : ms.getD y 0 = ms.getD (n + p.2) 0
    · exact up (hc x y hx hy (ex.trans ey.symm))
    · rw [if_pos ex, if_neg ey] at e
      exact (up (hc x _ hx h2 ex)).trans (pp.symm.trans (up (hc _ y h1 hy e)))
    · rw [if_neg ex, if_pos ey] at e
      exact (up (hc x _ hx h1 e)).trans (pp.trans (up (hc _ y h2 hy ey.symm)))
    · rw [if_neg ex, if_neg ey] at e
      exact up (hc x y hx hy e)
  · rcases List.mem_append.mp hq' with hq' | hq'
    · obtain ⟨a, b⟩ := hq q hq'
      rw [relab_get (by omega), relab_get (by omega), hs q hq']
    · have : q = p := by simpa using hq'
      subst this
      rw [relab_get (by omega), relab_get (by omega), if_pos rfl]
      split
      · rfl
      · rfl
theorem GoodM.fold {n L : Nat} : ∀ {ps : List (Nat × Nat)} {ms : List Int} {qs : List (Nat × Nat)}, GoodM n L ms qs → (∀ q ∈ qs ++ ps, q.1 < L ∧ n + q.2 < L) → GoodM n L (ps.foldl (relab n) ms) (qs ++ ps)
  | [], ms, qs, g, _ => by simpa using g
  | p :: ps, ms, qs, g, h => by
    rw [List.foldl_cons, List.append_cons]
    obtain ⟨a, b⟩ := h p (by simp)
    exact GoodM.fold (g.step a b fun q hq => h q (List.mem_append_left _ hq)) (by rw [← List.append_cons]; exact h)
theorem marks0_get {L x : Nat} (h : x < L) : (marks0 L).getD x 0 = (x : Int) := by
  unfold marks0
  rw [List.getD_eq_getElem?_getD, List.getElem?_map, List.getElem?_range h]; rfl
theorem marks_good {n m : Nat} {ps : List (Nat × Nat)} (h : ∀ p ∈ ps, p.1 < n ∧ p.2 < m) : GoodM n (n + m) (marksR n m ps) ps := by
  have := GoodM.fold (n := n) (L := n + m) (ps := ps) (ms := marks0 (n + m)) (qs := []) ⟨by simp [marks0], fun x y hx hy e => ?_, fun p hp => by cases hp⟩ (fun q hq => ?_)
  · unfold marksR; simpa using this
  · rw [marks0_get hx, marks0_get hy] at e
    have : x = y := by omega
    subst this; exact Conn.refl x
  · have := h q (by simpa using hq)
    omega
theorem marks_conn {n m : Nat} {ps : List (Nat × Nat)} (h : ∀ p ∈ ps, p.1 < n ∧ p.2 < m) {x y : Nat} (hx : x < n + m) (hy : y < n + m) : (marksR n m ps).getD x 0 = (marksR n m ps).getD y 0 ↔ Conn n ps x y := by
  obtain ⟨hl, hc, hs⟩ := marks_good h
  refine ⟨hc x y hx hy, fun k => ?_⟩
  exact ((k (fun z => (marksR n m ps).getD z 0 = (marksR n m ps).getD x 0) fun p hp => by rw [hs p hp]).mp rfl).symm
/-- the people of one piece, ascending -/
def IsPc (n m : Nat) (ps : List (Nat × Nat)) (g : List Nat × List Nat) : Prop := (∃ i, i < n ∧ (∀ j, j ∈ g.1 ↔ j < n ∧ Conn n ps i j) ∧ ∀ j, j ∈ g.2 ↔ j < m ∧ Conn n ps i (n + j)) ∧ g.1.Pairwise (· < ·) ∧ g.2.Pairwise (· < ·)
/-- all pieces, each once -/
def Pcs (n m : Nat) (ps : List (Nat × Nat)) (gs : List (List Nat × List Nat)) : Prop := gs.Nodup ∧ ∀ g, g ∈ gs ↔ IsPc n m ps g
theorem Pcs.perm {n m : Nat} {ps : List (Nat × Nat)} {gs hs : List (List Nat × List Nat)} (a : Pcs n m ps gs) (b : Pcs n m ps hs) : gs.Perm hs :=
  (List.perm_ext_iff_of_nodup a.1 b.1).mpr fun g => (a.2 g).trans (b.2 g).symm
theorem asc_eq : ∀ {xs ys : List Nat}, xs.Pairwise (· < ·) → ys.Pairwise (· < ·) → (∀ z, z ∈ xs ↔ z ∈ ys) → xs = ys := fun {xs ys} h1 h2 h =>
  List.Perm.eq_of_pairwise (le := (· < ·)) (fun a b _ _ x y => by omega) h1 h2 ((List.perm_ext_iff_of_nodup (h1.imp fun h => by omega) (h2.imp fun h => by omega)).mpr h)
theorem sel_mem {ms : List Int} {w : Int} {j : Nat} : j ∈ selR ms w ↔ j < ms.length ∧ ms.getD j 0 = w := by
  unfold selR
  rw [List.mem_filter, List.mem_range, beq_iff_eq]
theorem sel_asc {ms : List Int} {w : Int} : (selR ms w).Pairwise (· < ·) := List.pairwise_lt_range.filter _
/-- the groups of the marks are the pieces -/
theorem marks_pcs {n m : Nat} {ps : List (Nat × Nat)} (h : ∀ p ∈ ps, p.1 < n ∧ p.2 < m) (hcov : ∀ j, j < m → ∃ p ∈ ps, p.2 = j) {ws : List Int} (hw : ws.Pairwise (· < ·)) (hm : ∀ k, k ∈ ws ↔ k ∈ marksR n m ps) : Pcs n m ps (ws.map (grpM n (marksR n m ps))) := by
  have hlen := marksR_len (n := n) (m := m) (ps := ps)
  generalize hM : marksR n m ps = M at *
  have gt : ∀ j, j < n → (M.take n).getD j 0 = M.getD j 0 := fun j hj => by rw [List.getD_eq_getElem?_getD, List.getElem?_take, if_pos hj, ← List.getD_eq_getElem?_getD]
  have gd : ∀ j, (M.drop n).getD j 0 = M.getD (n + j) 0 := fun j => by rw [List.getD_eq_getElem?_getD, List.getElem?_drop, ← List.getD_eq_getElem?_getD]
  have m1 : ∀ w j, j ∈ (grpM n M w).1 ↔ j < n ∧ M.getD j 0 = w := fun w j => by
    show j ∈ selR (M.take n) w ↔ _
    rw [sel_mem, List.length_take, Nat.min_eq_left (by omega)]
    constructor
    · rintro ⟨a, b⟩; exact ⟨a, by rw [← gt j a]; exact b⟩
    · rintro ⟨a, b⟩; exact ⟨a, by rw [gt j a]; exact b⟩
  have m2 : ∀ w j, j ∈ (grpM n M w).2 ↔ j < m ∧ M.getD (n + j) 0 = w := fun w j => by
    show j ∈ selR (M.drop n) w ↔ _
    rw [sel_mem, List.length_drop, gd]
    constructor
    · rintro ⟨a, b⟩; exact ⟨by omega, b⟩
    · rintro ⟨a, b⟩; exact ⟨by omega, b⟩
  have cn : ∀ {x y}, x < n + m → y < n + m → (M.getD x 0 = M.getD y 0 ↔ Conn n ps x y) := fun hx hy => by rw [← hM]; exact marks_conn h hx hy
  have inM : ∀ x, x < n + m → M.getD x 0 ∈ M := fun x hx => by
    rw [List.getD_eq_getElem?_getD, List.getElem?_eq_getElem (by omega)]; exact List.getElem_mem _
  have own : ∀ w ∈ ws, ∃ i, i < n ∧ M.getD i 0 = w := fun w hw' => by
    obtain ⟨x, hx, e⟩ := List.mem_iff_getElem.mp ((hm w).mp hw')
    have e' : M.getD x 0 = w := by rw [List.getD_eq_getElem?_getD, List.getElem?_eq_getElem hx]; exact e
    by_cases hxn : x < n
    · exact ⟨x, hxn, e'⟩
    · obtain ⟨p, hp, ep⟩ := hcov (x - n) (by omega)
      have hp' := h p hp
      refine ⟨p.1, hp'.1, ?_⟩
      rw [← e', (cn (x := p.1) (y := x) (by omega) (by omega))]
      have := Conn.pair (n := n) hp
      rw [ep, show n + (x - n) = x by omega] at this
      exact this
  refine ⟨?_, fun g => ?_⟩
  · refine List.Pairwise.map _ (R := fun a b => a ∈ ws ∧ a ≠ b) (fun a b ⟨ha, hab⟩ e => ?_) ?_
    · obtain ⟨i, hi, e1⟩ := own a ha
      have : i ∈ (grpM n M a).1 := (m1 a i).mpr ⟨hi, e1⟩
      rw [e, m1] at this
      exact hab (e1.symm.trans this.2)
    · refine List.Pairwise.imp_of_mem (fun ha _ hab => ⟨ha, by omega⟩) hw
  · rw [List.mem_map]
    constructor
    · rintro ⟨w, hw', rfl⟩
      obtain ⟨i, hi, e1⟩ := own w hw'
      refine ⟨⟨i, hi, fun j => ?_, fun j => ?_⟩, sel_asc, sel_asc⟩
      · rw [m1]
        constructor
        · rintro ⟨a, b⟩; exact ⟨a, (cn (by omega) (by omega)).mp (e1.trans b.symm)⟩
        · rintro ⟨a, b⟩; exact ⟨a, ((cn (by omega) (by omega)).mpr b).symm.trans e1⟩
      · rw [m2]
        constructor
        · rintro ⟨a, b⟩; exact ⟨a, (cn (by omega) (by omega)).mp (e1.trans b.symm)⟩
        · rintro ⟨a, b⟩; exact ⟨a, ((cn (by omega) (by omega)).mpr b).symm.trans e1⟩
    · rintro ⟨⟨i, hi, a1, a2⟩, p1, p2⟩
      refine ⟨M.getD i 0, (hm _).mpr (inM i (by omega)), ?_⟩
      obtain ⟨g1, g2⟩ := g
      have e1 : (grpM n M (M.getD i 0)).1 = g1 := asc_eq sel_asc p1 fun j => by
        rw [m1, a1]
        constructor
        · rintro ⟨a, b⟩; exact ⟨a, (cn (by omega) (by omega)).mp b.symm⟩
        · rintro ⟨a, b⟩; exact ⟨a, ((cn (by omega) (by omega)).mpr b).symm⟩
      have e2 : (grpM n M (M.getD i 0)).2 = g2 := asc_eq sel_asc p2 fun j => by
        rw [m2, a2]
        constructor
        · rintro ⟨a, b⟩; exact ⟨a, (cn (by omega) (by omega)).mp b.symm⟩
        · rintro ⟨a, b⟩; exact ⟨a, ((cn (by omega) (by omega)).mpr b).symm⟩
      rw [← e1, ← e2]
/-! ### the law's own going on from an ower -/
abbrev Two := List Nat × List Nat
def clT (s : Two) (p : Nat × Nat) : List Nat := if p.1 ∈ s.1 ∧ p.2 ∉ s.2 then s.2 ++ [p.2] else s.2
def clStep (s : Two) (p : Nat × Nat) : Two := (if p.2 ∈ clT s p ∧ p.1 ∉ s.1 then s.1 ++ [p.1] else s.1, clT s p)
def sweep (ps : List (Nat × Nat)) (s : Two) : Two := ps.foldl clStep s
def sweeps (ps : List (Nat × Nat)) : Nat → Two → Two
  | 0, s => s
  | k + 1, s => sweep ps (sweeps ps k s)
def both (s : Two) (p : Nat × Nat) : Bool := decide (p.1 ∈ s.1 ∧ p.2 ∈ s.2)
def cntB (ps : List (Nat × Nat)) (s : Two) : Nat := (ps.filter (both s)).length
def LeT (s t : Two) : Prop := (∀ i ∈ s.1, i ∈ t.1) ∧ (∀ j ∈ s.2, j ∈ t.2) ∧ s.1.length ≤ t.1.length ∧ s.2.length ≤ t.2.length ∧ (s.1.length = t.1.length → s.2.length = t.2.length → s = t)
theorem LeT.refl (s : Two) : LeT s s := ⟨fun _ h => h, fun _ h => h, Nat.le_refl _, Nat.le_refl _, fun _ _ => rfl⟩
theorem LeT.trans {s t u : Two} (a : LeT s t) (b : LeT t u) : LeT s u := by
  obtain ⟨a1, a2, a3, a4, a5⟩ := a
  obtain ⟨b1, b2, b3, b4, b5⟩ := b
  refine ⟨fun i h => b1 i (a1 i h), fun i h => b2 i (a2 i h), by omega, by omega, fun h1 h2 => ?_⟩
  have e := a5 (by omega) (by omega)
  subst e
  exact b5 h1 h2
theorem clStep_a {O T : List Nat} {p : Nat × Nat} (h : p.1 ∈ O ∧ p.2 ∉ T) : clStep (O, T) p = (O, T ++ [p.2]) := by
  unfold clStep clT
  simp only
  rw [if_pos h, if_neg (fun z : p.2 ∈ T ++ [p.2] ∧ p.1 ∉ O => z.2 h.1)]
theorem clStep_b {O T : List Nat} {p : Nat × Nat} (h : p.2 ∈ T ∧ p.1 ∉ O) : clStep (O, T) p = (O ++ [p.1], T) := by
  unfold clStep clT
  simp only
  rw [if_neg (fun z : p.1 ∈ O ∧ p.2 ∉ T => z.2 h.1), if_pos h]
theorem clStep_c {O T : List Nat} {p : Nat × Nat} (h1 : ¬ (p.1 ∈ O ∧ p.2 ∉ T)) (h2 : ¬ (p.2 ∈ T ∧ p.1 ∉ O)) : clStep (O, T) p = (O, T) := by
  unfold clStep clT
  simp only
  rw [if_neg h1, if_neg h2]
theorem clStep_le (s : Two) (p : Nat × Nat) : LeT s (clStep s p) := by
  obtain ⟨O, T⟩ := s
  by_cases h1 : p.1 ∈ O ∧ p.2 ∉ T
  · rw [clStep_a h1]
    exact ⟨fun _ h => h, fun j h => List.mem_append_left _ h, Nat.le_refl _, by simp, fun _ h => by simp at h⟩
  · by_cases h2 : p.2 ∈ T ∧ p.1 ∉ O
    · rw [clStep_b h2]
      exact ⟨fun j h => List.mem_append_left _ h, fun _ h => h, by simp, Nat.le_refl _, fun h => by simp at h⟩
    · rw [clStep_c h1 h2]
      exact LeT.refl _
theorem clStep_cases (s : Two) (p : Nat × Nat) : (clStep s p = s ∧ (p.1 ∈ s.1 ↔ p.2 ∈ s.2)) ∨ (both s p = false ∧ both (clStep s p) p = true) := by
  obtain ⟨O, T⟩ := s
  by_cases h1 : p.1 ∈ O ∧ p.2 ∉ T
  · right
    rw [clStep_a h1]
    simp [both, h1.1, h1.2]
  · by_cases h2 : p.2 ∈ T ∧ p.1 ∉ O
    · right
      rw [clStep_b h2]
      simp [both, h2.1, h2.2]
    · left
      refine ⟨clStep_c h1 h2, fun h => ?_, fun h => ?_⟩
      · rcases Classical.em (p.2 ∈ T) with h3 | h3
        · exact h3
        · exact absurd ⟨h, h3⟩ h1
      · rcases Classical.em (p.1 ∈ O) with h3 | h3
        · exact h3
        · exact absurd ⟨h, h3⟩ h2
theorem both_mono {s t : Two} (l : LeT s t) {p : Nat × Nat} (h : both s p = true) : both t p = true := by
  simp only [both, decide_eq_true_eq] at *
  exact ⟨l.1 _ h.1, l.2.1 _ h.2⟩
theorem filter_len_lt {α : Type} {f g : α → Bool} : ∀ {l : List α} {a : α}, (∀ x, f x = true → g x = true) → a ∈ l → f a = false → g a = true → (l.filter f).length + 1 ≤ (l.filter g).length
  | x :: l, a, h, ha, h1, h2 => by
    have hle : (l.filter f).length ≤ (l.filter g).length := by
      clear ha
      induction l with
      | nil => simp
      | cons y l ih =>
        rw [List.filter_cons, List.filter_cons]
        by_cases hf : f y = true
        · rw [if_pos hf, if_pos (h y hf)]; simp; exact ih
        · rw [if_neg hf]
          split
          · simp; omega
          · exact ih
    rw [List.filter_cons, List.filter_cons]
    rcases List.mem_cons.mp ha with rfl | ha
    · rw [if_neg (by simp [h1]), if_pos h2]; simp; exact hle
    · have ih := filter_len_lt (f := f) (g := g) h ha h1 h2
      by_cases hf : f x = true
      · rw [if_pos hf, if_pos (h x hf)]; simp; omega
      · rw [if_neg hf]
        split
        · simp; omega
        · exact ih
theorem filter_len_le {α : Type} {f g : α → Bool} (h : ∀ x, f x = true → g x = true) (l : List α) : (l.filter f).length ≤ (l.filter g).length := by
  induction l with
  | nil => simp
  | cons y l ih =>
    rw [List.filter_cons, List.filter_cons]
    by_cases hf : f y = true
    · rw [if_pos hf, if_pos (h y hf)]; simp; exact ih
    · rw [if_neg hf]
      split
      · simp; omega
      · exact ih
theorem fold_le : ∀ (qs : List (Nat × Nat)) (s : Two), LeT s (qs.foldl clStep s)
  | [], s => LeT.refl s
  | p :: qs, s => (clStep_le s p).trans (fold_le qs _)
theorem fold_cnt {ps : List (Nat × Nat)} : ∀ (qs : List (Nat × Nat)) (s : Two), (∀ q ∈ qs, q ∈ ps) → (qs.foldl clStep s = s ∧ ∀ q ∈ qs, (q.1 ∈ s.1 ↔ q.2 ∈ s.2)) ∨ cntB ps s + 1 ≤ cntB ps (qs.foldl clStep s)
  | [], s, _ => .inl ⟨rfl, fun _ h => by cases h⟩
  | p :: qs, s, h => by
    rw [List.foldl_cons]
    rcases clStep_cases s p with ⟨e, he⟩ | ⟨e1, e2⟩
    · rw [e]
      rcases fold_cnt qs s (fun q hq => h q (List.mem_cons_of_mem _ hq)) with ⟨a, b⟩ | a
      · exact .inl ⟨a, fun q hq => by
          rcases List.mem_cons.mp hq with rfl | hq
          · exact he
          · exact b q hq⟩
      · exact .inr a
    · right
      have l1 := clStep_le s p
      have a : cntB ps s + 1 ≤ cntB ps (clStep s p) := filter_len_lt (fun x hx => both_mono l1 hx) (h p List.mem_cons_self) e1 e2
      have b : cntB ps (clStep s p) ≤ cntB ps (qs.foldl clStep (clStep s p)) := filter_len_le (fun x hx => both_mono (fold_le qs _) hx) ps
      omega
def ClosedT (ps : List (Nat × Nat)) (s : Two) : Prop := ∀ q ∈ ps, (q.1 ∈ s.1 ↔ q.2 ∈ s.2)
theorem closed_fold : ∀ {qs : List (Nat × Nat)} {s : Two}, (∀ q ∈ qs, (q.1 ∈ s.1 ↔ q.2 ∈ s.2)) → qs.foldl clStep s = s
  | [], s, _ => rfl
  | p :: qs, s, h => by
    rw [List.foldl_cons]
    rcases clStep_cases s p with ⟨e, _⟩ | ⟨e1, e2⟩
    · rw [e]; exact closed_fold fun q hq => h q (List.mem_cons_of_mem _ hq)
    · exfalso
      have hp := h p List.mem_cons_self
      obtain ⟨O, T⟩ := s
      have : clStep (O, T) p = (O, T) := clStep_c (fun z => z.2 (hp.mp z.1)) (fun z => z.2 (hp.mpr z.1))
      rw [this, e1] at e2
      cases e2
theorem sweeps_cnt (ps : List (Nat × Nat)) (s : Two) : ∀ k, ClosedT ps (sweeps ps k s) ∨ k ≤ cntB ps (sweeps ps k s)
  | 0 => .inr (Nat.zero_le _)
  | k + 1 => by
    rcases sweeps_cnt ps s k with h | h
    · left
      show ClosedT ps (sweep ps (sweeps ps k s))
      rw [show sweep ps (sweeps ps k s) = sweeps ps k s from closed_fold h]
      exact h
    · rcases fold_cnt (ps := ps) ps (sweeps ps k s) (fun _ h => h) with ⟨a, b⟩ | a
      · left
        show ClosedT ps (sweep ps (sweeps ps k s))
        rw [show sweep ps (sweeps ps k s) = sweeps ps k s from a]
        exact b
      · right
        show k + 1 ≤ cntB ps (sweep ps (sweeps ps k s))
        unfold sweep
        omega
theorem sweeps_closed (ps : List (Nat × Nat)) (s : Two) : ClosedT ps (sweeps ps (ps.length + 1) s) := by
  rcases sweeps_cnt ps s (ps.length + 1) with h | h
  · exact h
  · have : cntB ps (sweeps ps (ps.length + 1) s) ≤ ps.length := List.length_filter_le _ _
    omega
def InvT (n m : Nat) (ps : List (Nat × Nat)) (i0 : Nat) (s : Two) : Prop := i0 ∈ s.1 ∧ (∀ i ∈ s.1, i < n ∧ Conn n ps i0 i) ∧ (∀ j ∈ s.2, j < m ∧ Conn n ps i0 (n + j)) ∧ s.1.Nodup ∧ s.2.Nodup
theorem InvT.step {n m : Nat} {ps : List (Nat × Nat)} {i0 : Nat} {s : Two} {p : Nat × Nat} (h : InvT n m ps i0 s) (hp : p ∈ ps) (h1 : p.1 < n) (h2 : p.2 < m) : InvT n m ps i0 (clStep s p) := by
  obtain ⟨a0, a1, a2, a3, a4⟩ := h
  obtain ⟨O, T⟩ := s
  have pc := Conn.pair (n := n) hp
  by_cases c1 : p.1 ∈ O ∧ p.2 ∉ T
  · rw [clStep_a c1]
    refine ⟨a0, a1, fun j hj => ?_, a3, ?_⟩
    · rcases List.mem_append.mp hj with hj | hj
      · exact a2 j hj
      · have : j = p.2 := by simpa using hj
        subst this
        exact ⟨h2, (a1 _ c1.1).2.trans pc⟩
    · refine List.nodup_append.mpr ⟨a4, by simp, fun x hx y hy e => ?_⟩
      have : y = p.2 := by simpa using hy
      subst this e
      exact c1.2 hx
  · by_cases c2 : p.2 ∈ T ∧ p.1 ∉ O
    · rw [clStep_b c2]
      refine ⟨List.mem_append_left _ a0, fun j hj => ?_, a2, ?_, a4⟩
      · rcases List.mem_append.mp hj with hj | hj
        · exact a1 j hj
        · have : j = p.1 := by simpa using hj
          subst this
          exact ⟨h1, (a2 _ c2.1).2.trans pc.symm⟩
      · refine List.nodup_append.mpr ⟨a3, by simp, fun x hx y hy e => ?_⟩
        have : y = p.1 := by simpa using hy
        subst this e
        exact c2.2 hx
    · rw [clStep_c c1 c2]
      exact ⟨a0, a1, a2, a3, a4⟩
theorem InvT.fold {n m : Nat} {ps : List (Nat × Nat)} {i0 : Nat} (hps : ∀ p ∈ ps, p.1 < n ∧ p.2 < m) : ∀ {qs : List (Nat × Nat)} {s : Two}, InvT n m ps i0 s → (∀ q ∈ qs, q ∈ ps) → InvT n m ps i0 (qs.foldl clStep s)
  | [], s, h, _ => h
  | p :: qs, s, h, hq => by
    have hp := hq p List.mem_cons_self
    show InvT n m ps i0 (qs.foldl clStep (clStep s p))
    exact InvT.fold (qs := qs) (s := clStep s p) hps (h.step hp (hps p hp).1 (hps p hp).2) fun q hh => hq q (List.mem_cons_of_mem _ hh)
theorem InvT.sweeps {n m : Nat} {ps : List (Nat × Nat)} {i0 : Nat} (hps : ∀ p ∈ ps, p.1 < n ∧ p.2 < m) {s : Two} (h : InvT n m ps i0 s) : ∀ k, InvT n m ps i0 (sweeps ps k s)
  | 0 => h
  | k + 1 => InvT.fold hps (InvT.sweeps hps h k) fun _ h => h
/-- all who hang together with the first one are found -/
theorem found_all {n m : Nat} {ps : List (Nat × Nat)} {i0 : Nat} (hps : ∀ p ∈ ps, p.1 < n ∧ p.2 < m) (hi : i0 < n) : ∃ s, s = sweeps ps (ps.length + 1) ([i0], []) ∧ InvT n m ps i0 s ∧ (∀ j, j ∈ s.1 ↔ j < n ∧ Conn n ps i0 j) ∧ ∀ j, j ∈ s.2 ↔ j < m ∧ Conn n ps i0 (n + j) := by
  have h0 : InvT n m ps i0 ([i0], []) := ⟨by simp, fun i h => by
    have : i = i0 := by simpa using h
    subst this; exact ⟨hi, Conn.refl _⟩, fun j h => (by cases h), by simp, by simp⟩
  have h := h0.sweeps hps (ps.length + 1)
  have hc := sweeps_closed ps ([i0], [])
  refine ⟨_, rfl, h, ?_, ?_⟩
  all_goals generalize sweeps ps (ps.length + 1) ([i0], []) = s at *
  all_goals
    have key : ∀ z, Conn n ps i0 z → ((z < n ∧ z ∈ s.1) ∨ (n ≤ z ∧ z - n ∈ s.2)) := fun z hz => by
      refine (hz (fun z => (z < n ∧ z ∈ s.1) ∨ (n ≤ z ∧ z - n ∈ s.2)) fun p hp => ?_).mp (.inl ⟨hi, h.1⟩)
      have hp' := hps p hp
      have e : n + p.2 - n = p.2 := by omega
      have := hc p hp
      constructor
      · rintro (⟨_, b⟩ | ⟨b, _⟩)
        · exact .inr ⟨by omega, by rw [e]; exact this.mp b⟩
        · omega
      · rintro (⟨b, _⟩ | ⟨_, b⟩)
        · omega
        · rw [e] at b
          exact .inl ⟨hp'.1, this.mpr b⟩
  · intro j
    refine ⟨h.2.1 j, fun ⟨a, b⟩ => ?_⟩
    rcases key j b with ⟨_, c⟩ | ⟨c, _⟩
    · exact c
    · omega
  · intro j
    refine ⟨h.2.2.1 j, fun ⟨a, b⟩ => ?_⟩
    rcases key (n + j) b with ⟨c, _⟩ | ⟨_, c⟩
    · omega
    · rw [show n + j - n = j by omega] at c
      exact c
def OwnInv (n m : Nat) (ps : List (Nat × Nat)) (left : List Nat) (fs : List Two) : Prop := left.Pairwise (· < ·) ∧ (∀ i ∈ left, i < n) ∧ fs.Nodup ∧ (∀ g ∈ fs, IsPc n m ps g) ∧ (∀ i, i < n → i ∈ left ∨ ∃ g ∈ fs, i ∈ g.1) ∧ ∀ i ∈ left, ∀ g ∈ fs, i ∉ g.1
theorem own_start (n m : Nat) (ps : List (Nat × Nat)) : OwnInv n m ps (List.range n) [] :=
  ⟨List.pairwise_lt_range, fun i h => List.mem_range.mp h, List.nodup_nil, fun g h => (by cases h), fun i h => .inl (List.mem_range.mpr h), fun i _ g h => (by cases h)⟩
theorem own_step {n m : Nat} {ps : List (Nat × Nat)} {i0 : Nat} {l : List Nat} {fs : List Two} {s g : Two} (h : OwnInv n m ps (i0 :: l) fs) (h1 : ∀ j, j ∈ s.1 ↔ j < n ∧ Conn n ps i0 j) (h2 : ∀ j, j ∈ s.2 ↔ j < m ∧ Conn n ps i0 (n + j))
    (g1 : ∀ j, j ∈ g.1 ↔ j ∈ s.1) (g2 : ∀ j, j ∈ g.2 ↔ j ∈ s.2) (p1 : g.1.Pairwise (· < ·)) (p2 : g.2.Pairwise (· < ·)) :
    OwnInv n m ps ((i0 :: l).filter fun i => !decide (i ∈ s.1)) (fs ++ [g]) ∧ ((i0 :: l).filter fun i => !decide (i ∈ s.1)).length ≤ l.length := by
  obtain ⟨a1, a2, a3, a4, a5, a6⟩ := h
  have hi0 := a2 i0 List.mem_cons_self
  have hs0 : i0 ∈ s.1 := (h1 i0).mpr ⟨hi0, Conn.refl _⟩
  have hg : IsPc n m ps g := ⟨⟨i0, hi0, fun j => (g1 j).trans (h1 j), fun j => (g2 j).trans (h2 j)⟩, p1, p2⟩
  refine ⟨⟨a1.filter _, fun i h => a2 i (List.mem_filter.mp h).1, ?_, fun x hx => ?_, fun i hi => ?_, fun i hi x hx => ?_⟩, ?_⟩
  · refine List.nodup_append.mpr ⟨a3, by simp, fun x hx y hy e => ?_⟩
    have : y = g := by simpa using hy
    subst this e
    exact a6 i0 List.mem_cons_self _ hx ((g1 i0).mpr hs0)
  · rcases List.mem_append.mp hx with hx | hx
    · exact a4 x hx
    · have : x = g := by simpa using hx
      subst this; exact hg
  · rcases a5 i hi with h | ⟨x, hx, hxi⟩
    · by_cases hs : i ∈ s.1
      · exact .inr ⟨g, by simp, (g1 i).mpr hs⟩
      · exact .inl (List.mem_filter.mpr ⟨h, by simp [hs]⟩)
    · exact .inr ⟨x, List.mem_append_left _ hx, hxi⟩
  · obtain ⟨b1, b2⟩ := List.mem_filter.mp hi
    rcases List.mem_append.mp hx with hx | hx
    · exact a6 i b1 x hx
    · have : x = g := by simpa using hx
      subst this
      intro z
      simp [(g1 i).mp z] at b2
  · rw [List.filter_cons, if_neg (by simp [hs0])]
    exact List.length_filter_le _ _
theorem own_end {n m : Nat} {ps : List (Nat × Nat)} {fs : List Two} (h : OwnInv n m ps [] fs) : Pcs n m ps fs := by
  obtain ⟨a1, a2, a3, a4, a5, a6⟩ := h
  refine ⟨a3, fun g => ⟨a4 g, fun hg => ?_⟩⟩
  obtain ⟨⟨i, hi, b1, b2⟩, b3, b4⟩ := hg
  rcases a5 i hi with h | ⟨x, hx, hxi⟩
  · cases h
  · obtain ⟨⟨k, hk, c1, c2⟩, c3, c4⟩ := a4 x hx
    have ki : Conn n ps k i := ((c1 i).mp hxi).2
    have e1 : x.1 = g.1 := asc_eq c3 b3 fun z => by
      rw [c1, b1]
      exact ⟨fun ⟨a, b⟩ => ⟨a, ki.symm.trans b⟩, fun ⟨a, b⟩ => ⟨a, ki.trans b⟩⟩
    have e2 : x.2 = g.2 := asc_eq c4 b4 fun z => by
      rw [c2, b2]
      exact ⟨fun ⟨a, b⟩ => ⟨a, ki.symm.trans b⟩, fun ⟨a, b⟩ => ⟨a, ki.trans b⟩⟩
    have : x = g := Prod.ext e1 e2
    rw [← this]; exact hx
/-- sorted(xs) of unlike numbers from 0 on, as a list of numbers -/
theorem sorted_nats {xs : List Nat} {ns : List Int} (hn : xs.Nodup) (hp : ns.Perm (xs.map fun i => ((i : Nat) : Int))) (hs : ns.Pairwise (· ≤ ·)) : ∃ ys : List Nat, ns = ys.map (fun i => ((i : Nat) : Int)) ∧ ys.Pairwise (· < ·) ∧ (∀ j, j ∈ ys ↔ j ∈ xs) ∧ ys.length = xs.length := by
  refine ⟨ns.map Int.toNat, ?_, ?_, fun j => ?_, ?_⟩
  · rw [List.map_map]
    conv => lhs; rw [← List.map_id ns]
    refine List.map_congr_left fun z hz => ?_
    obtain ⟨i, _, e⟩ := List.mem_map.mp (hp.mem_iff.mp hz)
    show z = ((z.toNat : Nat) : Int)
    omega
  · have hnd : ns.Nodup := hp.nodup_iff.mpr (List.Pairwise.map _ (fun a b h e => h (by omega)) hn)
    refine List.Pairwise.map _ (R := fun a b => a ∈ ns ∧ b ∈ ns ∧ a ≤ b ∧ a ≠ b) (fun a b ⟨ha, hb, h1, h2⟩ => ?_) ?_
    · obtain ⟨i, _, e⟩ := List.mem_map.mp (hp.mem_iff.mp ha)
      obtain ⟨k, _, e2⟩ := List.mem_map.mp (hp.mem_iff.mp hb)
      omega
    · exact List.Pairwise.imp_of_mem (fun ha hb h => ⟨ha, hb, h.1, h.2⟩) (hs.and hnd)
  · rw [List.mem_map]
    constructor
    · rintro ⟨z, hz, rfl⟩
      obtain ⟨i, hi, e⟩ := List.mem_map.mp (hp.mem_iff.mp hz)
      have : z.toNat = i := by omega
      rw [this]; exact hi
    · intro hj
      exact ⟨(j : Int), hp.mem_iff.mpr (List.mem_map.mpr ⟨j, hj, rfl⟩), by omega⟩
  · rw [List.length_map, hp.length_eq, List.length_map]
/-! ### words -/
theorem inV_nat (i : Nat) (xs : List Nat) : inV (.int ((i : Nat) : Int)) (xs.map fun i => V.int ((i : Nat) : Int)) = decide (i ∈ xs) := by
  unfold inV
  induction xs with
  | nil => simp
  | cons x xs ih =>
    rw [List.map_cons, List.any_cons, ih]
    by_cases h : x = i
    · subst h; simp [eqV]
    · have h2 : ¬ ((x : Int) = (i : Int)) := by omega
      have h3 : ¬ i = x := fun e => h e.symm
      simp [eqV, h2, h3]
theorem flat_nats (xs : List Nat) : (xs.map fun i => V.int ((i : Nat) : Int)).all flatV = true := by
  rw [List.all_map, List.all_eq_true]
  intro i _
  rfl
section
variable {K : PySem.W.Frag} {H : Hp} {σ : St} {Q : VK} {D : Ends}
theorem i_inN {p : Addr} {xs : List Nat} {i : Nat} (h : H p = some (.lst (xs.map fun i => V.int ((i : Nat) : Int)))) (q : Q (.bl (decide (i ∈ xs))) H) : rIn K false (.int ((i : Nat) : Int)) (.ref p) H Q :=
  ⟨p, _, rfl, .inl (SqL.of h), rfl, flat_nats xs, by rw [inV_nat]; exact q⟩
theorem i_ninN {p : Addr} {xs : List Nat} {i : Nat} (h : H p = some (.lst (xs.map fun i => V.int ((i : Nat) : Int)))) (q : Q (.bl (!decide (i ∈ xs))) H) : rIn K true (.int ((i : Nat) : Int)) (.ref p) H Q :=
  ⟨p, _, rfl, .inl (SqL.of h), rfl, flat_nats xs, by rw [inV_nat]; exact q⟩
def LcFl (K : PySem.W.Frag) (g : TG) (tt : TT) (te : TE) (vs : List Nat) (σ : St) (Q : VK) (x : V) (H1 : Hp) : Prop := ∃ a, x = .ref a ∧ (∃ xs, SqL K H1 a xs) ∧ ∀ D, H1 D = none → ∃ W : Nat → Nat → Hp → Prop, (∃ m, W 0 m (upd H1 D (.lst []))) ∧ ∀ i m H, W i m H →
  ((Itl K a).stop i H ∧ Q (.ref D) H) ∨ ((Itl K a).go i H ∧ ∃ Nx : Hp → Prop, (∀ H', Nx H' → ∃ m', m' < m ∧ W (i + 1) m' H') ∧ ∀ x H', (Itl K a).yld i H x H' → g x (wipe σ vs) H' fun σ2 H2 => wipe σ2 vs = wipe σ vs ∧ tt σ2 H2 fun b H3 =>
    if b = true then te σ2 H3 fun y H4 => ∃ acc, H4 D = some (.lst acc) ∧ acc.length < sizeLine ∧ Nx (upd H4 D (.lst (acc ++ [y]))) else Nx H3)
theorem i_lcFl {tl te : TE} {tt : TT} {g : TG} {vs : List Nat} (h : tl σ H fun x H1 => LcFl K g tt te vs σ Q x H1) : tLc (iList K tl) g tt te vs σ H Q := h
theorem lcFl_of {g : TG} {tt : TT} {te : TE} {vs : List Nat} {a : Addr} {ns : List Nat} (f : Nat → Bool) (ha : H a = some (.lst (ns.map fun i => V.int ((i : Nat) : Int)))) (hz : ns.length ≤ 1000)
    (turn : ∀ (n : Nat) (H1 : Hp) (N : Hp → Prop) (NE : V → Hp → Prop), n ∈ ns → Same H H1 → (∀ H3, f n = true → Same H1 H3 → NE (.int ((n : Nat) : Int)) H3) → (∀ H3, f n = false → Same H1 H3 → N H3) →
      g (.int ((n : Nat) : Int)) (wipe σ vs) H1 fun σ2 H2 => wipe σ2 vs = wipe σ vs ∧ tt σ2 H2 fun b H3 => if b = true then te σ2 H3 NE else N H3)
    (done : ∀ D H1, H D = none → Same H H1 → H1 D = some (.lst ((ns.filter f).map fun i => V.int ((i : Nat) : Int))) → Q (.ref D) H1) : LcFl K g tt te vs σ Q (.ref a) H := by
  have e0 : sizeLine = 16777216 := PySem.sizeLine_eq
  refine ⟨a, rfl, ⟨_, SqL.of ha⟩, fun Dl hD => ?_⟩
  refine lc_it (walk_list (K := K) (a := a) (xs := ns.map fun i => V.int ((i : Nat) : Int))) (fun i H1 => Same H H1 ∧ H1 Dl = some (.lst (((ns.take i).filter f).map fun i => V.int ((i : Nat) : Int)))) ⟨same_upd hD, upd_same⟩ (fun i H' _ p => SqL.of (p.1 _ _ ha)) (fun i x H1 H' hi p y => ?_) (fun H' p => ?_)
  · obtain ⟨rfl, hx⟩ := y
    rw [List.getElem?_map] at hx
    rw [List.length_map] at hi
    rw [List.getElem?_eq_getElem hi] at hx
    have ex : x = .int ((ns[i] : Nat) : Int) := by simpa using hx.symm
    subst ex
    have ht : ns.take (i + 1) = ns.take i ++ [ns[i]] := by rw [List.take_add_one, List.getElem?_eq_getElem hi]; rfl
    refine turn _ _ _ _ (List.getElem_mem hi) p.1 (fun H3 ey s3 => ⟨_, s3 _ _ p.2, ?_, fun b o hb => ?_, ?_⟩) (fun H3 en s3 => ⟨p.1.trans s3, ?_⟩)
    · rw [List.length_map]
      have := List.length_filter_le f (ns.take i)
      rw [List.length_take] at this
      omega
    · rw [upd_ne (ne_of_none hb hD)]; exact s3 _ _ (p.1 _ _ hb)
    · rw [upd_same, ht, List.filter_append, List.map_append, List.filter_cons, if_pos ey]; rfl
    · rw [s3 _ _ p.2, ht, List.filter_append, List.filter_cons, if_neg (by simp [en]), List.filter_nil, List.append_nil]
  · rw [List.length_map, List.take_length] at p
    exact done Dl H' hD p.1 p.2
end
theorem clStep_len (s : Two) (p : Nat × Nat) : (clStep s p).1.length ≤ s.1.length + 1 ∧ (clStep s p).2.length ≤ s.2.length + 1 := by
  obtain ⟨O, T⟩ := s
  by_cases h1 : p.1 ∈ O ∧ p.2 ∉ T
  · rw [clStep_a h1]; simp
  · by_cases h2 : p.2 ∈ T ∧ p.1 ∉ O
    · rw [clStep_b h2]; simp
    · rw [clStep_c h1 h2]; simp
theorem fold_len : ∀ (qs : List (Nat × Nat)) (s : Two), (qs.foldl clStep s).1.length ≤ s.1.length + qs.length ∧ (qs.foldl clStep s).2.length ≤ s.2.length + qs.length
  | [], s => by simp
  | p :: qs, s => by
    have a := clStep_len s p
    have b := fold_len qs (clStep s p)
    rw [List.foldl_cons, List.length_cons]
    omega
theorem sweeps_len (ps : List (Nat × Nat)) (s : Two) : ∀ k, (sweeps ps k s).1.length ≤ s.1.length + k * ps.length ∧ (sweeps ps k s).2.length ≤ s.2.length + k * ps.length
  | 0 => by simp [sweeps]
  | k + 1 => by
    have a := sweeps_len ps s k
    have b := fold_len ps (sweeps ps k s)
    show (ps.foldl clStep (sweeps ps k s)).1.length ≤ _ ∧ (ps.foldl clStep (sweeps ps k s)).2.length ≤ _
    rw [Nat.add_mul, Nat.one_mul]
    omega
/-! ### sums over a piece -/
theorem pick_set {l : List Rat} {i : Nat} {x : Rat} (hi : i < l.length) : ∀ {xs : List Nat}, xs.Nodup → (pickR (l.set i x) xs).sum = (pickR l xs).sum + (if i ∈ xs then x - l.getD i 0 else 0)
  | [], _ => by simp [pickR]; grind
  | j :: xs, h => by
    obtain ⟨h1, h2⟩ := List.nodup_cons.mp h
    have ih := pick_set (x := x) hi h2
    simp only [pickR, List.map_cons, List.sum_cons] at *
    rw [ih]
    by_cases e : i = j
    · subst e
      rw [if_neg h1, if_pos List.mem_cons_self]
      have : (l.set i x).getD i 0 = x := by rw [List.getD_eq_getElem?_getD, List.getElem?_set_self hi]; rfl
      rw [this]
      grind
    · have : (l.set i x).getD j 0 = l.getD j 0 := by rw [List.getD_eq_getElem?_getD, List.getElem?_set_ne e, ← List.getD_eq_getElem?_getD]
      rw [this]
      have : (i ∈ j :: xs) ↔ i ∈ xs := by simp [e]
      simp only [this]
      grind
theorem even_run {xs ys : List Nat} (hx : xs.Nodup) (hy : ys.Nodup) : ∀ {ps : List (Nat × Nat)} {s : Sta}, rowR s ps → (∀ p ∈ ps, (p.1 ∈ xs ↔ p.2 ∈ ys)) → (pickR (runR s ps).1 xs).sum - (pickR (runR s ps).2 ys).sum = (pickR s.1 xs).sum - (pickR s.2 ys).sum
  | [], s, _, _ => rfl
  | p :: ps, s, h, hc => by
    have ih := even_run hx hy (ps := ps) (s := payR s p) h.2 fun q hq => hc q (List.mem_cons_of_mem _ hq)
    show (pickR (runR (payR s p) ps).1 xs).sum - (pickR (runR (payR s p) ps).2 ys).sum = _
    rw [ih]
    have c := hc p List.mem_cons_self
    simp only [payR]
    rw [pick_set h.1.1 hx, pick_set h.1.2.1 hy]
    by_cases e : p.1 ∈ xs
    · rw [if_pos e, if_pos (c.mp e)]; grind
    · rw [if_neg e, if_neg (fun z => e (c.mpr z))]; grind
theorem pick_zero {l : List Rat} (h : ∀ q ∈ l, q = 0) : ∀ xs : List Nat, (pickR l xs).sum = 0
  | [] => rfl
  | i :: xs => by
    simp only [pickR, List.map_cons, List.sum_cons]
    have e : l.getD i 0 = 0 := by
      rw [List.getD_eq_getElem?_getD]
      cases hi : l[i]? with
      | none => rfl
      | some q => exact h q (List.mem_of_getElem? hi)
    have ih := pick_zero h xs
    simp only [pickR] at ih
    rw [e, ih]
    grind
theorem run_un2 {j : Nat} : ∀ {ps : List (Nat × Nat)} {s : Sta}, (∀ p ∈ ps, p.2 ≠ j) → (runR s ps).2.getD j 0 = s.2.getD j 0
  | [], s, _ => rfl
  | p :: ps, s, h => by
    show (runR (payR s p) ps).2.getD j 0 = _
    rw [run_un2 fun q hq => h q (List.mem_cons_of_mem _ hq)]
    simp only [payR]
    rw [List.getD_eq_getElem?_getD, List.getElem?_set_ne (h p List.mem_cons_self), ← List.getD_eq_getElem?_getD]
theorem way_cover {s : Sta} {ps : List (Nat × Nat)} (hz : ∀ q ∈ (runR s ps).2, q = 0) (hp : ∀ q ∈ s.2, 0 < q) : ∀ j, j < s.2.length → ∃ p ∈ ps, p.2 = j := by
  intro j hj
  rcases Classical.em (∃ p ∈ ps, p.2 = j) with h | h
  · exact h
  · exfalso
    have e := run_un2 (s := s) (ps := ps) (j := j) fun p hp e => h ⟨p, hp, e⟩
    have l := (run_len s ps).2
    have a : (runR s ps).2.getD j 0 = 0 := hz _ (getD_mem (x := 0) (by omega))
    have b : 0 < s.2.getD j 0 := hp _ (getD_mem (x := 0) hj)
    rw [a] at e
    rw [← e] at b
    exact absurd b (by decide)
theorem piece_even {s : Sta} {ps : List (Nat × Nat)} {g : List Nat × List Nat} (hr : rowR s ps) (hps : ∀ p ∈ ps, p.1 < s.1.length ∧ p.2 < s.2.length) (h1 : ∀ q ∈ (runR s ps).1, q = 0) (h2 : ∀ q ∈ (runR s ps).2, q = 0) (hg : IsPc s.1.length s.2.length ps g) : (pickR s.1 g.1).sum = (pickR s.2 g.2).sum := by
  obtain ⟨⟨i, hi, a1, a2⟩, b1, b2⟩ := hg
  have c := even_run (xs := g.1) (ys := g.2) (b1.imp fun h => by omega) (b2.imp fun h => by omega) hr fun p hp => by
    obtain ⟨u, v⟩ := hps p hp
    have pc := Conn.pair (n := s.1.length) hp
    rw [a1, a2]
    exact ⟨fun ⟨_, z⟩ => ⟨v, z.trans pc⟩, fun ⟨_, z⟩ => ⟨u, z.trans pc.symm⟩⟩
  rw [pick_zero h1, pick_zero h2] at c
  grind
theorem asc_B {xs : List Nat} (h : xs.Pairwise (· < ·)) : ascB (xs.map fun (i : Nat) => ((i : Nat) : Int)) = true := by
  unfold ascB
  rw [List.all_eq_true]
  intro k hk
  rw [List.mem_range, List.length_map] at hk
  rw [decide_eq_true_eq, List.getD_eq_getElem?_getD, List.getD_eq_getElem?_getD, List.getElem?_map, List.getElem?_map, List.getElem?_eq_getElem (show k < xs.length by omega), List.getElem?_eq_getElem (show k + 1 < xs.length by omega)]
  have := List.pairwise_iff_getElem.mp h k (k + 1) (by omega) (by omega) (by omega)
  simp only [Option.map_some, Option.getD_some]
  omega
theorem pc_even {s : Sta} {ps : List (Nat × Nat)} {g : List Nat × List Nat} (hr : rowR s ps) (hps : ∀ p ∈ ps, p.1 < s.1.length ∧ p.2 < s.2.length) (h1 : ∀ q ∈ (runR s ps).1, q = 0) (h2 : ∀ q ∈ (runR s ps).2, q = 0) (hg : IsPc s.1.length s.2.length ps g) : IsEven s.1 s.2 (grpT g.1 g.2) := by
  have e := piece_even hr hps h1 h2 hg
  obtain ⟨⟨i, hi, a1, a2⟩, b1, b2⟩ := hg
  have hm := (a1 i).mpr ⟨hi, Conn.refl _⟩
  exact ⟨g.1, g.2, rfl, ⟨fun j hj => ((a1 j).mp hj).1, fun j hj => ((a2 j).mp hj).1, asc_B b1, asc_B b2, by have := List.length_pos_of_mem hm; omega⟩, e⟩
theorem asc_len {xs : List Nat} (h : xs.Pairwise (· < ·)) {n : Nat} (hn : ∀ i ∈ xs, i < n) : xs.length ≤ n := by
  have : ∀ (xs : List Nat) (k : Nat), xs.Pairwise (· < ·) → (∀ i ∈ xs, k ≤ i ∧ i < n) → k ≤ n → xs.length + k ≤ n := by
    intro xs
    induction xs with
    | nil => intro k _ _ h; simpa using h
    | cons x xs ih =>
      intro k hp hx hk
      obtain ⟨p1, p2⟩ := List.pairwise_cons.mp hp
      have hx0 := hx x List.mem_cons_self
      have := ih (x + 1) p2 (fun i hi => ⟨p1 i hi, (hx i (List.mem_cons_of_mem _ hi)).2⟩) (by omega)
      rw [List.length_cons]
      omega
  have := this xs 0 h (fun i hi => ⟨Nat.zero_le _, hn i hi⟩) (Nat.zero_le _)
  omega
theorem natsD_th (is : List Nat) : thOf (natsD is) = .tup (is.map nth) := by
  simp only [natsD, thOf, thAll_map, List.map_map]
  rfl
theorem grpD_th {H : Hp} {v : V} {g : List Nat × List Nat} (h : Im H v (grpD g)) : ThR (fun _ => True) H v (grpT g.1 g.2) := by
  have := Im.th (P := fun _ => True) _ h
  have e : thOf (grpD g) = grpT g.1 g.2 := by
    simp only [grpD, thOf, thAll, natsD_th]; rfl
  rw [e] at this
  exact this
theorem shaped_lst {ds : List PyData} {n : Nat} (hn : n < 64) (h : ∀ d ∈ ds, d.canLay0 = true ∧ d.depth ≤ n) : SeqAt.shaped (.list ds) = true := by
  unfold SeqAt.shaped
  have h1 := canAll_of fun d hd => (h d hd).1
  have h2 := depthAll_of fun d hd => (h d hd).2
  rw [Bool.and_eq_true]
  exact ⟨by simp only [PyData.canLay0]; exact h1, decide_eq_true (by simp only [PyData.depth]; omega)⟩
theorem natsD_can (is : List Nat) : (natsD is).canLay0 = true ∧ (natsD is).depth ≤ 1 := by
  refine ⟨?_, ?_⟩
  · simp only [natsD, PyData.canLay0]
    exact canAll_of fun d hd => by
      obtain ⟨i, _, rfl⟩ := List.mem_map.mp hd
      rfl
  · rw [natsD_map]
    simp only [PyData.depth, PySem.W.depth_ints]
    omega
theorem natsD_shaped (is : List Nat) : SeqAt.shaped (natsD is) = true := by
  unfold SeqAt.shaped
  rw [Bool.and_eq_true]
  exact ⟨(natsD_can is).1, decide_eq_true (by have := (natsD_can is).2; omega)⟩
theorem grpD_can (g : List Nat × List Nat) : (grpD g).canLay0 = true ∧ (grpD g).depth ≤ 8 := by
  refine ⟨?_, grpD_depth g⟩
  simp only [grpD, PyData.canLay0]
  exact canAll_of fun d hd => by
    rcases List.mem_cons.mp hd with rfl | hd
    · exact (natsD_can _).1
    · rcases List.mem_cons.mp hd with rfl | hd
      · exact (natsD_can _).1
      · cases hd
theorem sort_shaped (gs : List (List Nat × List Nat)) : SeqAt.shaped (.list ((gs.map grpD).mergeSort (PySem.W.dataLe false id))) = true := shaped_lst (n := 8) (by decide) fun d hd => by
  obtain ⟨g, _, rfl⟩ := List.mem_map.mp (List.mem_mergeSort.mp hd)
  exact grpD_can g
theorem dp_lst {K : PySem.W.Frag} {H : Hp} {a : Addr} {xs : List V} {ds : List PyData} (h : H a = some (.lst xs)) (i : ImL H xs ds) : Dp K H (.ref a) (.list ds) := .lst (SqL.of h) (ImL.dp ds i)
theorem i_neL {K : PySem.W.Frag} {H : Hp} {Q : VK} {a b : Addr} {xs ys : List V} {ds : List PyData} (h1 : H a = some (.lst xs)) (i1 : ImL H xs ds) (h2 : H b = some (.lst ys)) (i2 : ImL H ys ds) (s : SeqAt.shaped (.list ds) = true) (q : Q (.bl false) H) : rNeD K (.ref a) (.ref b) H Q :=
  ⟨.list ds, .list ds, dp_lst h1 i1, dp_lst h2 i2, s, s, by rw [SeqAt.eqv_refl _ (by unfold SeqAt.shaped at s; rw [Bool.and_eq_true] at s; exact s.1)]; exact q⟩
/-- a comprehension none of whose items passes -/
theorem lcFl_none {K : PySem.W.Frag} {σ : St} {H : Hp} {Q : VK} {g : TG} {tt : TT} {te : TE} {vs : List Nat} {a : Addr} {xs : List V} (ha : H a = some (.lst xs))
    (turn : ∀ (i : Nat) (x : V) (H1 : Hp) (N : V → Hp → Prop) (M : Hp → Prop), xs[i]? = some x → Same H H1 → (∀ H3, Same H1 H3 → M H3) → g x (wipe σ vs) H1 fun σ2 H2 => wipe σ2 vs = wipe σ vs ∧ tt σ2 H2 fun b H3 => if b = true then te σ2 H3 N else M H3)
    (done : ∀ D H1, H D = none → Same H H1 → H1 D = some (.lst []) → Q (.ref D) H1) : LcFl K g tt te vs σ Q (.ref a) H := by
  refine ⟨a, rfl, ⟨xs, SqL.of ha⟩, fun Dl hD => ?_⟩
  refine lc_it (walk_list (K := K) (a := a) (xs := xs)) (fun i H1 => Same H H1 ∧ H1 Dl = some (.lst [])) ⟨same_upd hD, upd_same⟩ (fun i H' _ p => SqL.of (p.1 _ _ ha)) (fun i x H1 H' hi p y => ?_) (fun H' p => done Dl H' hD p.1 p.2)
  obtain ⟨rfl, hx⟩ := y
  exact turn i x _ _ _ hx p.1 fun H3 s3 => ⟨p.1.trans s3, s3 _ _ p.2⟩
end QW

namespace QW
open PySem L2

structure CA where
  Evening : Addr
  Tally : Addr
  NotEven : Addr
  QuitsError : Addr
  BadEvening : Addr
  NoPair : Addr
structure CT (K : PySem.W.Frag) (C : CA) : Prop where
  cl : Cls K C.Evening
  nO : NoAttr K C.Evening "owed"
  nD : NoAttr K C.Evening "due"
/-- an evening at v -/
def EvAt (C : CA) (H : Hp) (v : V) (o d : List Rat) : Prop := ∃ e dx vo vd, v = .ref e ∧ H e = some (.ins C.Evening dx [("owed", vo), ("due", vd)]) ∧ Im H vo (.tuple (o.map fr)) ∧ Im H vd (.tuple (d.map fr))
theorem sm_ev {C : CA} {H H' : Hp} {v : V} {o d : List Rat} (s : Same H H') (h : EvAt C H v o d) : EvAt C H' v o d := by
  obtain ⟨e, dx, vo, vd, h1, h2, h3, h4⟩ := h
  exact ⟨e, dx, vo, vd, h1, s _ _ h2, sm_im s h3, sm_im s h4⟩
theorem kl_ev {C : CA} {m : Addr} {H H' : Hp} {v : V} {o d : List Rat} (s : KL m H H') (h : EvAt C H v o d) : EvAt C H' v o d := by
  obtain ⟨e, dx, vo, vd, h1, h2, h3, h4⟩ := h
  exact ⟨e, dx, vo, vd, h1, s.ins _ _ _ _ h2, kl_im s h3, kl_im s h4⟩
/-- g is the greatest divisor of all tops -/
def TopG (qs : List Rat) (g : Nat) : Prop := (∀ q ∈ qs, g ∣ q.num.natAbs) ∧ ∀ m : Nat, (∀ q ∈ qs, m ∣ q.num.natAbs) → m ∣ g
/-- L is the least common bottom -/
def BotL (qs : List Rat) (L : Nat) : Prop := 0 < L ∧ (∀ q ∈ qs, q.den ∣ L) ∧ ∀ m : Nat, (∀ q ∈ qs, q.den ∣ m) → L ∣ m
structure CTT (K : PySem.W.Frag) (C : CA) : Prop where
  cl : Cls K C.Tally
  nB : NoAttr K C.Tally "bottom"
  nO : NoAttr K C.Tally "owing"
  nA : NoAttr K C.Tally "awaiting"
/-- a tally at t: its unit, its two lists -/
def TalAt (C : CA) (H : Hp) (t : Addr) (D : Nat) (a b : Addr) (os ds : List Int) : Prop := ∃ dx, H t = some (.ins C.Tally dx [("bottom", .int (D : Nat)), ("owing", .ref a), ("awaiting", .ref b)]) ∧ H a = some (.lst (os.map V.int)) ∧ H b = some (.lst (ds.map V.int)) ∧ a ≠ b ∧ 0 < D ∧ D < 2 ^ 9000
theorem sm_tal {C : CA} {H H' : Hp} {t : Addr} {D : Nat} {a b : Addr} {os ds : List Int} (s : Same H H') (h : TalAt C H t D a b os ds) : TalAt C H' t D a b os ds := by
  obtain ⟨dx, h1, h2, h3, h4, h5, h6⟩ := h
  exact ⟨dx, s _ _ h1, s _ _ h2, s _ _ h3, h4, h5, h6⟩
/-- units as fractions -/
def uq (D : Nat) (os : List Int) : List Rat := os.map fun i => mkRat i D
theorem uq_get {D : Nat} {os : List Int} {i : Nat} (h : i < os.length) : (uq D os).getD i 0 = mkRat (os.getD i 0) D := by
  unfold uq
  rw [List.getD_eq_getElem?_getD, List.getD_eq_getElem?_getD, List.getElem?_map, List.getElem?_eq_getElem h]; rfl
theorem uq_len (D : Nat) (os : List Int) : (uq D os).length = os.length := List.length_map _
theorem mkRat_lt {D : Nat} (hD : 0 < D) {i j : Int} : mkRat i D < mkRat j D ↔ i < j := by
  have hD' : (0 : Rat) < (D : Rat) := by exact_mod_cast hD
  rw [Rat.mkRat_eq_div, Rat.mkRat_eq_div, Rat.div_lt_iff hD', Rat.div_mul_cancel (by grind)]
  exact_mod_cast Iff.rfl
theorem mkRat_pos {D : Nat} (hD : 0 < D) {i : Int} : 0 < mkRat i D ↔ 0 < i := by
  have := mkRat_lt hD (i := 0) (j := i)
  rwa [Rat.zero_mkRat] at this
theorem uq_can {D : Nat} (hD : 0 < D) {os ds : List Int} {p : Nat × Nat} (c : canR (uq D os, uq D ds) p) : p.1 < os.length ∧ p.2 < ds.length ∧ 0 < os.getD p.1 0 ∧ 0 < ds.getD p.2 0 := by
  obtain ⟨c1, c2, c3, c4⟩ := c
  simp only [uq_len] at c1 c2
  simp only [uq_get c1, uq_get c2, mkRat_pos hD] at c3 c4
  exact ⟨c1, c2, c3, c4⟩
theorem uq_amt {D : Nat} (hD : 0 < D) {os ds : List Int} {p : Nat × Nat} (c : canR (uq D os, uq D ds) p) : amtR (uq D os, uq D ds) p = mkRat (min (os.getD p.1 0) (ds.getD p.2 0)) D := by
  obtain ⟨c1, c2, _, _⟩ := uq_can hD c
  unfold amtR minR
  simp only [uq_get c1, uq_get c2, mkRat_lt hD]
  split
  · rw [Int.min_eq_right (by omega)]
  · rw [Int.min_eq_left (by omega)]
theorem uq_pay {D : Nat} (hD : 0 < D) {os ds : List Int} {p : Nat × Nat} (c : canR (uq D os, uq D ds) p) :
    payR (uq D os, uq D ds) p = (uq D (os.set p.1 (os.getD p.1 0 - min (os.getD p.1 0) (ds.getD p.2 0))), uq D (ds.set p.2 (ds.getD p.2 0 - min (os.getD p.1 0) (ds.getD p.2 0)))) := by
  obtain ⟨c1, c2, _, _⟩ := uq_can hD c
  unfold payR
  rw [uq_amt hD c]
  simp only [uq_get c1, uq_get c2, mkRat_sub' _ _ hD]
  unfold uq
  rw [List.map_set, List.map_set]
/-- a pair of people as data -/
def pd (p : Nat × Nat) : PyData := .tuple [.int (p.1 : Nat), .int (p.2 : Nat)]
theorem Im.pd_at {H : Hp} {v : V} {p : Nat × Nat} (h : Im H v (pd p)) : ∃ a, v = .ref a ∧ H a = some (.tup [.int (p.1 : Nat), .int (p.2 : Nat)]) := by
  simp only [pd, Im] at h
  obtain ⟨a, vs, e, ha, hl⟩ := h
  match vs, hl with
  | [x, y], hl =>
    simp only [ImL, Im] at hl
    obtain ⟨rfl, rfl, _⟩ := hl
    exact ⟨a, e, ha⟩
theorem Im.pd_of {H : Hp} {a : Addr} {p : Nat × Nat} (h : H a = some (.tup [.int (p.1 : Nat), .int (p.2 : Nat)])) : Im H (.ref a) (pd p) := by
  simp only [pd, Im, ImL]; exact ⟨a, _, rfl, h, rfl, rfl, trivial⟩
theorem get_pds {ps : List (Nat × Nat)} {i : Nat} {e : PyData} (h : (ps.map pd)[i]? = some e) : ∃ p, ps[i]? = some p ∧ e = pd p := by
  rw [List.getElem?_map] at h
  cases e1 : ps[i]? with
  | none => rw [e1] at h; cases h
  | some q => rw [e1] at h; exact ⟨q, rfl, (Option.some.inj h).symm⟩
/-- both sides as data -/
def stD (s : Sta) : PyData := .tuple [.tuple (s.1.map fr), .tuple (s.2.map fr)]
theorem map_get {ns : List Int} {i : Nat} (h : i < ns.length) : (ns.map V.int)[i]? = some (.int (ns.getD i 0)) := by
  rw [List.getElem?_map, List.getD_eq_getElem?_getD, List.getElem?_eq_getElem h]; rfl
theorem atI_nn {xs : List V} {i : Nat} {v : V} (h : xs[i]? = some v) : atI xs (i : Nat) = some v := atI_nat h
theorem ixN_nn {n i : Nat} (h : i < n) : ixN n ((i : Nat) : Int) = some i := by
  unfold ixN
  rw [if_pos (by omega), if_pos (by omega)]; rfl
theorem eqv_stD (s t : Sta) : PyData.eqv (stD s) (stD t) = decide (s = t) := by
  simp only [stD, PyData.eqv, PyData.eqvAll, Bool.and_true]
  rw [eqvAll_frs, eqvAll_frs]
  obtain ⟨a, b⟩ := s
  obtain ⟨c, d⟩ := t
  by_cases h1 : a = c <;> by_cases h2 : b = d <;> simp [h1, h2]
theorem stD_shaped (s : Sta) : SeqAt.shaped (stD s) = true := shaped_tup (n := 2) (by decide) fun d hd => by
  have h : ∀ l : List Rat, (PyData.tuple (l.map fr)).canLay0 = true ∧ (PyData.tuple (l.map fr)).depth ≤ 2 := fun l => by
    refine ⟨?_, ?_⟩
    · simp only [PyData.canLay0]
      exact canAll_of fun d hd => by
        obtain ⟨q, _, rfl⟩ := List.mem_map.mp hd
        exact (fr_can q).1
    · simp only [PyData.depth]
      have := depthAll_of (n := 1) (ds := l.map fr) fun d hd => by
        obtain ⟨q, _, rfl⟩ := List.mem_map.mp hd
        exact (fr_can q).2
      omega
  rcases List.mem_cons.mp hd with rfl | hd
  · exact h _
  · rcases List.mem_cons.mp hd with rfl | hd
    · exact h _
    · cases hd
structure CNe (K : PySem.W.Frag) (C : CA) : Prop where
  mro : PySem.W.mroIn K C.Evening (.type "object") = some true
  ne : PySem.W.findIn K (.ref C.Evening) "__ne__" = some (some (.builtin "object.__ne__"))
  cls : PySem.W.findIn K (.ref C.Evening) "__class__" = some (some (.builtin "object.__class__"))
  get : PySem.W.specialIn K (.builtin "object.__class__") "__get__" = some (some (.builtin "getset_descriptor.__get__"))
  set : PySem.W.takesIn K (.builtin "object.__class__") = some true
  isc1 : PySem.W.isClsIn K C.Evening = true
  isc2 : PySem.W.typeIn K (.ref C.Evening) = some (.type "type")
theorem CNe.isc {K : PySem.W.Frag} {C : CA} (h : CNe K C) : ((PySem.W.clsIn K C.Evening).isSome && PySem.W.typeIn K (.ref C.Evening) == some (.type "type")) = true := by
  have h1 : (PySem.W.clsIn K C.Evening).isSome = true := h.isc1
  rw [h1, h.isc2]
  simp
/-- bounds for the program's own product -/
def Bq (qs : List Rat) : Prop := qs.length ≤ 1000 ∧ ∀ q ∈ qs, q.num.natAbs < 2 ^ 4000 ∧ q.den < 2 ^ 4000
theorem mul_mkRat (p r : Rat) : mkRat (p.num * r.num) (p.den * r.den) = p * r := by
  rw [← Rat.mkRat_mul_mkRat, Rat.mkRat_self, Rat.mkRat_self]
/-- what is no evening -/
def Foreign (K : PySem.W.Frag) (C : CA) (H : Hp) (y : V) : Prop := ∃ n, TyX K H y (.type n) ∧ PySem.W.subIn K (.type n) (.ref C.Evening) = some false
theorem sub_of {K : PySem.W.Frag} {n : String} (h : ((PySem.fastBuiltinMro n).any fun l => l.all fun v => match v with | .type _ => true | _ => false) = true) (c : Addr) : PySem.W.subIn K (.type n) (.ref c) = some false := by
  show (PySem.fastBuiltinMro n).map (·.contains (.ref c)) = some false
  revert h
  generalize PySem.fastBuiltinMro n = o
  intro h
  cases o with
  | none => cases h
  | some l =>
    show some (l.contains (.ref c)) = some false
    congr 1
    rw [← Bool.not_eq_true]
    intro hc
    rw [List.contains_iff_mem] at hc
    have := List.all_eq_true.mp (show (l.all _) = true from h) _ hc
    simp at this
theorem kit_foreign {K : PySem.W.Frag} {C : CA} {n : String} (TN : CNe K C) (h : PySem.W.subIn K (.type n) (.ref C.Evening) = some false) : PySem.W.kitOne K (.type n) (.ref C.Evening) = some false := by
  unfold PySem.W.kitOne
  rw [if_neg (by simp)]
  show (if _ then PySem.W.subIn K (.type n) (.ref C.Evening) else none) = some false
  rw [if_pos TN.isc, h]
theorem row_way {H : Hp} {v : V} {ps : List (Nat × Nat)} (h : Im H v (.tuple (ps.map pd))) : ThR (fun _ => True) H v (.tup (ps.map pth)) := by
  have := Im.th (P := fun _ => True) _ h
  simp only [thOf] at this
  rw [show ps.map pd = ps.map pd0 from rfl, thAll_pd] at this
  exact this
theorem small_way {ps : List (Nat × Nat)} (h : ps.length ≤ 1000) : (Th.tup (ps.map pth)).small := Th.Sm.small (d := .tup _) (by simp only [Th.Sm, List.length_map]; exact h)
theorem row_in : ∀ {ps : List (Nat × Nat)} {s : Sta}, rowR s ps → ∀ p ∈ ps, p.1 < s.1.length ∧ p.2 < s.2.length
  | [], _, _, p, h => by cases h
  | r :: ps, s, h, p, hp => by
    rcases List.mem_cons.mp hp with rfl | hp
    · exact ⟨h.1.1, h.1.2.1⟩
    · have := row_in h.2 p hp
      have e := run_len s [r]
      simp only [runR, List.foldl_cons, List.foldl_nil] at e
      omega

local macro_rules | `(tactic| walk_at "side") => `(tactic| first
  | exact ⟨by decide, by decide⟩
  | exact ⟨by decide, by decide, by decide⟩
  | decide
  | assumption
  | omega
  | (show (0 : Int) < _; omega)
  | exact ⟨by omega, by assumption⟩
  | exact IntMulOk.of_right (PySem.intBits_le_64 (by omega) (by omega))
  | exact IntMulOk.of_left (PySem.intBits_le_64 (by omega) (by omega)))
local macro_rules | `(tactic| walk_at "ne") => `(tactic| first
  | assumption
  | (apply Ne.symm; assumption)
  | ((with_reducible apply ne_fresh); (focus assumption); walk_at "keep")
  | ((with_reducible apply ne_fresh'); (focus assumption); walk_at "keep"))
local macro_rules | `(tactic| walk_at "keep") => `(tactic| first
  | assumption
  | (with_reducible exact upd_same)
  | ((with_reducible apply sm_at); (focus assumption); walk_at "keep")
  | ((with_reducible apply sm_im); (focus assumption); walk_at "keep")
  | ((with_reducible apply sm_iml); (focus assumption); walk_at "keep")
  | ((with_reducible apply sm_hand); (focus assumption); walk_at "keep")
  | ((with_reducible apply kl_im); (focus assumption); walk_at "keep")
  | ((with_reducible apply sm_th); (focus assumption); walk_at "keep")
  | ((with_reducible apply kl_th); (focus assumption); walk_at "keep")
  | ((with_reducible apply sm_ev); (focus assumption); walk_at "keep")
  | ((with_reducible apply kl_ev); (focus assumption); walk_at "keep")
  | ((with_reducible apply kl_iml); (focus assumption); walk_at "keep")
  | ((with_reducible apply kl_tup); (focus assumption); walk_at "keep")
  | ((with_reducible apply kl_ins); (focus assumption); walk_at "keep")
  | ((with_reducible apply kl_at); (focus assumption); (focus (walk_at "ne")); walk_at "keep")
  | ((with_reducible refine kl_hand (by assumption) (by assumption) ?_ ?_) <;> walk_at "keep"))
local macro_rules | `(tactic| walk_at "sm") => `(tactic| first
  | assumption
  | (with_reducible exact Same.refl _)
  | (with_reducible exact KL.refl)
  | ((with_reducible refine Same.trans ?_ (by assumption)); walk_at "sm")
  | ((with_reducible refine KL.same ?_ (by assumption)); walk_at "sm")
  | ((with_reducible refine KL.trans ?_ (by assumption)); walk_at "sm")
  | ((with_reducible refine same_loc ?_ (by assumption) ?_); (focus (walk_at "sm")); walk_at "free")
  | ((with_reducible refine KL.loc ?_ (by assumption) ?_); (focus (walk_at "sm")); walk_at "free")
  | ((with_reducible refine Same.kl ?_); walk_at "sm"))
local macro_rules | `(tactic| walk_at "free") => `(tactic| first
  | assumption
  | ((with_reducible refine' Same.free' (by assumption) ?_); walk_at "free")
  | ((with_reducible refine' KL.free (by assumption) ?_); walk_at "free"))
local macro_rules | `(tactic| walk_at "st") => `(tactic| first
  | with_reducible apply i_seq
  | with_reducible apply i_set
  | ((with_reducible apply i_var); exact rfl)
  | with_reducible apply i_c
  | with_reducible apply i_op
  | with_reducible apply i_rI0
  | with_reducible apply i_ret
  | with_reducible apply i_test
  | with_reducible apply i_bk
  | with_reducible apply i_nil
  | with_reducible apply i_cons
  | with_reducible apply i_drop
  | with_reducible apply i_ifS
  | with_reducible apply i_and
  | with_reducible apply i_or
  | with_reducible apply i_not
  | with_reducible apply i_andV
  | with_reducible apply i_orV
  | with_reducible apply i_notV
  | with_reducible apply i_ifE
  | with_reducible apply i_chain
  | with_reducible apply i_b
  | with_reducible apply i_cb
  | with_reducible apply i_un
  | with_reducible apply i_rU
  | with_reducible apply i_next
  | with_reducible apply i_break
  | with_reducible apply i_cont
  | with_reducible apply i_asg
  | with_reducible apply i_gname
  | with_reducible apply i_gsub
  | with_reducible apply i_tupE
  | with_reducible apply i_lstE
  | with_reducible apply i_callE
  | with_reducible apply i_make
  | with_reducible apply i_abs
  | with_reducible apply i_int1
  | with_reducible apply i_max2
  | with_reducible apply i_min2
  | with_reducible apply i_bm
  | with_reducible apply i_sl
  | with_reducible apply i_noPart
  | with_reducible apply i_part
  | with_reducible apply i_partI
  | with_reducible apply i_gcd
  | with_reducible apply i_fld
  | with_reducible apply i_revL
  | with_reducible apply i_forR
  | with_reducible apply i_forT
  | with_reducible apply i_forET
  | with_reducible apply i_lcE
  | with_reducible apply i_sortSet
  | with_reducible apply i_forL
  | with_reducible apply i_lcR
  | with_reducible apply i_meth
  | with_reducible apply i_sfld
  | with_reducible apply i_augS
  | with_reducible apply i_ipI
  | with_reducible apply i_lcT
  | with_reducible apply i_lcL
  | with_reducible apply i_lcFl
  | with_reducible apply i_isi_ii
  | with_reducible apply i_isi_bb
  | with_reducible apply i_notB
  | with_reducible apply i_isB
  | with_reducible apply i_lcTt
  | with_reducible apply i_lcR2
  | with_reducible apply i_rz
  | with_reducible apply i_makeS
  | with_reducible apply i_mkO
  | with_reducible apply i_ost
  | with_reducible apply i_xf
  | with_reducible apply i_yes
  | with_reducible apply i_tryMany
  | with_reducible apply i_tryAs
  | with_reducible apply i_callS
  | with_reducible apply i_tupRg1
  | with_reducible apply i_lstRg1
  | with_reducible apply i_revT
  | ((with_reducible refine i_dnew ?_); intro p H' hp s e)
  | ((with_reducible refine i_disp1 ?_); intro p H' kvs hp s e)
  | with_reducible apply i_isi_ib
  | ((with_reducible refine' i_isi_tt ?h ?_); (case h => walk_at "keep"))
  | ((with_reducible apply i_eq); exact rfl)
  | ((with_reducible apply i_ne); exact rfl)
  | ((with_reducible apply i_ixL); (focus (walk_at "keep")); (focus (exact rfl)))
  | ((with_reducible apply i_ixT); (focus (walk_at "keep")); (focus (exact rfl)))
  | ((with_reducible refine' i_setL ?h ?e ?_); (case h => walk_at "keep"); (case e => exact rfl); intro H' s e)
  | ((with_reducible apply i_len); (focus (walk_at "keep")))
  | ((with_reducible apply i_lenT); (focus (walk_at "keep")))
  | ((with_reducible refine' i_revL' ?h ?_); (case h => walk_at "keep"); intro p H' hp s e)
  | ((with_reducible refine' i_slL ?h ?_); (case h => walk_at "keep"); intro p H' hp s e)
  | ((with_reducible refine' i_gtup2 ?h ?_); (case h => walk_at "keep"))
  | ((with_reducible refine' i_gtup12 ?h ?h2 ?_); (case h => walk_at "keep"); (case h2 => walk_at "keep"))
  | ((with_reducible refine' i_gtup3 ?h ?_); (case h => walk_at "keep"))
  | ((with_reducible refine' i_tyL ?h ?_); (case h => walk_at "keep"))
  | ((with_reducible refine' i_newO ?h ?_); (case h => (simp only [List.length_cons, List.length_nil]; decide)); intro p H' hp s e)
  | ((with_reducible refine' i_rI ?c ?_); (case c => walk_at "side"))
  | (with_reducible refine' ite_ndT ?_)
  | (with_reducible refine' ite_dT ?_)
  | (with_reducible refine' iteT ?_)
  | (with_reducible refine' iteF ?_)
  | (with_reducible refine' ite_nT ?_)
  | (with_reducible refine' ite_nF ?_))
local macro_rules | `(tactic| walk_at "go") => `(tactic| repeat (walk_at "st"))

structure Bi (mg : Str → Option Value) (C : CA) : Prop where
  b_abs : mg "abs" = none
  b_all : mg "all" = none
  b_any : mg "any" = none
  b_bool : mg "bool" = none
  b_enumerate : mg "enumerate" = none
  b_int : mg "int" = none
  b_isinstance : mg "isinstance" = none
  b_len : mg "len" = none
  b_list : mg "list" = none
  b_max : mg "max" = none
  b_min : mg "min" = none
  b_range : mg "range" = none
  b_set : mg "set" = none
  b_sorted : mg "sorted" = none
  b_sum : mg "sum" = none
  b_tuple : mg "tuple" = none
  g_MOST_SUMS : ∃ u, mg "MOST_SUMS" = some (u) ∧ RelV (.int 100) u
  g_gcd : mg "gcd" = some (.builtin "math.gcd")
  g_lcm : mg "lcm" = some (.builtin "math.lcm")

def top (i : Nat) : Stmt := PySem.Challenge.pw_quitsways_k10_whole_doubles_and_pieces.main.body.getD i (.Pass ⟨0, 0, 0, 0⟩)

/-! ### Tally.pay -/
abbrev s_Tally_pay : Stmt := inClass (top 22) 2
def sp_Tally_pay (K : PySem.W.Frag) (C : CA) : Sp := fun vs H Q _ => ∃ (t a b : Addr) (D : Nat) (os ds : List Int) (i j : Nat), vs = [.ref t, .int (i : Nat), .int (j : Nat)] ∧ TalAt C H t D a b os ds ∧ i < os.length ∧ j < ds.length ∧
  ∀ H', KS [a, b] H H' → TalAt C H' t D a b (os.set i (os.getD i 0 - min (os.getD i 0) (ds.getD j 0))) (ds.set j (ds.getD j 0 - min (os.getD i 0) (ds.getD j 0))) → Q (.int (min (os.getD i 0) (ds.getD j 0))) H'

@[reducible] def N_Tally_pay : List Str := ["self", "ower", "taker", "units"]
def t_Tally_pay (K : PySem.W.Frag) (C : CA) : TS :=
  (tSeq (tAsg (tCB cMin2 (tCons (tOp (rIxL K) (tFld K (tVar 0) "owing") (tVar 1)) (tCons (tOp (rIxL K) (tFld K (tVar 0) "awaiting") (tVar 2)) tNil))) (gName 3)) (tSeq (tAugS (tFld K (tVar 0) "owing") (tVar 1) (tVar 3) (rGetL K) (ipI fun i j => i - j) rSetL) (tSeq (tAugS (tFld K (tVar 0) "awaiting") (tVar 2) (tVar 3) (rGetL K) (ipI fun i j => i - j) rSetL) (tRet (tVar 3)))))

theorem rd_Tally_pay {K : PySem.W.Frag} {C : CA} (TT : CTT K C) {vs : List V} {H : Hp} {Q : VK} {E : XK} (h : sp_Tally_pay K C vs H Q E) : t_Tally_pay K C { nx := fun _ H' => Q .non H', rt := Q } (start N_Tally_pay vs) H := by
  obtain ⟨t, a, b, D, os, ds, i, j, rfl, ⟨dx, ht, ha, hb, hab, hD, hD9⟩, hi, hj, q⟩ := h
  unfold t_Tally_pay
  walk_at "go"
  refine i_fld' ht TT.cl TT.nO rfl ?_
  walk_at "go"
  refine i_ixL ha (atI_nn (map_get hi)) ?_
  walk_at "go"
  refine i_fld' ht TT.cl TT.nA rfl ?_
  walk_at "go"
  refine i_ixL hb (atI_nn (map_get hj)) ?_
  walk_at "go"
  refine i_fld' ht TT.cl TT.nO rfl ?_
  walk_at "go"
  refine i_getL ha (by omega) (by rw [Int.toNat_natCast]; exact map_get hi) ?_
  walk_at "go"
  refine i_setL ha (ixN_nn (by rw [List.length_map]; exact hi)) (fun H1 k1 e1 => ?_)
  have ht1 := k1.ins _ _ _ _ ht
  have hb1 := k1.keep _ _ hab.symm hb
  walk_at "go"
  refine i_fld' ht1 TT.cl TT.nA rfl ?_
  walk_at "go"
  refine i_getL hb1 (by omega) (by rw [Int.toNat_natCast]; exact map_get hj) ?_
  walk_at "go"
  refine i_setL hb1 (ixN_nn (by rw [List.length_map]; exact hj)) (fun H2 k2 e2 => ?_)
  walk_at "go"
  refine q H2 ((k1.ks (by simp)).trans (k2.ks (by simp))) ⟨dx, k2.ins _ _ _ _ ht1, ?_, ?_, hab, hD, hD9⟩
  · rw [k2.keep _ _ hab e1, List.map_set]
  · rw [e2, List.map_set]

theorem sc_Tally_pay : FnScope N_Tally_pay ["self", "ower", "taker"] (defScope s_Tally_pay) := ⟨rfl, rfl, rfl, by decide +kernel, rfl, by decide +kernel, by decide +kernel⟩
theorem ok_Tally_pay {P : Program} {w : World} {K : PySem.W.Frag} {mg : Str → Option Value} {base : Heap} {C : CA} {f : Addr} {fd : FuncData} (T : CT K C) (TT : CTT K C) (B : Bi mg C) (F : Fun K "pay" "Tally.pay" s_Tally_pay f fd)  : FnOk P w K mg base CX0 1 f fd ["self", "ower", "taker"] (sp_Tally_pay K C) := by
  refine F.ok sc_Tally_pay (fun vs H Q E h => ?_) (fun cdv A outer s H vs Q E hr h => ⟨t_Tally_pay K C, ?_, rd_Tally_pay TT h⟩)
  · obtain ⟨_, _, _, _, _, _, _, _, rfl, _⟩ := h
    rfl
  · exact (pss_cons (ps_set (i := 3) sc_Tally_pay.nd rfl (Or.inl rfl) (pe_callB (call_min2 rfl) (by rfl) B.b_min bt_min (pa_cons (pe_ix ix_list (pe_fld (pv 0) rfl) (pv 1) (fun _ _ => rfl)) (pa_cons (pe_ix ix_list (pe_fld (pv 0) rfl) (pv 2) (fun _ _ => rfl)) pa_nil)))) (pss_cons (ps_augS (pe_fld (pv 0) rfl) (pv 1) pg_list (pv 3) ip_sub set_list) (pss_cons (ps_augS (pe_fld (pv 0) rfl) (pv 2) pg_list (pv 3) ip_sub set_list) (pss_one (ps_ret (pv 3))))))

/-! ### is_integer -/
abbrev s_is_integer : Stmt := top 7
def sp_is_integer (K : PySem.W.Frag) (C : CA) : Sp := fun vs H Q _ => ∃ (v : V) (d : Th) (P : Addr → Prop), vs = [v] ∧ ThR P H v d ∧ Q (.bl (d.isInt && !d.isBl)) H

@[reducible] def N_is_integer : List Str := ["thing"]
def t_is_integer (K : PySem.W.Frag) (C : CA) : TS :=
  (tRet (tAndV (tCB (rIsi K) (tCons (tVar 0) (tCons (tC (.ty "int")) tNil))) (tNotV (tCB (rIsi K) (tCons (tVar 0) (tCons (tC (.ty "bool")) tNil))))))

theorem rd_is_integer {K : PySem.W.Frag} {C : CA} {vs : List V} {H : Hp} {Q : VK} {E : XK} (h : sp_is_integer K C vs H Q E) : t_is_integer K C { nx := fun _ H' => Q .non H', rt := Q } (start N_is_integer vs) H := by
  obtain ⟨v, d, P, rfl, hv, q⟩ := h
  unfold t_is_integer
  walk_at "go"
  refine i_isi_intT hv ?_
  walk_at "go"
  refine ite_b (fun h1 => ?_) (fun h1 => ?_)
  · walk_at "go"
    refine i_isi_blT hv ?_
    walk_at "go"
    rw [h1, Bool.true_and] at q
    exact q
  · rw [h1, Bool.false_and] at q
    exact q

theorem sc_is_integer : FnScope N_is_integer ["thing"] (defScope s_is_integer) := ⟨rfl, rfl, rfl, by decide +kernel, rfl, by decide +kernel, by decide +kernel⟩
theorem ok_is_integer {P : Program} {w : World} {K : PySem.W.Frag} {mg : Str → Option Value} {base : Heap} {C : CA} {f : Addr} {fd : FuncData} (T : CT K C) (TT : CTT K C) (B : Bi mg C) (F : Fun K "is_integer" "is_integer" s_is_integer f fd)  : FnOk P w K mg base CX0 1 f fd ["thing"] (sp_is_integer K C) := by
  refine F.ok sc_is_integer (fun vs H Q E h => ?_) (fun cdv A outer s H vs Q E hr h => ⟨t_is_integer K C, ?_, rd_is_integer h⟩)
  · obtain ⟨_, _, _, rfl, _⟩ := h
    rfl
  · exact (pss_one (ps_ret (pe_and (pe_callB call_isi (by rfl) B.b_isinstance bt_isinstance (pa_cons (pv 0) (pa_cons (pe_bltn (v := .ty "int") (by rfl) B.b_int bt_int rfl) pa_nil))) (pe_one (pe_not (pe_callB call_isi (by rfl) B.b_isinstance bt_isinstance (pa_cons (pv 0) (pa_cons (pe_bltn (v := .ty "bool") (by rfl) B.b_bool bt_bool rfl) pa_nil))))))))

/-! ### is_number_below -/
abbrev s_is_number_below : Stmt := top 8
def sp_is_number_below (K : PySem.W.Frag) (C : CA) : Sp := fun vs H Q _ => ∃ (v : V) (d : Th) (P : Addr → Prop) (n : Nat), vs = [v, .int (n : Nat)] ∧ ThR P H v d ∧ Q (.bl (d.blw n)) H
theorem below_of {d : Th} {n : Int} (h : (d.isInt && !d.isBl) = true) : ∃ i, d = .int i ∧ d.blw n = decide (0 ≤ i ∧ i < n) := by
  cases d with
  | int i => exact ⟨i, rfl, rfl⟩
  | bl b => simp [Th.isInt, Th.isBl] at h
  | tup l => simp [Th.isInt] at h
  | oth => simp [Th.isInt] at h
theorem below_no {d : Th} {n : Int} (h : (d.isInt && !d.isBl) = false) : d.blw n = false := by
  cases d with
  | int i => simp [Th.isInt, Th.isBl] at h
  | bl b => rfl
  | tup l => rfl
  | oth => rfl

@[reducible] def N_is_number_below : List Str := ["thing", "many"]
def t_is_number_below (K : PySem.W.Frag) (C : CA) : TS :=
  (tRet (tAndV (tCall (sp_is_integer K C) [] E0 (tCons (tVar 0) tNil)) (tChain oLe oLt (tC (.int 0)) (tVar 0) (tVar 1))))

theorem rd_is_number_below {K : PySem.W.Frag} {C : CA} {vs : List V} {H : Hp} {Q : VK} {E : XK} (h : sp_is_number_below K C vs H Q E) : t_is_number_below K C { nx := fun _ H' => Q .non H', rt := Q } (start N_is_number_below vs) H := by
  obtain ⟨v, d, P, n, rfl, hv, q⟩ := h
  unfold t_is_number_below
  walk_at "go"
  refine ⟨v, d, P, rfl, hv, ?_⟩
  walk_at "go"
  refine ite_b (fun h1 => ?_) (fun h1 => ?_)
  · obtain ⟨i, rfl, e⟩ := below_of (n := n) h1
    rw [e] at q
    simp only [ThR] at hv
    subst hv
    walk_at "go"
    refine ite_d (fun h2 => ?_) (fun h2 => ?_)
    · walk_at "go"
      have e2 : decide (0 ≤ i ∧ i < (n : Int)) = decide (i < (n : Int)) := by simp [h2]
      rw [e2] at q
      exact q
    · have e2 : decide (0 ≤ i ∧ i < (n : Int)) = false := decide_eq_false (fun z => h2 z.1)
      rw [e2] at q
      exact q
  · rw [below_no h1] at q
    exact q

theorem sc_is_number_below : FnScope N_is_number_below ["thing", "many"] (defScope s_is_number_below) := ⟨rfl, rfl, rfl, by decide +kernel, rfl, by decide +kernel, by decide +kernel⟩
theorem ok_is_number_below {P : Program} {w : World} {K : PySem.W.Frag} {mg : Str → Option Value} {base : Heap} {C : CA} {f : Addr} {fd : FuncData} (T : CT K C) (TT : CTT K C) (B : Bi mg C) (F : Fun K "is_number_below" "is_number_below" s_is_number_below f fd) (D_is_integer : Okd P w K mg base 1 "is_integer" ["thing"] (sp_is_integer K C)) : FnOk P w K mg base CX0 2 f fd ["thing", "many"] (sp_is_number_below K C) := by
  refine F.ok sc_is_number_below (fun vs H Q E h => ?_) (fun cdv A outer s H vs Q E hr h => ⟨t_is_number_below K C, ?_, rd_is_number_below h⟩)
  · obtain ⟨_, _, _, _, rfl, _⟩ := h
    rfl
  · exact (pss_one (ps_ret (pe_and (pe_callD D_is_integer (hr.mono (by decide)) (pa_cons (pv 0) pa_nil)) (pe_one (pe_chain op_le op_lt pe_int (pv 0) (pv 1))))))

/-! ### is_two_people -/
abbrev s_is_two_people : Stmt := top 11
def sp_is_two_people (K : PySem.W.Frag) (C : CA) : Sp := fun vs H Q _ => ∃ (v : V) (d : Th) (P : Addr → Prop) (n m : Nat), vs = [v, .int (n : Nat), .int (m : Nat)] ∧ ThR P H v d ∧ Q (.bl (d.two n m)) H

@[reducible] def N_is_two_people : List Str := ["thing", "owers", "takers"]
def t_is_two_people (K : PySem.W.Frag) (C : CA) : TS :=
  (tSeq (tIfS (tOr (tNot (tB (tCB (rIsi K) (tCons (tVar 0) (tCons (tC (.ty "tuple")) tNil))))) (tTest (tOp rNe (tCB (cLen K) (tCons (tVar 0) tNil)) (tC (.int 2))))) (tRet (tC (.bl false))) tNext) (tRet (tAndV (tCall (sp_is_number_below K C) [] E0 (tCons (tOp (rIxT K) (tVar 0) (tC (.int 0))) (tCons (tVar 1) tNil))) (tCall (sp_is_number_below K C) [] E0 (tCons (tOp (rIxT K) (tVar 0) (tC (.int 1))) (tCons (tVar 2) tNil))))))

theorem two_len {l : List Th} (n m : Int) (h : l.length ≠ 2) : (Th.tup l).two n m = false := by
  match l, h with
  | [], _ => rfl
  | [_], _ => rfl
  | [_, _], h => exact absurd rfl h
  | _ :: _ :: _ :: _, _ => rfl
theorem two_no {d : Th} (n m : Int) (h : d.isTup = false) : d.two n m = false := by
  cases d with
  | tup l => simp [Th.isTup] at h
  | int i => rfl
  | bl b => rfl
  | oth => rfl
theorem rd_is_two_people {K : PySem.W.Frag} {C : CA} {vs : List V} {H : Hp} {Q : VK} {E : XK} (h : sp_is_two_people K C vs H Q E) : t_is_two_people K C { nx := fun _ H' => Q .non H', rt := Q } (start N_is_two_people vs) H := by
  obtain ⟨v, d, P, n, m, rfl, hv, q⟩ := h
  unfold t_is_two_people
  rcases th_cases d with ⟨l, rfl⟩ | ⟨h1, _⟩
  · obtain ⟨a, xs, rfl, ha, hl⟩ := hv.tup_at
    have hlen := hl.length
    walk_at "go"
    refine ite_nd (fun h => ?_) (fun h => ?_)
    · walk_at "go"
      rw [two_len _ _ (fun z => h (by rw [hlen, z]; rfl))] at q
      exact q
    · walk_at "go"
      have h' : xs.length = 2 := by injection h with h; omega
      obtain ⟨vx, vy, rfl⟩ := len_two h'
      match l, hl, ha with
      | [x, y], hl, ha =>
        simp only [ThL] at hl
        walk_at "go"
        refine ⟨vx, x, P, n, rfl, hl.1, ?_⟩
        walk_at "go"
        simp only [Th.two] at q
        refine ite_b (fun h1 => ?_) (fun h1 => ?_)
        · walk_at "go"
          refine ⟨vy, y, P, m, rfl, hl.2.1, ?_⟩
          rw [h1, Bool.true_and] at q
          exact q
        · rw [h1, Bool.false_and] at q
          exact q
  · walk_at "go"
    refine i_isi_tupT hv ?_
    rw [h1]
    walk_at "go"
    rw [two_no _ _ h1] at q
    exact q

theorem sc_is_two_people : FnScope N_is_two_people ["thing", "owers", "takers"] (defScope s_is_two_people) := ⟨rfl, rfl, rfl, by decide +kernel, rfl, by decide +kernel, by decide +kernel⟩
theorem ok_is_two_people {P : Program} {w : World} {K : PySem.W.Frag} {mg : Str → Option Value} {base : Heap} {C : CA} {f : Addr} {fd : FuncData} (T : CT K C) (TT : CTT K C) (B : Bi mg C) (F : Fun K "is_two_people" "is_two_people" s_is_two_people f fd) (D_is_number_below : Okd P w K mg base 2 "is_number_below" ["thing", "many"] (sp_is_number_below K C)) : FnOk P w K mg base CX0 3 f fd ["thing", "owers", "takers"] (sp_is_two_people K C) := by
  refine F.ok sc_is_two_people (fun vs H Q E h => ?_) (fun cdv A outer s H vs Q E hr h => ⟨t_is_two_people K C, ?_, rd_is_two_people h⟩)
  · obtain ⟨_, _, _, _, _, rfl, _⟩ := h
    rfl
  · exact (pss_cons (ps_if (PW.pt (pw_or (pt_not (pt_val (pe_callB call_isi (by rfl) B.b_isinstance bt_isinstance (pa_cons (pv 0) (pa_cons (pe_bltn (v := .ty "tuple") (by rfl) B.b_tuple bt_tuple rfl) pa_nil))))) (pw_or1 (pt_cmpR op_ne (pe_callB call_len (by rfl) B.b_len bt_len (pa_cons (pv 0) pa_nil)) pe_int (nomark _))))) (pss_one (ps_ret pe_bl)) pss_nil) (pss_one (ps_ret (pe_and (pe_callD D_is_number_below (hr.mono (by decide)) (pa_cons (pe_ix ix_tup (pv 0) pe_int (fun _ _ => rfl)) (pa_cons (pv 1) pa_nil))) (pe_one (pe_callD D_is_number_below (hr.mono (by decide)) (pa_cons (pe_ix ix_tup (pv 0) pe_int (fun _ _ => rfl)) (pa_cons (pv 2) pa_nil))))))))

/-! ### Tally.allows -/
abbrev s_Tally_allows : Stmt := inClass (top 22) 1
def sp_Tally_allows (K : PySem.W.Frag) (C : CA) : Sp := fun vs H Q _ => ∃ (t a b : Addr) (D : Nat) (os ds : List Int) (v : V) (d : Th) (P : Addr → Prop), vs = [.ref t, v] ∧ TalAt C H t D a b os ds ∧ ThR P H v d ∧
  (∀ p, d = pth p → canR (uq D os, uq D ds) p → Q (.bl true) H) ∧ ((¬ ∃ p, d = pth p ∧ canR (uq D os, uq D ds) p) → Q (.bl false) H)
theorem can_uq {D : Nat} (hD : 0 < D) {os ds : List Int} {p : Nat × Nat} (h1 : p.1 < os.length) (h2 : p.2 < ds.length) (h3 : 0 < os.getD p.1 0) (h4 : 0 < ds.getD p.2 0) : canR (uq D os, uq D ds) p := by
  refine ⟨by simpa only [uq_len] using h1, by simpa only [uq_len] using h2, ?_, ?_⟩
  · simpa only [uq_get h1, mkRat_pos hD] using h3
  · simpa only [uq_get h2, mkRat_pos hD] using h4

@[reducible] def N_Tally_allows : List Str := ["self", "thing", "ower", "taker"]
def t_Tally_allows (K : PySem.W.Frag) (C : CA) : TS :=
  (tSeq (tIfS (tNot (tB (tCall (sp_is_two_people K C) [] E0 (tCons (tVar 1) (tCons (tCB (cLen K) (tCons (tFld K (tVar 0) "owing") tNil)) (tCons (tCB (cLen K) (tCons (tFld K (tVar 0) "awaiting") tNil)) tNil)))))) (tRet (tC (.bl false))) tNext) (tSeq (tAsg (tVar 1) (gTup K 2 (gCons (gName 2) (gCons (gName 3) gNil)))) (tRet (tAndV (tOp oGt (tOp (rIxL K) (tFld K (tVar 0) "owing") (tVar 2)) (tC (.int 0))) (tOp oGt (tOp (rIxL K) (tFld K (tVar 0) "awaiting") (tVar 3)) (tC (.int 0)))))))

theorem rd_Tally_allows {K : PySem.W.Frag} {C : CA} (TT : CTT K C) {vs : List V} {H : Hp} {Q : VK} {E : XK} (h : sp_Tally_allows K C vs H Q E) : t_Tally_allows K C { nx := fun _ H' => Q .non H', rt := Q } (start N_Tally_allows vs) H := by
  obtain ⟨t, a, b, D, os, ds, v, d, P, rfl, hT, hv, q1, q2⟩ := h
  obtain ⟨dx, ht, ha, hb, hab, hD, hD9⟩ := id hT
  unfold t_Tally_allows
  walk_at "go"
  refine i_fld' ht TT.cl TT.nO rfl ?_
  walk_at "go"
  refine i_fld' ht TT.cl TT.nA rfl ?_
  walk_at "go"
  refine ⟨v, d, P, os.length, ds.length, by rw [List.length_map, List.length_map]; rfl, hv, ?_⟩
  walk_at "go"
  refine ite_nb (fun h1 => ?_) (fun h1 => ?_)
  · walk_at "go"
    refine q2 ?_
    rintro ⟨p, e, c⟩
    obtain ⟨c1, c2, c3, c4⟩ := uq_can hD c
    rw [two_iff.mpr ⟨p, e, c1, c2⟩] at h1
    cases h1
  · obtain ⟨p, rfl, h3, h4⟩ := two_iff.mp h1
    obtain ⟨w, xs, rfl, hw, hl⟩ := hv.tup_at
    match xs, hl, hw with
    | [x, y], hl, hw =>
      simp only [ThL, ThR] at hl
      obtain ⟨rfl, rfl, _⟩ := hl
      walk_at "go"
      refine i_fld' ht TT.cl TT.nO rfl ?_
      walk_at "go"
      refine i_ixL ha (atI_nn (map_get h3)) ?_
      walk_at "go"
      refine ite_d (fun h5 => ?_) (fun h5 => ?_)
      · walk_at "go"
        refine i_fld' ht TT.cl TT.nA rfl ?_
        walk_at "go"
        refine i_ixL hb (atI_nn (map_get h4)) ?_
        walk_at "go"
        by_cases h6 : 0 < ds.getD p.2 0
        · rw [decide_eq_true h6]
          exact q1 p rfl (can_uq hD h3 h4 h5 h6)
        · rw [decide_eq_false h6]
          refine q2 ?_
          rintro ⟨p', e, c⟩
          cases pth_inj e
          exact h6 (uq_can hD c).2.2.2
      · refine q2 ?_
        rintro ⟨p', e, c⟩
        cases pth_inj e
        exact h5 (uq_can hD c).2.2.1

theorem sc_Tally_allows : FnScope N_Tally_allows ["self", "thing"] (defScope s_Tally_allows) := ⟨rfl, rfl, rfl, by decide +kernel, rfl, by decide +kernel, by decide +kernel⟩
theorem ok_Tally_allows {P : Program} {w : World} {K : PySem.W.Frag} {mg : Str → Option Value} {base : Heap} {C : CA} {f : Addr} {fd : FuncData} (T : CT K C) (TT : CTT K C) (B : Bi mg C) (F : Fun K "allows" "Tally.allows" s_Tally_allows f fd) (D_is_two_people : Okd P w K mg base 3 "is_two_people" ["thing", "owers", "takers"] (sp_is_two_people K C)) : FnOk P w K mg base CX0 4 f fd ["self", "thing"] (sp_Tally_allows K C) := by
  refine F.ok sc_Tally_allows (fun vs H Q E h => ?_) (fun cdv A outer s H vs Q E hr h => ⟨t_Tally_allows K C, ?_, rd_Tally_allows TT h⟩)
  · obtain ⟨_, _, _, _, _, _, _, _, _, rfl, _⟩ := h
    rfl
  · exact (pss_cons (ps_if (pt_not (pt_val (pe_callD D_is_two_people (hr.mono (by decide)) (pa_cons (pv 1) (pa_cons (pe_callB call_len (by rfl) B.b_len bt_len (pa_cons (pe_fld (pv 0) rfl) pa_nil)) (pa_cons (pe_callB call_len (by rfl) B.b_len bt_len (pa_cons (pe_fld (pv 0) rfl) pa_nil)) pa_nil)))))) (pss_one (ps_ret pe_bl)) pss_nil) (pss_cons (ps_asg (pv 1) (pg_tup rfl (pgs_cons (pg_name (i := 2) sc_Tally_allows.nd rfl (Or.inl rfl)) (pgs_cons (pg_name (i := 3) sc_Tally_allows.nd rfl (Or.inl rfl)) pgs_nil)))) (pss_one (ps_ret (pe_and (pe_cmpR op_gt (pe_ix ix_list (pe_fld (pv 0) rfl) (pv 2) (fun _ _ => rfl)) pe_int (nomark _)) (pe_one (pe_cmpR op_gt (pe_ix ix_list (pe_fld (pv 0) rfl) (pv 3) (fun _ _ => rfl)) pe_int (nomark _))))))))

/-! ### paid_units -/
abbrev s_paid_units : Stmt := top 23
def sp_paid_units (K : PySem.W.Frag) (C : CA) : Sp := fun vs H Q _ => ∃ (t a b : Addr) (D : Nat) (os ds : List Int) (v : V) (d : Th) (P : Addr → Prop), vs = [.ref t, v] ∧ TalAt C H t D a b os ds ∧ ThR P H v d ∧ d.small ∧
  (∀ ps, d = .tup (ps.map pth) → rowR (uq D os, uq D ds) ps → ∀ (l : Addr) (us os' ds' : List Int) (H' : Hp), KS [a, b] H H' → H l = none → l ≠ a → l ≠ b → H' l = some (.lst (us.map V.int)) → TalAt C H' t D a b os' ds' → (uq D os', uq D ds') = runR (uq D os, uq D ds) ps → uq D us = amtsR (uq D os, uq D ds) ps → Q (.ref l) H') ∧
  (¬ IsRow (uq D os, uq D ds) d → ∀ H', KS [a, b] H H' → Q .non H')

@[reducible] def N_paid_units : List Str := ["tally", "thing", "units", "pair", "ower", "taker"]
def t_paid_units (K : PySem.W.Frag) (C : CA) : TS :=
  (tSeq (tIfS (tNot (tB (tCB (rIsi K) (tCons (tVar 1) (tCons (tC (.ty "tuple")) tNil))))) (tRet (tC .non)) tNext) (tSeq (tAsg (tLst tNil) (gName 2)) (tSeq (tFor (iTup K (tVar 1)) (gName 3) (tSeq (tIfS (tNot (tB (tMeth C.Tally "allows" (sp_Tally_allows K C) [] E0 (tVar 0) (tCons (tVar 3) tNil)))) (tRet (tC .non)) tNext) (tSeq (tAsg (tVar 3) (gTup K 2 (gCons (gName 4) (gCons (gName 5) gNil)))) (tDrop (tBM K "list" rAppend (tVar 2) (tCons (tMeth C.Tally "pay" (sp_Tally_pay K C) [] E0 (tVar 0) (tCons (tVar 4) (tCons (tVar 5) tNil))) tNil)))))) (tRet (tVar 2)))))

theorem rd_paid_units {K : PySem.W.Frag} {C : CA} {vs : List V} {H : Hp} {Q : VK} {E : XK} (h : sp_paid_units K C vs H Q E) : t_paid_units K C { nx := fun _ H' => Q .non H', rt := Q } (start N_paid_units vs) H := by
  obtain ⟨t, a, b, D, os, ds, v, d, P, rfl, hT, hv, hn, q1, q2⟩ := h
  obtain ⟨dx, ht, ha, hb, hab, hD, hD9⟩ := id hT
  unfold t_paid_units
  rcases th_cases d with ⟨l0, rfl⟩ | ⟨h1, h2⟩
  · obtain ⟨w, xs, rfl, hw, hl⟩ := hv.tup_at
    have hxl := hl.length
    have hsm := hn l0 rfl
    walk_at "go"
    rename_i l H0 nl s0 e0
    have la : l ≠ a := ne_fresh nl ha
    have lb : l ≠ b := ne_fresh nl hb
    refine forT_of' (sm_at s0 hw) (fun i σ H' => KS [a, b] H H' ∧ ∃ (us os' ds' : List Int) (ps : List (Nat × Nat)) (x y z : Option V), σ = [some (.ref t), some (.ref w), some (.ref l), x, y, z] ∧ H' l = some (.lst (us.map V.int)) ∧ TalAt C H' t D a b os' ds' ∧
        l0.take i = ps.map pth ∧ ps.length = us.length ∧ rowR (uq D os, uq D ds) ps ∧ (uq D os', uq D ds') = runR (uq D os, uq D ds) ps ∧ uq D us = amtsR (uq D os, uq D ds) ps) (fun _ _ => False)
      ⟨Same.ks s0, [], os, ds, [], none, none, none, rfl, e0, sm_tal s0 hT, by simp, rfl, trivial, by simp [runR], by simp [uq, amtsR]⟩ (fun i σ H' p => p.1.tup _ _ hw) ?_ ?_ (fun _ _ h => h.elim)
    · rintro i x σ H' N B hx ⟨ks, us, os', ds', ps, x1, y1, z1, rfl, hl', hT', htk, hul, hrow, hst, ham⟩ hN hB
      obtain ⟨e, he, hi⟩ := hl.get hx
      have hi' : ThR P H' x e := ks_th ks hi
      obtain ⟨dx', ht', ha', hb', _⟩ := id hT'
      have hil : i < l0.length := by
        rcases Nat.lt_or_ge i l0.length with h | h
        · exact h
        · rw [List.getElem?_eq_none h] at he; cases he
      have hpl : ps.length = i := by
        have := congrArg List.length htk
        rw [List.length_take, List.length_map] at this
        omega
      walk_at "go"
      refine i_meth' ht' rfl ?_
      walk_at "go"
      refine ⟨t, a, b, D, os', ds', x, e, P, rfl, hT', hi', fun p hp hcan => ?_, fun hno => ?_⟩
      · subst hp
        obtain ⟨c1, c2, c3, c4⟩ := uq_can hD hcan
        obtain ⟨c, vs, rfl, hc, hcl⟩ := hi'.tup_at
        match vs, hcl, hc with
        | [vx, vy], hcl, hc =>
          simp only [ThL, ThR] at hcl
          obtain ⟨rfl, rfl, _⟩ := hcl
          walk_at "go"
          refine i_meth' ht' rfl ?_
          walk_at "go"
          refine ⟨t, a, b, D, os', ds', p.1, p.2, rfl, hT', c1, c2, fun H2 k2 hT2 => ?_⟩
          have hl2 := k2.keep l _ (by simp [la, lb]) hl'
          walk_at "go"
          refine i_append hl2 (small1000 (by rw [List.length_map]; omega)) (fun H3 k3 e3 => ?_)
          walk_at "go"
          obtain ⟨dx2, ht2, ha2, hb2, _⟩ := id hT2
          refine hN _ _ ⟨?_, us ++ [min (os'.getD p.1 0) (ds'.getD p.2 0)], _, _, ps ++ [p], _, _, _, rfl, by rw [e3, List.map_append]; rfl, ⟨dx2, k3.ins _ _ _ _ ht2, k3.keep _ _ la.symm ha2, k3.keep _ _ lb.symm hb2, hab, hD, hD9⟩, ?_, by simp [hul], ?_, ?_, ?_⟩
          · exact (ks.trans k2).loc k3 nl
          · rw [List.take_add_one, he, Option.toList_some, List.map_append, htk]; rfl
          · exact rowR_append.mpr ⟨hrow, by rw [← hst]; exact hcan, trivial⟩
          · rw [runR_snoc, ← hst, uq_pay hD hcan]
          · rw [amtsR_append, ← ham, ← hst]
            simp only [amtsR, uq_amt hD hcan]
            unfold uq
            rw [List.map_append]; rfl
      · walk_at "go"
        refine q2 ?_ _ ks
        rintro ⟨ps', e', r'⟩
        have e1 : l0 = ps'.map pth := by injection e'
        have e2 : ps'.take i = ps := by
          refine pths_inj ?_
          rw [List.map_take, ← e1, htk]
        rw [e1, List.getElem?_map] at he
        cases e3 : ps'[i]? with
        | none => rw [e3] at he; cases he
        | some p =>
          rw [e3] at he
          have e4 : pth p = e := by simpa using he
          refine hno ⟨p, e4.symm, ?_⟩
          have := r'
          rw [← List.take_append_drop (i + 1) ps', rowR_append, List.take_add_one, e3, Option.toList_some, e2, rowR_append] at this
          rw [hst]
          exact this.1.2.1
    · rintro σ H' ⟨ks, us, os', ds', ps, x1, y1, z1, rfl, hl', hT', htk, hul, hrow, hst, ham⟩
      rw [hxl, List.take_length] at htk
      subst htk
      walk_at "go"
      exact q1 ps rfl hrow l us os' ds' H' ks nl la lb hl' hT' hst ham
  · walk_at "go"
    refine i_isi_tupT hv ?_
    rw [h1]
    walk_at "go"
    refine q2 ?_ _ (Same.ks (Same.refl _))
    rintro ⟨ps, e, _⟩
    exact h2 _ e

theorem sc_paid_units : FnScope N_paid_units ["tally", "thing"] (defScope s_paid_units) := ⟨rfl, rfl, rfl, by decide +kernel, rfl, by decide +kernel, by decide +kernel⟩
theorem ok_paid_units {P : Program} {w : World} {K : PySem.W.Frag} {mg : Str → Option Value} {base : Heap} {C : CA} {f : Addr} {fd : FuncData} (T : CT K C) (TT : CTT K C) (B : Bi mg C) (F : Fun K "paid_units" "paid_units" s_paid_units f fd) (D_Tally_allows : Okf P w K mg base 4 "allows" C.Tally ["self", "thing"] (sp_Tally_allows K C)) (D_Tally_pay : Okf P w K mg base 1 "pay" C.Tally ["self", "ower", "taker"] (sp_Tally_pay K C)) : FnOk P w K mg base CX0 5 f fd ["tally", "thing"] (sp_paid_units K C) := by
  obtain ⟨⟨fTally_allows, fdTally_allows, MTally_allows, GTally_allows, bTally_allows⟩, cTally_allows⟩ := D_Tally_allows
  obtain ⟨⟨fTally_pay, fdTally_pay, MTally_pay, GTally_pay, bTally_pay⟩, cTally_pay⟩ := D_Tally_pay
  refine F.ok sc_paid_units (fun vs H Q E h => ?_) (fun cdv A outer s H vs Q E hr h => ⟨t_paid_units K C, ?_, rd_paid_units h⟩)
  · obtain ⟨_, _, _, _, _, _, _, _, _, rfl, _⟩ := h
    rfl
  · exact (pss_cons (ps_if (pt_not (pt_val (pe_callB call_isi (by rfl) B.b_isinstance bt_isinstance (pa_cons (pv 1) (pa_cons (pe_bltn (v := .ty "tuple") (by rfl) B.b_tuple bt_tuple rfl) pa_nil))))) (pss_one (ps_ret pe_non)) pss_nil) (pss_cons (ps_set (i := 2) sc_paid_units.nd rfl (Or.inl rfl) (pe_lst pa_nil)) (pss_cons (ps_for PassesOwn.never rfl (pi_tup (pv 1)) (pg_name (i := 3) sc_paid_units.nd rfl (Or.inl rfl)) (pss_cons (ps_if (pt_not (pt_val (pe_meth (pv 0) cTally_allows MTally_allows GTally_allows (hr.mono (by decide)) bTally_allows .nil pass0 (pa_cons (pv 3) pa_nil)))) (pss_one (ps_ret pe_non)) pss_nil) (pss_cons (ps_asg (pv 3) (pg_tup rfl (pgs_cons (pg_name (i := 4) sc_paid_units.nd rfl (Or.inl rfl)) (pgs_cons (pg_name (i := 5) sc_paid_units.nd rfl (Or.inl rfl)) pgs_nil)))) (pss_one (ps_expr (pe_bm PySem.F.plainAttrs_list PySem.F.slot_list_append PySem.F.type_list_append mt_append (pv 2) (pa_cons (pe_meth (pv 0) cTally_pay MTally_pay GTally_pay (hr.mono (by decide)) bTally_pay .nil pass0 (pa_cons (pv 4) (pa_cons (pv 5) pa_nil))) pa_nil))))))) (pss_one (ps_ret (pv 2))))))

/-! ### common_bottom -/
abbrev s_common_bottom : Stmt := top 18
def sp_common_bottom (K : PySem.W.Frag) (C : CA) : Sp := fun vs H Q _ => ∃ (v : V) (qs : List Rat) (M : Nat), vs = [v] ∧ Im H v (.tuple (qs.map fr)) ∧ ComM qs M ∧ M.log2 < 9000 ∧
  ∀ L : Nat, 0 < L → L ∣ M → (∀ q ∈ qs, q.den ∣ L) → (∀ m, (∀ q ∈ qs, q.den ∣ m) → L ∣ m) → Q (.int (L : Nat)) H

@[reducible] def N_common_bottom : List Str := ["fractions", "shared", "_", "bottom"]
def t_common_bottom (K : PySem.W.Frag) (C : CA) : TS :=
  (tSeq (tAsg (tC (.int 1)) (gName 1)) (tSeq (tFor (iTup K (tVar 0)) (gTup K 2 (gCons (gName 2) (gCons (gName 3) gNil))) (tAsg (tCB rLcm (tCons (tVar 1) (tCons (tVar 3) tNil))) (gName 1))) (tRet (tVar 1))))

theorem rd_common_bottom {K : PySem.W.Frag} {C : CA} {vs : List V} {H : Hp} {Q : VK} {E : XK} (h : sp_common_bottom K C vs H Q E) : t_common_bottom K C { nx := fun _ H' => Q .non H', rt := Q } (start N_common_bottom vs) H := by
  obtain ⟨v, qs, M, rfl, hv, ⟨hM, hdM⟩, hlog, q⟩ := h
  obtain ⟨a, xs, rfl, ha, hl⟩ := hv.tup_at
  have hlen : xs.length = qs.length := by rw [hl.length, List.length_map]
  unfold t_common_bottom
  walk_at "go"
  refine forT_of ha (fun i σ H' => H' = H ∧ ∃ (L : Nat) (x y : Option V), σ = [some (.ref a), some (.int (L : Nat)), x, y] ∧ 0 < L ∧ L ∣ M ∧ (∀ q ∈ qs.take i, q.den ∣ L) ∧ (∀ m, (∀ q ∈ qs.take i, q.den ∣ m) → L ∣ m)) (fun _ _ => False)
    ⟨rfl, 1, none, none, rfl, by decide, Nat.one_dvd _, by simp, fun m _ => Nat.one_dvd _⟩ (fun i σ H' p b ys e => by rw [p.1]; exact e) ?_ ?_ (fun _ _ h => h.elim)
  · rintro i x σ H' N B hx ⟨rfl, L, y1, y2, rfl, h0, h1, h2, h3⟩ hN hB
    obtain ⟨e, he, hi⟩ := hl.get hx
    obtain ⟨r, hr, rfl⟩ := get_frs he
    obtain ⟨b, rfl, hb⟩ := hi.fr_at
    have hrm : r ∈ qs := List.mem_of_getElem? hr
    have hrd : 0 < r.den := Nat.pos_of_ne_zero r.den_nz
    have lL : L.log2 < 13000 := Nat.lt_trans (log2_lt_of_le (Nat.le_of_dvd hM h1) hlog (by decide)) (by decide)
    have lr : r.den.log2 < 13000 := Nat.lt_trans (log2_lt_of_le (Nat.le_of_dvd hM (hdM r hrm)) hlog (by decide)) (by decide)
    walk_at "go"
    refine i_lcm (by omega) (by omega) (by rw [Int.natAbs_natCast]; exact lL) (by rw [Int.natAbs_natCast]; exact lr) ?_
    rw [Int.natAbs_natCast, Int.natAbs_natCast]
    refine hN _ _ ⟨rfl, L.lcm r.den, _, _, rfl, Nat.lcm_pos h0 hrd, Nat.lcm_dvd h1 (hdM r hrm), ?_, ?_⟩
    · intro z hz
      rw [List.take_add_one, hr] at hz
      rcases List.mem_append.mp hz with hz | hz
      · exact Nat.dvd_trans (h2 z hz) (Nat.dvd_lcm_left _ _)
      · have e : z = r := by simpa using hz
        subst e
        exact Nat.dvd_lcm_right _ _
    · intro m hm
      rw [List.take_add_one, hr] at hm
      exact Nat.lcm_dvd (h3 m fun z hz => hm z (List.mem_append_left _ hz)) (hm r (List.mem_append_right _ (by simp)))
  · rintro σ H' ⟨rfl, L, y1, y2, rfl, h0, h1, h2, h3⟩
    rw [hlen, List.take_length] at h2 h3
    walk_at "go"
    exact q L h0 h1 h2 h3

theorem sc_common_bottom : FnScope N_common_bottom ["fractions"] (defScope s_common_bottom) := ⟨rfl, rfl, rfl, by decide +kernel, rfl, by decide +kernel, by decide +kernel⟩
theorem ok_common_bottom {P : Program} {w : World} {K : PySem.W.Frag} {mg : Str → Option Value} {base : Heap} {C : CA} {f : Addr} {fd : FuncData} (T : CT K C) (TT : CTT K C) (B : Bi mg C) (F : Fun K "common_bottom" "common_bottom" s_common_bottom f fd)  : FnOk P w K mg base CX0 1 f fd ["fractions"] (sp_common_bottom K C) := by
  refine F.ok sc_common_bottom (fun vs H Q E h => ?_) (fun cdv A outer s H vs Q E hr h => ⟨t_common_bottom K C, ?_, rd_common_bottom h⟩)
  · obtain ⟨_, _, _, rfl, _⟩ := h
    rfl
  · exact (pss_cons (ps_set (i := 1) sc_common_bottom.nd rfl (Or.inl rfl) pe_int) (pss_cons (ps_for PassesOwn.never rfl (pi_tup (pv 0)) (pg_tup rfl (pgs_cons (pg_name (i := 2) sc_common_bottom.nd rfl (Or.inl rfl)) (pgs_cons (pg_name (i := 3) sc_common_bottom.nd rfl (Or.inl rfl)) pgs_nil))) (pss_one (ps_set (i := 1) sc_common_bottom.nd rfl (Or.inl rfl) (pe_callBfun cr_lcm rfl B.g_lcm (pa_cons (pv 1) (pa_cons (pv 3) pa_nil)))))) (pss_one (ps_ret (pv 1)))))

/-! ### in_units -/
abbrev s_in_units : Stmt := top 19
def sp_in_units (K : PySem.W.Frag) (C : CA) : Sp := fun vs H Q _ => ∃ (v : V) (qs : List Rat) (L : Nat), vs = [v, .int (L : Nat)] ∧ Im H v (.tuple (qs.map fr)) ∧ 0 < L ∧ (∀ q ∈ qs, q.den ∣ L) ∧ L < 2 ^ 9000 ∧ (∀ q ∈ qs, q.num.natAbs < 2 ^ 9000) ∧ qs.length < sizeLine ∧
  ∀ p H', H p = none → Same H H' → H' p = some (.lst ((qs.map fun q => q.num * ((L : Int) / (q.den : Int))).map V.int)) → Q (.ref p) H'

@[reducible] def N_in_units : List Str := ["fractions", "shared", "top", "bottom"]
def t_in_units (K : PySem.W.Frag) (C : CA) : TS :=
  (tRet (tLc (iTup K (tVar 0)) (gTup K 2 (gCons (gName 2) (gCons (gName 3) gNil))) tYes (tOp oMul (tVar 2) (tOp oDiv (tVar 1) (tVar 3))) [2, 3]))

theorem rd_in_units {K : PySem.W.Frag} {C : CA} {vs : List V} {H : Hp} {Q : VK} {E : XK} (h : sp_in_units K C vs H Q E) : t_in_units K C { nx := fun _ H' => Q .non H', rt := Q } (start N_in_units vs) H := by
  obtain ⟨v, qs, L, rfl, hv, hL, hd, hL2, hn, hz, q⟩ := h
  obtain ⟨a, xs, rfl, ha, hl⟩ := hv.tup_at
  unfold t_in_units
  walk_at "go"
  refine lcT_of (es := qs.map fr) (fun d => match d with | .tuple [.int n, .int d] => .int (n * ((L : Int) / d)) | d => d) ha hl (by rw [List.length_map]; exact hz) (fun e x H2 N he s2 hx hN => ?_) (fun D H2 ys hD s2 e2 hy => ?_)
  · obtain ⟨r, hr, rfl⟩ := mem_frs he
    obtain ⟨b, rfl, hb⟩ := hx.fr_at
    have hrd : 0 < r.den := Nat.pos_of_ne_zero r.den_nz
    have hle : r.den ≤ L := Nat.le_of_dvd hL (hd r hr)
    walk_at "go"
    refine ⟨rfl, ?_⟩
    walk_at "go"
    refine i_rI (div_ok hrd (log2_of_lt (Nat.lt_of_le_of_lt hle hL2) (by decide))) ?_
    have hq : ((L : Int) / (r.den : Int)).natAbs < 2 ^ 9000 := by
      rw [← Int.natCast_ediv, Int.natAbs_natCast]
      exact Nat.lt_of_le_of_lt (Nat.div_le_self _ _) hL2
    refine i_rI (mul_wide (hn r hr) hq (by decide)) ?_
    exact hN _ _ (Same.refl _) (by simp only [fr]; exact Im.int')
  · refine q D H2 hD s2 ?_
    rw [e2]
    have ey : ys = (qs.map fun q => q.num * ((L : Int) / (q.den : Int))).map V.int := by
      clear e2 hz ha hl hv hd hn q
      induction qs generalizing ys with
      | nil => cases ys with
        | nil => rfl
        | cons y ys => simp [ImL] at hy
      | cons z zs ih => cases ys with
        | nil => simp [ImL] at hy
        | cons y ys =>
          simp only [List.map_cons, ImL, fr, Im] at hy
          simp only [List.map_cons]
          rw [hy.1, ih ys hy.2]
    rw [ey]

theorem sc_in_units : FnScope N_in_units ["fractions", "shared"] (defScope s_in_units) := ⟨rfl, rfl, rfl, by decide +kernel, rfl, by decide +kernel, by decide +kernel⟩
theorem ok_in_units {P : Program} {w : World} {K : PySem.W.Frag} {mg : Str → Option Value} {base : Heap} {C : CA} {f : Addr} {fd : FuncData} (T : CT K C) (TT : CTT K C) (B : Bi mg C) (F : Fun K "in_units" "in_units" s_in_units f fd)  : FnOk P w K mg base CX0 1 f fd ["fractions", "shared"] (sp_in_units K C) := by
  refine F.ok sc_in_units (fun vs H Q E h => ?_) (fun cdv A outer s H vs Q E hr h => ⟨t_in_units K C, ?_, rd_in_units h⟩)
  · obtain ⟨_, _, _, rfl, _⟩ := h
    rfl
  · exact (pss_one (ps_ret (pe_lc (own := [("top", 2), ("bottom", 3)]) (g := (gTup K 2 (gCons (gName 2) (gCons (gName 3) gNil)))) (tt := tYes) rfl sc_in_units.nd (pi_tup (pv 0)) (blkOk_by (own := [("top", 2), ("bottom", 3)]) (N := N_in_units) (sc := defScope s_in_units) (by decide +kernel)) (fun _ _ _ _ _ => (pg_tup rfl (pgs_cons (pg_name (i := 2) sc_in_units.nd rfl (Or.inl rfl)) (pgs_cons (pg_name (i := 3) sc_in_units.nd rfl (Or.inl rfl)) pgs_nil)))) (fun _ _ _ _ _ => pts_nil) (fun _ _ _ _ _ => (pe_op op_mulA (pv 2) (pe_op op_fdivW (pv 1) (pv 3)))))))

/-! ### Tally.__init__ -/
abbrev s_Tallyu_initu : Stmt := inClass (top 22) 0
def sp_Tallyu_initu (K : PySem.W.Frag) (C : CA) : Sp := fun vs H Q _ => ∃ (t dx : Addr) (v : V) (o d : List Rat), vs = [.ref t, v] ∧ H t = some (.ins C.Tally dx []) ∧ EvAt C H v o d ∧ o ≠ [] ∧ d ≠ [] ∧ Bd 8000 (o ++ d) ∧
  ∀ (a b : Addr) (D : Nat) (os ds : List Int) (H' : Hp), (∀ c x, c ≠ t → H c = some x → H' c = some x) → H a = none → H b = none → TalAt C H' t D a b os ds → uq D os = o → uq D ds = d → Q .non H'

@[reducible] def N_Tallyu_initu : List Str := ["self", "evening"]
def t_Tallyu_initu (K : PySem.W.Frag) (C : CA) : TS :=
  (tSeq (sFld K (tVar 0) (tCall (sp_common_bottom K C) [] E0 (tCons (tOp (rCatA K) (tFld K (tVar 1) "owed") (tFld K (tVar 1) "due")) tNil)) "bottom") (tSeq (sFld K (tVar 0) (tCall (sp_in_units K C) [] E0 (tCons (tFld K (tVar 1) "owed") (tCons (tFld K (tVar 0) "bottom") tNil))) "owing") (sFld K (tVar 0) (tCall (sp_in_units K C) [] E0 (tCons (tFld K (tVar 1) "due") (tCons (tFld K (tVar 0) "bottom") tNil))) "awaiting")))

theorem units_uq (L : Nat) (hL : 0 < L) (qs : List Rat) (h : ∀ q ∈ qs, q.den ∣ L) : uq L (qs.map fun q => q.num * ((L : Int) / (q.den : Int))) = qs := by
  unfold uq
  rw [List.map_map]
  conv => rhs; rw [← List.map_id qs]
  refine List.map_congr_left fun q hq => ?_
  obtain ⟨k, hk⟩ := h q hq
  have hd : q.den ≠ 0 := q.den_nz
  have e : (L : Int) / (q.den : Int) = (k : Int) := by
    rw [hk]; push_cast; exact Int.mul_ediv_cancel_left _ (by omega)
  have hk0 : k ≠ 0 := by rintro rfl; omega
  show mkRat (q.num * ((L : Int) / (q.den : Int))) L = id q
  rw [e, hk, Int.mul_comm, Nat.mul_comm, Rat.mkRat_mul_left hk0, Rat.mkRat_self]; rfl
theorem rd_Tallyu_initu {K : PySem.W.Frag} {C : CA} (T : CT K C) (TT : CTT K C) {vs : List V} {H : Hp} {Q : VK} {E : XK} (h : sp_Tallyu_initu K C vs H Q E) : t_Tallyu_initu K C { nx := fun _ H' => Q .non H', rt := Q } (start N_Tallyu_initu vs) H := by
  obtain ⟨t, dx, v, o, d, rfl, ht, ⟨e, ex, vo, vd, rfl, he, ho, hd⟩, no, nd, ⟨hlen, ⟨M, ⟨hM0, hM⟩, hMB⟩, hn⟩, q⟩ := h
  have hle : o.length + d.length ≤ 1000 := by rw [List.length_append] at hlen; exact hlen
  have het : e ≠ t := fun z => by
    subst z
    have := congrArg (fun o => match o with | some (HO.ins _ _ fs) => fs.length | _ => 0) (he.symm.trans ht)
    simp at this
  have hno : o.map fr ≠ [] := by simpa using no
  have hnd : d.map fr ≠ [] := by simpa using nd
  unfold t_Tallyu_initu
  walk_at "go"
  refine i_fld' he T.cl T.nO rfl ?_
  walk_at "go"
  refine i_fld' he T.cl T.nD rfl ?_
  refine i_catA ho hd (by rw [List.length_map, List.length_map]; exact Nat.le_of_lt (small1000 hle)) (fun w H1 s1 hw => ?_)
  rw [← List.map_append] at hw
  walk_at "go"
  refine ⟨w, o ++ d, M, rfl, hw, ⟨hM0, hM⟩, log2_of_lt (Nat.lt_trans hMB (Nat.pow_lt_pow_right (by decide) (by decide))) (by decide), fun L hL hLM hdv _ => ?_⟩
  have hL9 : L < 2 ^ 9000 := Nat.lt_of_le_of_lt (Nat.le_of_dvd hM0 hLM) (Nat.lt_trans hMB (Nat.pow_lt_pow_right (by decide) (by decide)))
  have hn9 : ∀ q ∈ o ++ d, q.num.natAbs < 2 ^ 9000 := fun q hq => Nat.lt_trans (hn q hq) (Nat.pow_lt_pow_right (by decide) (by decide))
  walk_at "go"
  refine sfO_of (s1 _ _ ht) TT.cl TT.nB (by decide) (fun H2 k2 e2 => ?_)
  have he2 := k2.keep _ _ het (s1 _ _ he)
  have ho2 := ki_im k2 (sm_im s1 ho)
  have hd2 := ki_im k2 (sm_im s1 hd)
  walk_at "go"
  refine i_fld' he2 T.cl T.nO rfl ?_
  walk_at "go"
  refine i_fld' e2 TT.cl TT.nB rfl ?_
  walk_at "go"
  refine ⟨_, o, L, rfl, ho2, hL, fun q hq => hdv q (List.mem_append_left _ hq), hL9, fun q hq => hn9 q (List.mem_append_left _ hq), small1000 (by omega), fun a H3 n3 s3 e3 => ?_⟩
  walk_at "go"
  refine sfO_of (s3 _ _ e2) TT.cl TT.nO (by show (1 : Nat) < 1000; decide) (fun H4 k4 e4 => ?_)
  have he4 := k4.keep _ _ het (s3 _ _ he2)
  have hd4 := ki_im k4 (sm_im s3 hd2)
  walk_at "go"
  refine i_fld' he4 T.cl T.nD rfl ?_
  walk_at "go"
  refine i_fld' e4 TT.cl TT.nB rfl ?_
  walk_at "go"
  refine ⟨_, d, L, rfl, hd4, hL, fun q hq => hdv q (List.mem_append_right _ hq), hL9, fun q hq => hn9 q (List.mem_append_right _ hq), small1000 (by omega), fun b H5 n5 s5 e5 => ?_⟩
  walk_at "go"
  refine sfO_of (s5 _ _ e4) TT.cl TT.nA (by show (2 : Nat) < 1000; decide) (fun H6 k6 e6 => ?_)
  walk_at "go"
  have at3 : a ≠ t := ne_fresh n3 e2
  have bt5 : b ≠ t := ne_fresh n5 e4
  have ea4 := k4.lst _ _ e3
  have hab : a ≠ b := ne_fresh' n5 ea4
  have fa : H a = none := s1.free (k2.free e2 n3)
  have fb : H b = none := s1.free (k2.free e2 (Same.free s3 (k4.free e4 n5)))
  refine q a b L _ _ H6 (fun c x hc hx => ?_) fa fb ⟨dx, e6, k6.lst _ _ (s5 _ _ ea4), k6.lst _ _ e5, hab, hL, hL9⟩ (units_uq L hL o fun q hq => hdv q (List.mem_append_left _ hq)) (units_uq L hL d fun q hq => hdv q (List.mem_append_right _ hq))
  exact k6.keep _ _ hc (s5 _ _ (k4.keep _ _ hc (s3 _ _ (k2.keep _ _ hc (s1 _ _ hx)))))

theorem sc_Tallyu_initu : FnScope N_Tallyu_initu ["self", "evening"] (defScope s_Tallyu_initu) := ⟨rfl, rfl, rfl, by decide +kernel, rfl, by decide +kernel, by decide +kernel⟩
theorem ok_Tallyu_initu {P : Program} {w : World} {K : PySem.W.Frag} {mg : Str → Option Value} {base : Heap} {C : CA} {f : Addr} {fd : FuncData} (T : CT K C) (TT : CTT K C) (B : Bi mg C) (F : Fun K "__init__" "Tally.__init__" s_Tallyu_initu f fd) (D_common_bottom : Okd P w K mg base 1 "common_bottom" ["fractions"] (sp_common_bottom K C)) (D_in_units : Okd P w K mg base 1 "in_units" ["fractions", "shared"] (sp_in_units K C)) : FnOk P w K mg base CX0 2 f fd ["self", "evening"] (sp_Tallyu_initu K C) := by
  refine F.ok sc_Tallyu_initu (fun vs H Q E h => ?_) (fun cdv A outer s H vs Q E hr h => ⟨t_Tallyu_initu K C, ?_, rd_Tallyu_initu T TT h⟩)
  · obtain ⟨_, _, _, _, _, rfl, _⟩ := h
    rfl
  · exact (pss_cons (ps_fld (pv 0) (pe_callD D_common_bottom (hr.mono (by decide)) (pa_cons (pe_op op_catA (pe_fld (pv 1) rfl) (pe_fld (pv 1) rfl)) pa_nil)) rfl) (pss_cons (ps_fld (pv 0) (pe_callD D_in_units (hr.mono (by decide)) (pa_cons (pe_fld (pv 1) rfl) (pa_cons (pe_fld (pv 0) rfl) pa_nil))) rfl) (pss_one (ps_fld (pv 0) (pe_callD D_in_units (hr.mono (by decide)) (pa_cons (pe_fld (pv 1) rfl) (pa_cons (pe_fld (pv 0) rfl) pa_nil))) rfl))))

/-! ### Tally.is_over -/
abbrev s_Tally_is_over : Stmt := inClass (top 22) 3
def sp_Tally_is_over (K : PySem.W.Frag) (C : CA) : Sp := fun vs H Q _ => ∃ (t a b : Addr) (D : Nat) (os ds : List Int), vs = [.ref t] ∧ TalAt C H t D a b os ds ∧ ∀ k, (k = true ↔ ∀ q ∈ uq D os, q = 0) → Q (.bl k) H

@[reducible] def N_Tally_is_over : List Str := ["self"]
def t_Tally_is_over (K : PySem.W.Frag) (C : CA) : TS :=
  (tRet (tNotV (tCB (rAnyI K) (tCons (tFld K (tVar 0) "owing") tNil))))

theorem mkRat_zero_iff {D : Nat} (hD : 0 < D) {i : Int} : mkRat i D = 0 ↔ i = 0 := by
  constructor
  · intro h
    have h1 : ¬ (0 : Rat) < mkRat i D := by rw [h]; grind
    have h2 : ¬ mkRat i D < 0 := by rw [h]; grind
    rw [mkRat_pos hD] at h1
    have h3 := mkRat_lt hD (i := i) (j := 0)
    rw [Rat.zero_mkRat] at h3
    rw [h3] at h2
    omega
  · rintro rfl
    exact Rat.zero_mkRat _
theorem uq_zero {D : Nat} (hD : 0 < D) (os : List Int) : ((!os.any (· != 0)) = true) ↔ ∀ q ∈ uq D os, q = 0 := by
  unfold uq
  simp only [List.mem_map, forall_exists_index, and_imp, forall_apply_eq_imp_iff₂, mkRat_zero_iff hD]
  simp
theorem rd_Tally_is_over {K : PySem.W.Frag} {C : CA} (TT : CTT K C) {vs : List V} {H : Hp} {Q : VK} {E : XK} (h : sp_Tally_is_over K C vs H Q E) : t_Tally_is_over K C { nx := fun _ H' => Q .non H', rt := Q } (start N_Tally_is_over vs) H := by
  obtain ⟨t, a, b, D, os, ds, rfl, hT, q⟩ := h
  obtain ⟨dx, ht, ha, hb, hab, hD, hD9⟩ := id hT
  unfold t_Tally_is_over
  walk_at "go"
  refine i_fld' ht TT.cl TT.nO rfl ?_
  walk_at "go"
  refine i_ranyI ha ?_
  walk_at "go"
  exact q _ (uq_zero hD os)

theorem sc_Tally_is_over : FnScope N_Tally_is_over ["self"] (defScope s_Tally_is_over) := ⟨rfl, rfl, rfl, by decide +kernel, rfl, by decide +kernel, by decide +kernel⟩
theorem ok_Tally_is_over {P : Program} {w : World} {K : PySem.W.Frag} {mg : Str → Option Value} {base : Heap} {C : CA} {f : Addr} {fd : FuncData} (T : CT K C) (TT : CTT K C) (B : Bi mg C) (F : Fun K "is_over" "Tally.is_over" s_Tally_is_over f fd)  : FnOk P w K mg base CX0 1 f fd ["self"] (sp_Tally_is_over K C) := by
  refine F.ok sc_Tally_is_over (fun vs H Q E h => ?_) (fun cdv A outer s H vs Q E hr h => ⟨t_Tally_is_over K C, ?_, rd_Tally_is_over TT h⟩)
  · obtain ⟨_, _, _, _, _, _, rfl, _⟩ := h
    rfl
  · exact (pss_one (ps_ret (pe_not (pe_callB (cr_anyI rfl) (by rfl) B.b_any bt_any (pa_cons (pe_fld (pv 0) rfl) pa_nil)))))

/-! ### is_way -/
abbrev s_is_way : Stmt := top 25
def sp_is_way (K : PySem.W.Frag) (C : CA) : Sp := fun vs H Q _ => ∃ (e v : V) (o d : List Rat) (th : Th) (P : Addr → Prop), vs = [e, v] ∧ EvAt C H e o d ∧ o ≠ [] ∧ d ≠ [] ∧ Bd 8000 (o ++ d) ∧ ThR P H v th ∧ th.small ∧
  ∀ k H', Same H H' → (k = true ↔ IsWay (o, d) th) → Q (.bl k) H'

@[reducible] def N_is_way : List Str := ["evening", "thing", "tally"]
def t_is_way (K : PySem.W.Frag) (C : CA) : TS :=
  (tSeq (tAsg (tMake C.Tally (sp_Tallyu_initu K C) [] E0 (tCons (tVar 0) tNil)) (gName 2)) (tRet (tAndV (tOp oNotN (tCall (sp_paid_units K C) [] E0 (tCons (tVar 2) (tCons (tVar 1) tNil))) (tC .non)) (tMeth C.Tally "is_over" (sp_Tally_is_over K C) [] E0 (tVar 2) tNil))))

theorem rd_is_way {K : PySem.W.Frag} {C : CA} {vs : List V} {H : Hp} {Q : VK} {E : XK} (h : sp_is_way K C vs H Q E) : t_is_way K C { nx := fun _ H' => Q .non H', rt := Q } (start N_is_way vs) H := by
  obtain ⟨e, v, o, d, th, P, rfl, hev, no, nd, hb, hv, hs, q⟩ := h
  unfold t_is_way
  walk_at "go"
  refine makeO_of fun t dx H1 n1 s1 e1 => ?_
  refine ⟨t, dx, e, o, d, rfl, e1, sm_ev s1 hev, no, nd, hb, fun a b D os ds H2 k2 fa fb hT ho hd => ⟨rfl, ?_⟩⟩
  subst ho hd
  have s2 : Same H H2 := fun c x hx => k2 c x (ne_of_none hx n1) (s1 _ _ hx)
  have fa' := s1.free fa
  have fb' := s1.free fb
  have hv2 := sm_th s2 hv
  have back : ∀ {H3 : Hp}, KS [a, b] H2 H3 → Same H H3 := fun k3 => same_ks s2 k3 fun c hc => by
    rcases List.mem_cons.mp hc with rfl | hc
    · exact fa'
    · have : c = b := by simpa using hc
      subst this; exact fb'
  walk_at "go"
  refine ⟨t, a, b, D, os, ds, v, th, _, rfl, hT, hv2, hs, fun ps e' r' l us os' ds' H3 k3 n3 la lb e3 hT3 hst ham => ?_, fun hno H3 k3 => ?_⟩
  · walk_at "go"
    refine ⟨rfl, ?_⟩
    walk_at "go"
    refine ite_nd (fun _ => ?_) (fun h => by cases h)
    obtain ⟨dx3, ht3, _⟩ := id hT3
    walk_at "go"
    refine i_meth' ht3 rfl ?_
    walk_at "go"
    refine ⟨t, a, b, D, os', ds', rfl, hT3, fun k hk => ?_⟩
    refine q _ _ (back k3) ?_
    rw [hk]
    have e4 : uq D os' = (runR (uq D os, uq D ds) ps).1 := by rw [← hst]
    rw [e4]
    constructor
    · intro z
      exact ⟨ps, e', r', z⟩
    · rintro ⟨ps', e5, _, z⟩
      have : ps = ps' := pths_inj (by rw [e'] at e5; injection e5)
      subst this
      exact z
  · walk_at "go"
    refine ⟨rfl, ?_⟩
    walk_at "go"
    exact q _ _ (back k3) ⟨fun h => by simp at h, fun ⟨ps, e', r', _⟩ => absurd ⟨ps, e', r'⟩ hno⟩

theorem sc_is_way : FnScope N_is_way ["evening", "thing"] (defScope s_is_way) := ⟨rfl, rfl, rfl, by decide +kernel, rfl, by decide +kernel, by decide +kernel⟩
theorem ok_is_way {P : Program} {w : World} {K : PySem.W.Frag} {mg : Str → Option Value} {base : Heap} {C : CA} {f : Addr} {fd : FuncData} (T : CT K C) (TT : CTT K C) (B : Bi mg C) (F : Fun K "is_way" "is_way" s_is_way f fd) (D_paid_units : Okd P w K mg base 5 "paid_units" ["tally", "thing"] (sp_paid_units K C)) (D_Tallyu_initu : Okm P w K mg base 2 "Tally" C.Tally ["self", "evening"] (sp_Tallyu_initu K C)) (D_Tally_is_over : Okf P w K mg base 1 "is_over" C.Tally ["self"] (sp_Tally_is_over K C)) : FnOk P w K mg base CX0 6 f fd ["evening", "thing"] (sp_is_way K C) := by
  obtain ⟨⟨fTally_is_over, fdTally_is_over, MTally_is_over, GTally_is_over, bTally_is_over⟩, cTally_is_over⟩ := D_Tally_is_over
  refine F.ok sc_is_way (fun vs H Q E h => ?_) (fun cdv A outer s H vs Q E hr h => ⟨t_is_way K C, ?_, rd_is_way h⟩)
  · obtain ⟨_, _, _, _, _, _, rfl, _⟩ := h
    rfl
  · exact (pss_cons (ps_set (i := 2) sc_is_way.nd rfl (Or.inl rfl) (pe_makeD D_Tallyu_initu (hr.mono (by decide)) (pa_cons (pv 0) pa_nil))) (pss_one (ps_ret (pe_and (pe_cmpR op_notN (pe_callD D_paid_units (hr.mono (by decide)) (pa_cons (pv 2) (pa_cons (pv 1) pa_nil))) pe_non (nomark _)) (pe_one (pe_meth0 (pv 2) cTally_is_over MTally_is_over GTally_is_over (hr.mono (by decide)) bTally_is_over .nil pass0))))))

/-! ### doubles -/
abbrev s_doubles : Stmt := top 27
def sp_doubles (K : PySem.W.Frag) (C : CA) : Sp := fun vs H Q _ => ∃ (e v : V) (o d : List Rat) (ps : List (Nat × Nat)), vs = [e, v] ∧ EvAt C H e o d ∧ o ≠ [] ∧ d ≠ [] ∧ Bd 8000 (o ++ d) ∧ Im H v (.tuple (ps.map pd)) ∧ ps.length ≤ 200 ∧ rowR (o, d) ps ∧ (∀ q ∈ (runR (o, d) ps).1, q = 0) ∧
  Ret H Q (natsD (dblR (o, d) 0 ps))

@[reducible] def N_doubles : List Str := ["evening", "way", "tally", "places", "place", "ower", "taker"]
def t_doubles (K : PySem.W.Frag) (C : CA) : TS :=
  (tSeq (tIfS (tNot (tB (tCall (sp_is_way K C) [] E0 (tCons (tVar 0) (tCons (tVar 1) tNil))))) tNever tNext) (tSeq (tAsg (tMake C.Tally (sp_Tallyu_initu K C) [] E0 (tCons (tVar 0) tNil)) (gName 2)) (tSeq (tAsg (tLst tNil) (gName 3)) (tSeq (tFor (iEnumT K (tCons (tVar 1) tNil)) (gTup K 2 (gCons (gName 4) (gCons (gTup K 2 (gCons (gName 5) (gCons (gName 6) gNil))) gNil))) (tSeq (tDrop (tMeth C.Tally "pay" (sp_Tally_pay K C) [] E0 (tVar 2) (tCons (tVar 5) (tCons (tVar 6) tNil)))) (tIfS (tAnd (tTest (tOp rEq (tOp (rIxL K) (tFld K (tVar 2) "owing") (tVar 5)) (tC (.int 0)))) (tTest (tOp rEq (tOp (rIxL K) (tFld K (tVar 2) "awaiting") (tVar 6)) (tC (.int 0))))) (tDrop (tBM K "list" rAppend (tVar 3) (tCons (tVar 4) tNil))) tNext))) (tRet (tCB (cTup K) (tCons (tVar 3) tNil)))))))

theorem uq_zeroD {D : Nat} (hD : 0 < D) {os : List Int} {i : Nat} (h : i < os.length) : (uq D os).getD i 0 = 0 ↔ os.getD i 0 = 0 := by
  rw [uq_get h]
  exact Rat.mkRat_eq_zero (by omega)
theorem rd_doubles {K : PySem.W.Frag} {C : CA} {vs : List V} {H : Hp} {Q : VK} {E : XK} (TT : CTT K C) (h : sp_doubles K C vs H Q E) : t_doubles K C { nx := fun _ H' => Q .non H', rt := Q } (start N_doubles vs) H := by
  obtain ⟨e, v, o, d, ps, rfl, hev, no, nd, hb, hv, hpl, hr, hz, q⟩ := h
  unfold t_doubles
  walk_at "go"
  refine ⟨e, v, o, d, _, _, rfl, hev, no, nd, hb, row_way hv, small_way (by omega), fun k H1 s1 hk => ?_⟩
  have : k = true := hk.mpr ⟨ps, rfl, hr, hz⟩
  subst this
  obtain ⟨w, xs, rfl, hw, hl⟩ := hv.tup_at
  walk_at "go"
  refine makeO_of fun t dx H2 n2 s2 e2 => ?_
  refine ⟨t, dx, e, o, d, rfl, e2, sm_ev s2 (sm_ev s1 hev), no, nd, hb, fun a b D os ds H3 k3 fa fb hT ho hd => ⟨rfl, ?_⟩⟩
  subst ho hd
  have s3 : Same H H3 := fun c x hx => k3 c x (ne_of_none (s1 _ _ hx) n2) (s2 _ _ (s1 _ _ hx))
  have fa' := s1.free (s2.free fa)
  have fb' := s1.free (s2.free fb)
  have hw3 := s3 _ _ hw
  walk_at "go"
  rename_i l H4 n4 s4 e4
  obtain ⟨dx0, ht0, ha0, hb0, hab, hD, hD9⟩ := id hT
  have la : l ≠ a := ne_fresh n4 ha0
  have lb : l ≠ b := ne_fresh n4 hb0
  refine forET_of (s4 _ _ hw3) (fun i σ H' => KS [a, b] H3 H' ∧ ∃ (x4 x5 x6 : Option V) (os' ds' : List Int), σ = [some e, some (.ref w), some (.ref t), some (.ref l), x4, x5, x6] ∧ TalAt C H' t D a b os' ds' ∧ (uq D os', uq D ds') = runR (uq D os, uq D ds) (ps.take i) ∧
      H' l = some (.lst ((dblR (uq D os, uq D ds) 0 (ps.take i)).map fun i => V.int ((i : Nat) : Int)))) (fun _ _ => False)
    ⟨Same.ks s4, none, none, none, os, ds, rfl, sm_tal s4 hT, by simp [runR], by simpa [dblR] using e4⟩ (fun i σ H' p => p.1.tup _ _ hw3) ?_ ?_ (fun _ _ h => h.elim)
  · rintro i x T σ H5 H6 N B hx ⟨k5, x4, x5, x6, os', ds', rfl, hT5, hst, hl5⟩ nT s6 eT hN hB
    obtain ⟨u, hu, hi⟩ := hl.get hx
    obtain ⟨pr, hpr, rfl⟩ := get_pds hu
    obtain ⟨c, rfl, hc⟩ := hi.pd_at
    have hc5 : H5 c = some (.tup [.int (pr.1 : Nat), .int (pr.2 : Nat)]) := k5.tup _ _ (s3 _ _ hc)
    have hc6 := s6 _ _ hc5
    walk_at "go"
    have hT6 := sm_tal s6 hT5
    obtain ⟨dx6, ht6, ha6, hb6, _⟩ := id hT6
    have hil : i < ps.length := (List.getElem?_eq_some_iff.mp hpr).1
    have hcan : canR (uq D os', uq D ds') pr := by rw [hst]; exact row_can hr hpr
    obtain ⟨c1, c2, c3, c4⟩ := uq_can hD hcan
    refine i_meth' ht6 rfl ?_
    walk_at "go"
    refine ⟨t, a, b, D, os', ds', pr.1, pr.2, rfl, hT6, c1, c2, fun H7 k7 hT7 => ?_⟩
    obtain ⟨dx7, ht7, ha7, hb7, _⟩ := id hT7
    have hl7 := k7.keep l _ (by simp [la, lb]) (s6 _ _ hl5)
    have k37 : KS [a, b] H3 H7 := (k5.trans (Same.ks s6)).trans k7
    have hp1 : payR (runR (uq D os, uq D ds) (ps.take i)) pr = (uq D (os'.set pr.1 (os'.getD pr.1 0 - min (os'.getD pr.1 0) (ds'.getD pr.2 0))), uq D (ds'.set pr.2 (ds'.getD pr.2 0 - min (os'.getD pr.1 0) (ds'.getD pr.2 0)))) := by rw [← hst]; exact uq_pay hD hcan
    have hrun : runR (uq D os, uq D ds) (ps.take (i + 1)) = payR (runR (uq D os, uq D ds) (ps.take i)) pr := by
      rw [List.take_add_one, hpr, Option.toList_some, runR_snoc]
    have hdb : dblR (uq D os, uq D ds) 0 (ps.take (i + 1)) = dblR (uq D os, uq D ds) 0 (ps.take i) ++ (if (payR (runR (uq D os, uq D ds) (ps.take i)) pr).1.getD pr.1 0 = 0 ∧ (payR (runR (uq D os, uq D ds) (ps.take i)) pr).2.getD pr.2 0 = 0 then [i] else []) := by
      rw [List.take_add_one, hpr, Option.toList_some, dblR_app, List.length_take, Nat.min_eq_left (by omega), Nat.zero_add]
    rw [hp1] at hrun hdb
    have z1 := uq_zeroD hD (os := os'.set pr.1 (os'.getD pr.1 0 - min (os'.getD pr.1 0) (ds'.getD pr.2 0))) (i := pr.1) (by rw [List.length_set]; exact c1)
    have z2 := uq_zeroD hD (os := ds'.set pr.2 (ds'.getD pr.2 0 - min (os'.getD pr.1 0) (ds'.getD pr.2 0))) (i := pr.2) (by rw [List.length_set]; exact c2)
    have w1 := map_int_get (ms := os'.set pr.1 (os'.getD pr.1 0 - min (os'.getD pr.1 0) (ds'.getD pr.2 0))) (i := pr.1) (by rw [List.length_set]; exact c1)
    have w2 := map_int_get (ms := ds'.set pr.2 (ds'.getD pr.2 0 - min (os'.getD pr.1 0) (ds'.getD pr.2 0))) (i := pr.2) (by rw [List.length_set]; exact c2)
    have hlen : (dblR (uq D os, uq D ds) 0 (ps.take i)).length ≤ 200 := by
      have := dblR_len (ps.take i) (uq D os, uq D ds) 0
      rw [List.length_take] at this
      omega
    generalize os'.set pr.1 (os'.getD pr.1 0 - min (os'.getD pr.1 0) (ds'.getD pr.2 0)) = os2 at *
    generalize ds'.set pr.2 (ds'.getD pr.2 0 - min (os'.getD pr.1 0) (ds'.getD pr.2 0)) = ds2 at *
    walk_at "go"
    refine i_fld' ht7 TT.cl TT.nO rfl ?_
    walk_at "go"
    refine i_ixL ha7 (atI_nn w1) ?_
    walk_at "go"
    refine ite_d (fun h1 => ?_) (fun h1 => ?_)
    · have h1' : os2.getD pr.1 0 = 0 := by simpa using h1
      walk_at "go"
      refine i_fld' ht7 TT.cl TT.nA rfl ?_
      walk_at "go"
      refine i_ixL hb7 (atI_nn w2) ?_
      walk_at "go"
      refine ite_d (fun h2 => ?_) (fun h2 => ?_)
      · have h2' : ds2.getD pr.2 0 = 0 := by simpa using h2
        walk_at "go"
        refine i_append hl7 (small1000 (by rw [List.length_map]; omega)) (fun H8 k8 e8 => ?_)
        walk_at "go"
        refine hN _ _ ⟨?_, _, _, _, os2, ds2, rfl, ⟨dx7, k8.ins _ _ _ _ ht7, k8.keep _ _ la.symm ha7, k8.keep _ _ lb.symm hb7, hab, hD, hD9⟩, hrun.symm, ?_⟩
        · exact k37.loc k8 n4
        · rw [e8, hdb, if_pos ⟨z1.mpr h1', z2.mpr h2'⟩, List.map_append]; rfl
      · have h2' : ¬ ds2.getD pr.2 0 = 0 := by simpa using h2
        walk_at "go"
        refine hN _ _ ⟨k37, _, _, _, os2, ds2, rfl, hT7, hrun.symm, ?_⟩
        rw [hl7, hdb, if_neg (fun z => h2' (z2.mp z.2)), List.append_nil]
    · have h1' : ¬ os2.getD pr.1 0 = 0 := by simpa using h1
      walk_at "go"
      refine hN _ _ ⟨k37, _, _, _, os2, ds2, rfl, hT7, hrun.symm, ?_⟩
      rw [hl7, hdb, if_neg (fun z => h1' (z1.mp z.1)), List.append_nil]
  · rintro σ H5 ⟨k5, x4, x5, x6, os', ds', rfl, hT5, hst, hl5⟩
    rw [hl.length, List.length_map, List.take_length] at hl5
    walk_at "go"
    refine i_ctupL hl5 (fun p6 H6 n6 s6 e6 => ?_)
    walk_at "go"
    refine q _ _ ?_ (Im.tup e6 (im_nats _))
    exact (same_ks s3 k5 fun c hc => by
      rcases List.mem_cons.mp hc with rfl | hc
      · exact fa'
      · have : c = b := by simpa using hc
        subst this; exact fb').trans s6

theorem sc_doubles : FnScope N_doubles ["evening", "way"] (defScope s_doubles) := ⟨rfl, rfl, rfl, by decide +kernel, rfl, by decide +kernel, by decide +kernel⟩
theorem ok_doubles {P : Program} {w : World} {K : PySem.W.Frag} {mg : Str → Option Value} {base : Heap} {C : CA} {f : Addr} {fd : FuncData} (T : CT K C) (TT : CTT K C) (B : Bi mg C) (F : Fun K "doubles" "doubles" s_doubles f fd) (D_is_way : Okd P w K mg base 6 "is_way" ["evening", "thing"] (sp_is_way K C)) (D_Tallyu_initu : Okm P w K mg base 2 "Tally" C.Tally ["self", "evening"] (sp_Tallyu_initu K C)) (D_Tally_pay : Okf P w K mg base 1 "pay" C.Tally ["self", "ower", "taker"] (sp_Tally_pay K C)) : FnOk P w K mg base CX0 7 f fd ["evening", "way"] (sp_doubles K C) := by
  obtain ⟨⟨fTally_pay, fdTally_pay, MTally_pay, GTally_pay, bTally_pay⟩, cTally_pay⟩ := D_Tally_pay
  refine F.ok sc_doubles (fun vs H Q E h => ?_) (fun cdv A outer s H vs Q E hr h => ⟨t_doubles K C, ?_, rd_doubles TT h⟩)
  · obtain ⟨_, _, _, _, _, rfl, _⟩ := h
    rfl
  · exact (pss_cons (ps_if (pt_not (pt_val (pe_callD D_is_way (hr.mono (by decide)) (pa_cons (pv 0) (pa_cons (pv 1) pa_nil))))) (pss_one ps_never) pss_nil) (pss_cons (ps_set (i := 2) sc_doubles.nd rfl (Or.inl rfl) (pe_makeD D_Tallyu_initu (hr.mono (by decide)) (pa_cons (pv 0) pa_nil))) (pss_cons (ps_set (i := 3) sc_doubles.nd rfl (Or.inl rfl) (pe_lst pa_nil)) (pss_cons (ps_for PassesOwn.never rfl (pi_enumT rfl B.b_enumerate (pa_cons (pv 1) pa_nil)) (pg_tup rfl (pgs_cons (pg_name (i := 4) sc_doubles.nd rfl (Or.inl rfl)) (pgs_cons (pg_tup rfl (pgs_cons (pg_name (i := 5) sc_doubles.nd rfl (Or.inl rfl)) (pgs_cons (pg_name (i := 6) sc_doubles.nd rfl (Or.inl rfl)) pgs_nil))) pgs_nil))) (pss_cons (ps_expr (pe_meth (pv 2) cTally_pay MTally_pay GTally_pay (hr.mono (by decide)) bTally_pay .nil pass0 (pa_cons (pv 5) (pa_cons (pv 6) pa_nil)))) (pss_one (ps_if (PW.pt (pw_and (pt_cmpR op_eq (pe_ix ix_list (pe_fld (pv 2) rfl) (pv 5) (fun _ _ => rfl)) pe_int (nomark _)) (pw_and1 (pt_cmpR op_eq (pe_ix ix_list (pe_fld (pv 2) rfl) (pv 6) (fun _ _ => rfl)) pe_int (nomark _))))) (pss_one (ps_expr (pe_bm PySem.F.plainAttrs_list PySem.F.slot_list_append PySem.F.type_list_append mt_append (pv 3) (pa_cons (pv 4) pa_nil)))) pss_nil)))) (pss_one (ps_ret (pe_callTy call_tuple_of (by rfl) B.b_tuple bt_tuple (pa_cons (pv 3) pa_nil))))))))

/-! ### hanging_marks -/
abbrev s_hanging_marks : Stmt := top 13
def sp_hanging_marks (K : PySem.W.Frag) (C : CA) : Sp := fun vs H Q _ => ∃ (n m : Nat) (v : V) (ps : List (Nat × Nat)), vs = [.int (n : Nat), .int (m : Nat), v] ∧ Im H v (.tuple (ps.map pd)) ∧ (∀ p ∈ ps, p.1 < n ∧ p.2 < m) ∧ n + m ≤ 200 ∧
  ∀ a H', Same H H' → H' a = some (.lst ((marksR n m ps).map V.int)) → Q (.ref a) H'

@[reducible] def N_hanging_marks : List Str := ["owers", "takers", "pairs", "marks", "ower", "taker", "kept", "gone", "mark"]
def t_hanging_marks (K : PySem.W.Frag) (C : CA) : TS :=
  (tSeq (tAsg (tLstRg (tRg1 (tOp oAdd (tVar 0) (tVar 1)))) (gName 3)) (tSeq (tFor (iTup K (tVar 2)) (gTup K 2 (gCons (gName 4) (gCons (gName 5) gNil))) (tSeq (tAsg (tOp (rIxL K) (tVar 3) (tVar 4)) (gName 6)) (tSeq (tAsg (tOp (rIxL K) (tVar 3) (tOp oAdd (tVar 0) (tVar 5))) (gName 7)) (tIfS (tTest (tOp rNe (tVar 6) (tVar 7))) (tAsg (tLc (iList K (tVar 3)) (gName 8) tYes (tIf (tTest (tOp rEq (tVar 8) (tVar 7))) (tVar 6) (tVar 8)) [8]) (gName 3)) tNext)))) (tRet (tVar 3))))

theorem rd_hanging_marks {K : PySem.W.Frag} {C : CA} {vs : List V} {H : Hp} {Q : VK} {E : XK} (h : sp_hanging_marks K C vs H Q E) : t_hanging_marks K C { nx := fun _ H' => Q .non H', rt := Q } (start N_hanging_marks vs) H := by
  obtain ⟨n, m, v, ps, rfl, hv, hps, hnm, q⟩ := h
  obtain ⟨b, xs, rfl, hb, hl⟩ := hv.tup_at
  unfold t_hanging_marks
  walk_at "go"
  rw [show ((n : Nat) : Int) + ((m : Nat) : Int) = ((n + m : Nat) : Int) by omega]
  refine rg_lst (n := n + m) (by omega) (fun p0 H0 n0 s0 e0 => ?_)
  walk_at "go"
  have h0 : H0 p0 = some (.lst ((marks0 (n + m)).map V.int)) := by
    rw [e0]; unfold marks0; rw [List.map_map]; rfl
  refine forT_of' (s0 _ _ hb) (fun i σ H' => Same H H' ∧ ∃ (p : Addr) (ms : List Int) (x4 x5 x6 x7 : Option V), σ = [some (.int (n : Nat)), some (.int (m : Nat)), some (.ref b), some (.ref p), x4, x5, x6, x7, none] ∧ H' p = some (.lst (ms.map V.int)) ∧ ms = (ps.take i).foldl (relab n) (marks0 (n + m))) (fun _ _ => False)
    ⟨s0, p0, _, none, none, none, none, rfl, h0, rfl⟩ (fun i σ H' p => p.1 _ _ hb) ?_ ?_ (fun _ _ h => h.elim)
  · rintro i x σ H1 N B hx ⟨s1, p, ms, x4, x5, x6, x7, rfl, hp, hms⟩ hN hB
    obtain ⟨e, he, hi⟩ := hl.get hx
    obtain ⟨pr, hpr, rfl⟩ := get_pds he
    obtain ⟨c, rfl, hc⟩ := hi.pd_at
    have hpp := hps pr (List.mem_of_getElem? hpr)
    have hlen : ms.length = n + m := by rw [hms, fold_relab_len]; simp [marks0]
    have hc1 := s1 _ _ hc
    walk_at "go"
    refine i_ixL hp (atI_nn (map_int_get (by omega))) ?_
    walk_at "go"
    rw [show ((n : Nat) : Int) + ((pr.2 : Nat) : Int) = ((n + pr.2 : Nat) : Int) by omega]
    refine i_ixL hp (atI_nn (map_int_get (by omega))) ?_
    walk_at "go"
    refine ite_nd (fun hne => ?_) (fun heq => ?_)
    · walk_at "go"
      refine lcII_of (fun z => if z = ms.getD (n + pr.2) 0 then ms.getD pr.1 0 else z) hp (by omega) (fun z H2 N' hz s2 hN' => ?_) (fun D H2 nD s2 e2 => ?_)
      · walk_at "go"
        refine ⟨rfl, ?_⟩
        walk_at "go"
        refine ite_d (fun hz1 => ?_) (fun hz1 => ?_)
        · have z1 : z = ms.getD (n + pr.2) 0 := by simpa using hz1
          rw [if_pos z1] at hN'
          walk_at "go"
          exact hN' _ (Same.refl _)
        · have z1 : ¬ z = ms.getD (n + pr.2) 0 := by simpa using hz1
          rw [if_neg z1] at hN'
          walk_at "go"
          exact hN' _ (Same.refl _)
      · walk_at "go"
        refine hN _ _ ⟨s1.trans s2, D, _, _, _, _, _, rfl, e2, ?_⟩
        rw [List.take_add_one, hpr, Option.toList_some, List.foldl_append, ← hms]; rfl
    · walk_at "go"
      refine hN _ _ ⟨s1, p, ms, _, _, _, _, rfl, hp, ?_⟩
      rw [List.take_add_one, hpr, Option.toList_some, List.foldl_append, ← hms, List.foldl_cons, List.foldl_nil]
      exact (relab_same (by simpa using heq)).symm
  · rintro σ H1 ⟨s1, p, ms, x4, x5, x6, x7, rfl, hp, hms⟩
    walk_at "go"
    rw [hl.length, List.length_map, List.take_length] at hms
    exact q p H1 s1 (by rw [hp, hms]; rfl)

theorem sc_hanging_marks : FnScope N_hanging_marks ["owers", "takers", "pairs"] (defScope s_hanging_marks) := ⟨rfl, rfl, rfl, by decide +kernel, rfl, by decide +kernel, by decide +kernel⟩
theorem ok_hanging_marks {P : Program} {w : World} {K : PySem.W.Frag} {mg : Str → Option Value} {base : Heap} {C : CA} {f : Addr} {fd : FuncData} (T : CT K C) (TT : CTT K C) (B : Bi mg C) (F : Fun K "hanging_marks" "hanging_marks" s_hanging_marks f fd)  : FnOk P w K mg base CX0 1 f fd ["owers", "takers", "pairs"] (sp_hanging_marks K C) := by
  refine F.ok sc_hanging_marks (fun vs H Q E h => ?_) (fun cdv A outer s H vs Q E hr h => ⟨t_hanging_marks K C, ?_, rd_hanging_marks h⟩)
  · obtain ⟨_, _, _, _, rfl, _⟩ := h
    rfl
  · exact (pss_cons (ps_set (i := 3) sc_hanging_marks.nd rfl (Or.inl rfl) (pe_listRg rfl rfl B.b_list (prg_1 rfl B.b_range (pe_op op_add (pv 0) (pv 1))))) (pss_cons (ps_for PassesOwn.never rfl (pi_tup (pv 2)) (pg_tup rfl (pgs_cons (pg_name (i := 4) sc_hanging_marks.nd rfl (Or.inl rfl)) (pgs_cons (pg_name (i := 5) sc_hanging_marks.nd rfl (Or.inl rfl)) pgs_nil))) (pss_cons (ps_set (i := 6) sc_hanging_marks.nd rfl (Or.inr rfl) (pe_ix ix_list (pv 3) (pv 4) (fun _ _ => rfl))) (pss_cons (ps_set (i := 7) sc_hanging_marks.nd rfl (Or.inr rfl) (pe_ix ix_list (pv 3) (pe_op op_add (pv 0) (pv 5)) (fun _ _ => rfl))) (pss_one (ps_if (pt_cmpR op_ne (pv 6) (pv 7) (nomark _)) (pss_one (ps_setLc (i := 3) (own := [("mark", 8)]) (g := (gName 8)) (tt := tYes) rfl sc_hanging_marks.nd rfl rfl (sw_true rfl rfl rfl (by decide +kernel)) (pi_list (pv 3)) (blkOk_by (own := [("mark", 8)]) (N := N_hanging_marks) (sc := defScope s_hanging_marks) (by decide +kernel)) (fun _ _ _ _ _ => (pg_name (i := 8) sc_hanging_marks.nd rfl (Or.inl rfl))) (fun _ _ _ _ _ => pts_nil) (fun _ _ _ _ _ => (pe_ifExp (pt_cmpR op_eq (pv 8) (pv 7) (nomark _)) (pv 6) (pv 8))))) pss_nil))))) (pss_one (ps_ret (pv 3)))))

/-! ### _marked -/
abbrev s_q_marked : Stmt := top 29
def sp_q_marked (K : PySem.W.Frag) (C : CA) : Sp := fun vs H Q _ => ∃ (a : Addr) (ms : List Int) (n : Nat) (w : Int), vs = [.ref a, .int (n : Nat), .int w] ∧ H a = some (.lst (ms.map V.int)) ∧ n ≤ ms.length ∧ ms.length ≤ 1000 ∧ Ret H Q (grpD (grpM n ms w))

@[reducible] def N_q_marked : List Str := ["marks", "owers", "wanted", "some_owers", "some_takers", "ower", "mark", "taker"]
def t_q_marked (K : PySem.W.Frag) (C : CA) : TS :=
  (tSeq (tAsg (tCB (cTup K) (tCons (tLc (iEnum K (tCons (tSl (rSlL K) (tVar 0) tNoPart (tPart (tVar 1))) tNil)) (gTup K 2 (gCons (gName 5) (gCons (gName 6) gNil))) (tTest (tOp rEq (tVar 6) (tVar 2))) (tVar 5) [5, 6]) tNil)) (gName 3)) (tSeq (tAsg (tCB (cTup K) (tCons (tLc (iEnum K (tCons (tSl (rSlL K) (tVar 0) (tPart (tVar 1)) tNoPart) tNil)) (gTup K 2 (gCons (gName 7) (gCons (gName 6) gNil))) (tTest (tOp rEq (tVar 6) (tVar 2))) (tVar 7) [7, 6]) tNil)) (gName 4)) (tRet (tTup (tCons (tVar 3) (tCons (tVar 4) tNil))))))

theorem im_natsD {H : Hp} {p : Addr} {is : List Nat} (h : H p = some (.tup (is.map fun i => V.int ((i : Nat) : Int)))) : Im H (.ref p) (natsD is) := Im.tup h (im_nats is)
theorem rd_q_marked {K : PySem.W.Frag} {C : CA} {vs : List V} {H : Hp} {Q : VK} {E : XK} (h : sp_q_marked K C vs H Q E) : t_q_marked K C { nx := fun _ H' => Q .non H', rt := Q } (start N_q_marked vs) H := by
  obtain ⟨a, ms, n, w, rfl, ha, hn, hm, q⟩ := h
  unfold t_q_marked
  walk_at "go"
  rename_i p1 H1 n1 s1 e1
  rw [cutV_to (by omega) (by rw [List.length_map]; omega), Int.toNat_natCast, ← List.map_take] at e1
  refine lcE_of (fun i x => if x = .int w then some (.int ((i : Nat) : Int)) else none) e1 (by rw [List.length_map, List.length_take]; omega) (fun i x T H2 N NE hx s2 hT hNE hN => ?_) (fun D H2 nD s2 e2 => ?_)
  · rw [List.getElem?_map] at hx
    cases e3 : (ms.take n)[i]? with
    | none => rw [e3] at hx; cases hx
    | some z =>
      rw [e3] at hx
      have : x = .int z := by simpa using hx.symm
      subst this
      walk_at "go"
      refine ⟨rfl, ?_⟩
      walk_at "go"
      refine ite_d (fun hz1 => ?_) (fun hz1 => ?_)
      · rw [if_pos hz1] at hNE
        walk_at "go"
        exact hNE _ _ rfl (Same.refl _)
      · rw [if_neg hz1] at hN
        exact hN _ rfl (Same.refl _)
  rw [sel_marks] at e2
  walk_at "go"
  refine i_ctupL e2 (fun p3 H3 n3 s3 e3 => ?_)
  have i3 : Im H3 (.ref p3) (natsD (selR (ms.take n) w)) := im_natsD e3
  walk_at "go"
  rename_i p4 H4 n4 s4 e4
  rw [cutV_from (by omega) (by rw [List.length_map]; omega), Int.toNat_natCast, ← List.map_drop] at e4
  refine lcE_of (fun i x => if x = .int w then some (.int ((i : Nat) : Int)) else none) e4 (by rw [List.length_map, List.length_drop]; omega) (fun i x T H2 N NE hx s2 hT hNE hN => ?_) (fun D5 H5 nD5 s5 e5 => ?_)
  · rw [List.getElem?_map] at hx
    cases e3 : (ms.drop n)[i]? with
    | none => rw [e3] at hx; cases hx
    | some z =>
      rw [e3] at hx
      have : x = .int z := by simpa using hx.symm
      subst this
      walk_at "go"
      refine ⟨rfl, ?_⟩
      walk_at "go"
      refine ite_d (fun hz1 => ?_) (fun hz1 => ?_)
      · rw [if_pos hz1] at hNE
        walk_at "go"
        exact hNE _ _ rfl (Same.refl _)
      · rw [if_neg hz1] at hN
        exact hN _ rfl (Same.refl _)
  rw [sel_marks] at e5
  walk_at "go"
  refine i_ctupL e5 (fun p6 H6 n6 s6 e6 => ?_)
  have i6 : Im H6 (.ref p6) (natsD (selR (ms.drop n) w)) := im_natsD e6
  walk_at "go"
  rename_i p7 H7 n7 s7 e7
  refine q _ _ (by walk_at "sm") (Im.tup e7 ?_)
  simp only [ImL, grpM]
  exact ⟨by walk_at "keep", by walk_at "keep", trivial⟩

theorem sc_q_marked : FnScope N_q_marked ["marks", "owers", "wanted"] (defScope s_q_marked) := ⟨rfl, rfl, rfl, by decide +kernel, rfl, by decide +kernel, by decide +kernel⟩
theorem ok_q_marked {P : Program} {w : World} {K : PySem.W.Frag} {mg : Str → Option Value} {base : Heap} {C : CA} {f : Addr} {fd : FuncData} (T : CT K C) (TT : CTT K C) (B : Bi mg C) (F : Fun K "_marked" "_marked" s_q_marked f fd)  : FnOk P w K mg base CX0 1 f fd ["marks", "owers", "wanted"] (sp_q_marked K C) := by
  refine F.ok sc_q_marked (fun vs H Q E h => ?_) (fun cdv A outer s H vs Q E hr h => ⟨t_q_marked K C, ?_, rd_q_marked h⟩)
  · obtain ⟨_, _, _, _, rfl, _⟩ := h
    rfl
  · exact (pss_cons (ps_set (i := 3) sc_q_marked.nd rfl (Or.inl rfl) (pe_callTy call_tuple_of (by rfl) B.b_tuple bt_tuple (pa_cons (pe_lc (own := [("ower", 5), ("mark", 6)]) (g := (gTup K 2 (gCons (gName 5) (gCons (gName 6) gNil)))) (tt := (tTest (tOp rEq (tVar 6) (tVar 2)))) rfl sc_q_marked.nd (pi_enum rfl B.b_enumerate (pa_cons (pe_slice sl_list (pv 0) po_none (po_some (pv 1))) pa_nil)) (blkOk_by (own := [("ower", 5), ("mark", 6)]) (N := N_q_marked) (sc := defScope s_q_marked) (by decide +kernel)) (fun _ _ _ _ _ => (pg_tup rfl (pgs_cons (pg_name (i := 5) sc_q_marked.nd rfl (Or.inl rfl)) (pgs_cons (pg_name (i := 6) sc_q_marked.nd rfl (Or.inl rfl)) pgs_nil)))) (fun _ _ _ _ _ => (pts_one (pt_cmpR op_eq (pv 6) (pv 2) (nomark _)))) (fun _ _ _ _ _ => (pv 5))) pa_nil))) (pss_cons (ps_set (i := 4) sc_q_marked.nd rfl (Or.inl rfl) (pe_callTy call_tuple_of (by rfl) B.b_tuple bt_tuple (pa_cons (pe_lc (own := [("taker", 7), ("mark", 6)]) (g := (gTup K 2 (gCons (gName 7) (gCons (gName 6) gNil)))) (tt := (tTest (tOp rEq (tVar 6) (tVar 2)))) rfl sc_q_marked.nd (pi_enum rfl B.b_enumerate (pa_cons (pe_slice sl_list (pv 0) (po_some (pv 1)) po_none) pa_nil)) (blkOk_by (own := [("taker", 7), ("mark", 6)]) (N := N_q_marked) (sc := defScope s_q_marked) (by decide +kernel)) (fun _ _ _ _ _ => (pg_tup rfl (pgs_cons (pg_name (i := 7) sc_q_marked.nd rfl (Or.inl rfl)) (pgs_cons (pg_name (i := 6) sc_q_marked.nd rfl (Or.inl rfl)) pgs_nil)))) (fun _ _ _ _ _ => (pts_one (pt_cmpR op_eq (pv 6) (pv 2) (nomark _)))) (fun _ _ _ _ _ => (pv 7))) pa_nil))) (pss_one (ps_ret (pe_tup (pa_cons (pv 3) (pa_cons (pv 4) pa_nil)))))))

/-! ### pieces -/
abbrev s_pieces : Stmt := top 28
def sp_pieces (K : PySem.W.Frag) (C : CA) : Sp := fun vs H Q _ => ∃ (e v : V) (o d : List Rat) (ps : List (Nat × Nat)), vs = [e, v] ∧ EvAt C H e o d ∧ o ≠ [] ∧ d ≠ [] ∧ Bd 8000 (o ++ d) ∧ Im H v (.tuple (ps.map pd)) ∧ ps.length ≤ 200 ∧ rowR (o, d) ps ∧ (∀ q ∈ (runR (o, d) ps).1, q = 0) ∧
  o.length + d.length < 64 ∧ (∀ j, j < d.length → ∃ p ∈ ps, p.2 = j) ∧
  ∀ (a : Addr) (xs : List V) (gs : List (List Nat × List Nat)) (H' : Hp), H a = none → Same H H' → H' a = some (.lst xs) → ImL H' xs ((gs.map grpD).mergeSort (PySem.W.dataLe false id)) → Pcs o.length d.length ps gs → gs.length ≤ 64 → Q (.ref a) H'

@[reducible] def N_pieces : List Str := ["evening", "way", "owers", "marks", "mark"]
def t_pieces (K : PySem.W.Frag) (C : CA) : TS :=
  (tSeq (tIfS (tNot (tB (tCall (sp_is_way K C) [] E0 (tCons (tVar 0) (tCons (tVar 1) tNil))))) tNever tNext) (tSeq (tAsg (tCB (cLen K) (tCons (tFld K (tVar 0) "owed") tNil)) (gName 2)) (tSeq (tAsg (tCall (sp_hanging_marks K C) [] E0 (tCons (tVar 2) (tCons (tCB (cLen K) (tCons (tFld K (tVar 0) "due") tNil)) (tCons (tVar 1) tNil)))) (gName 3)) (tRet (tCB (rSortedD K) (tCons (tLc (iList K (tSortSet K (tVar 3))) (gName 4) tYes (tCall (sp_q_marked K C) [] E0 (tCons (tVar 3) (tCons (tVar 2) (tCons (tVar 4) tNil)))) [4]) tNil))))))

theorem rd_pieces {K : PySem.W.Frag} {C : CA} {vs : List V} {H : Hp} {Q : VK} {E : XK} (T : CT K C) (h : sp_pieces K C vs H Q E) : t_pieces K C { nx := fun _ H' => Q .non H', rt := Q } (start N_pieces vs) H := by
  obtain ⟨e, v, o, d, ps, rfl, hev, no, nd, hb, hv, hpl, hr, hz, hn64, hcov, q⟩ := h
  have hps := row_in hr
  unfold t_pieces
  walk_at "go"
  refine ⟨e, v, o, d, _, _, rfl, hev, no, nd, hb, row_way hv, small_way (by omega), fun k H1 s1 hk => ?_⟩
  have : k = true := hk.mpr ⟨ps, rfl, hr, hz⟩
  subst this
  obtain ⟨ev, dx, vo, vd, rfl, hE, ho, hd⟩ := sm_ev s1 hev
  obtain ⟨ao, xo, rfl, hao, hlo⟩ := ho.tup_at
  obtain ⟨ad, xd, rfl, had, hld⟩ := hd.tup_at
  have lo : xo.length = o.length := by rw [hlo.length, List.length_map]
  have ld : xd.length = d.length := by rw [hld.length, List.length_map]
  walk_at "go"
  refine i_fld' hE T.cl T.nO rfl ?_
  walk_at "go"
  refine i_fld' hE T.cl T.nD rfl ?_
  walk_at "go"
  rw [lo, ld]
  refine ⟨o.length, d.length, v, ps, rfl, sm_im s1 hv, hps, by omega, fun a2 H2 s2 e2 => ?_⟩
  walk_at "go"
  refine sortSet_of e2 (by rw [marksR_len]; omega) (fun ws p3 H3 hwl hw hm n3 s3 e3 => ?_)
  refine lcL_of (es := ws.map PyData.int) (fun z => match z with | .int w => grpD (grpM o.length (marksR o.length d.length ps) w) | z => z) (SqL.of e3) (ImL.ints ws) ?_ (fun z x H4 N hz4 s4 hx hN => ?_) (fun D H4 ys nD s4 e4 hy => ?_)
  · rw [List.length_map]
    rw [marksR_len] at hwl
    exact small1000 (by omega)
  · obtain ⟨w, hw', rfl⟩ := List.mem_map.mp hz4
    have : x = .int w := by simpa [Im] using hx
    subst this
    walk_at "go"
    refine ⟨rfl, ?_⟩
    walk_at "go"
    refine ⟨a2, _, o.length, w, rfl, s4 _ _ (s3 _ _ e2), by rw [marksR_len]; omega, by rw [marksR_len]; omega, fun v5 H5 s5 e5 => ?_⟩
    exact hN _ _ s5 e5
  · have hP := marks_pcs hps hcov hw hm
    have hy2 : ImL H4 ys ((ws.map (grpM o.length (marksR o.length d.length ps))).map grpD) := by
      rw [List.map_map] at hy ⊢
      exact hy
    walk_at "go"
    refine i_sortedD e4 hy2 (PySem.W.AllAlike.of grpD_alike) (PySem.W.Sortable.tuples fun b => ⟨_, _, rfl⟩) (fun z hz4 => ?_) (fun zs p6 H6 n6 s6 e6 i6 => ?_)
    · obtain ⟨g, _, rfl⟩ := List.mem_map.mp hz4
      exact grpD_depth g
    walk_at "go"
    exact q _ _ _ _ ((((s1.trans s2).trans s3).trans s4).free n6) (((s1.trans s2).trans s3).trans (s4.trans s6)) e6 i6 hP (by rw [List.length_map]; rw [marksR_len] at hwl; omega)

theorem sc_pieces : FnScope N_pieces ["evening", "way"] (defScope s_pieces) := ⟨rfl, rfl, rfl, by decide +kernel, rfl, by decide +kernel, by decide +kernel⟩
theorem ok_pieces {P : Program} {w : World} {K : PySem.W.Frag} {mg : Str → Option Value} {base : Heap} {C : CA} {f : Addr} {fd : FuncData} (T : CT K C) (TT : CTT K C) (B : Bi mg C) (F : Fun K "pieces" "pieces" s_pieces f fd) (D_hanging_marks : Okd P w K mg base 1 "hanging_marks" ["owers", "takers", "pairs"] (sp_hanging_marks K C)) (D_is_way : Okd P w K mg base 6 "is_way" ["evening", "thing"] (sp_is_way K C)) (D_q_marked : Okd P w K mg base 1 "_marked" ["marks", "owers", "wanted"] (sp_q_marked K C)) : FnOk P w K mg base CX0 7 f fd ["evening", "way"] (sp_pieces K C) := by
  refine F.ok sc_pieces (fun vs H Q E h => ?_) (fun cdv A outer s H vs Q E hr h => ⟨t_pieces K C, ?_, rd_pieces T h⟩)
  · obtain ⟨_, _, _, _, _, rfl, _⟩ := h
    rfl
  · exact (pss_cons (ps_if (pt_not (pt_val (pe_callD D_is_way (hr.mono (by decide)) (pa_cons (pv 0) (pa_cons (pv 1) pa_nil))))) (pss_one ps_never) pss_nil) (pss_cons (ps_set (i := 2) sc_pieces.nd rfl (Or.inr rfl) (pe_callB call_len (by rfl) B.b_len bt_len (pa_cons (pe_fld (pv 0) rfl) pa_nil))) (pss_cons (ps_set (i := 3) sc_pieces.nd rfl (Or.inr rfl) (pe_callD D_hanging_marks (hr.mono (by decide)) (pa_cons (pv 2) (pa_cons (pe_callB call_len (by rfl) B.b_len bt_len (pa_cons (pe_fld (pv 0) rfl) pa_nil)) (pa_cons (pv 1) pa_nil))))) (pss_one (ps_ret (pe_callB (cr_sortedD hr.units) (by rfl) B.b_sorted bt_sorted (pa_cons (pe_lc (own := [("mark", 4)]) (g := (gName 4)) (tt := tYes) rfl sc_pieces.nd (pi_list (pe_sortSet rfl rfl B.b_sorted rfl B.b_set (pv 3))) (blkOk_by (own := [("mark", 4)]) (N := N_pieces) (sc := defScope s_pieces) (by decide +kernel)) (fun _ _ _ _ _ => (pg_name (i := 4) sc_pieces.nd rfl (Or.inl rfl))) (fun _ _ _ _ _ => pts_nil) (fun _ _ _ _ _ => (pe_callD D_q_marked (hr.mono (by decide)) (pa_cons (pv 3) (pa_cons (pv 2) (pa_cons (pv 4) pa_nil)))))) pa_nil)))))))

/-! ### lowest -/
abbrev s_lowest : Stmt := top 17
def sp_lowest (K : PySem.W.Frag) (C : CA) : Sp := fun vs H Q _ => ∃ (n : Int) (d : Nat), vs = [.int n, .int (d : Nat)] ∧ 0 < d ∧ d.log2 < 9000 ∧ Ret H Q (fr (mkRat n d))

@[reducible] def N_lowest : List Str := ["top", "bottom", "shared"]
def t_lowest (K : PySem.W.Frag) (C : CA) : TS :=
  (tSeq (tAsg (tCB rGcd (tCons (tVar 0) (tCons (tVar 1) tNil))) (gName 2)) (tRet (tTup (tCons (tOp oDiv (tVar 0) (tVar 2)) (tCons (tOp oDiv (tVar 1) (tVar 2)) tNil)))))

theorem rd_lowest {K : PySem.W.Frag} {C : CA} {vs : List V} {H : Hp} {Q : VK} {E : XK} (h : sp_lowest K C vs H Q E) : t_lowest K C { nx := fun _ H' => Q .non H', rt := Q } (start N_lowest vs) H := by
  obtain ⟨n, d, rfl, hd, hl, q⟩ := h
  obtain ⟨g0, g1⟩ := gcd_le n d hd
  unfold t_lowest
  walk_at "go"
  simp only [Int.natAbs_natCast]
  refine i_rI (div_ok g0 (log2_lt_of_le g1 hl (by decide))) ?_
  walk_at "go"
  refine i_rI (div_ok g0 (log2_lt_of_le g1 hl (by decide))) ?_
  walk_at "go"
  exact q _ _ (by assumption) (Im.fr_of (by rw [low_num n d hd, low_den n d hd]; assumption))

theorem sc_lowest : FnScope N_lowest ["top", "bottom"] (defScope s_lowest) := ⟨rfl, rfl, rfl, by decide +kernel, rfl, by decide +kernel, by decide +kernel⟩
theorem ok_lowest {P : Program} {w : World} {K : PySem.W.Frag} {mg : Str → Option Value} {base : Heap} {C : CA} {f : Addr} {fd : FuncData} (T : CT K C) (TT : CTT K C) (B : Bi mg C) (F : Fun K "lowest" "lowest" s_lowest f fd)  : FnOk P w K mg base CX0 1 f fd ["top", "bottom"] (sp_lowest K C) := by
  refine F.ok sc_lowest (fun vs H Q E h => ?_) (fun cdv A outer s H vs Q E hr h => ⟨t_lowest K C, ?_, rd_lowest h⟩)
  · obtain ⟨_, _, rfl, _⟩ := h
    rfl
  · exact (pss_cons (ps_set (i := 2) sc_lowest.nd rfl (Or.inl rfl) (pe_callBfun cr_gcd rfl B.g_gcd (pa_cons (pv 0) (pa_cons (pv 1) pa_nil)))) (pss_one (ps_ret (pe_tup (pa_cons (pe_op op_fdivW (pv 0) (pv 2)) (pa_cons (pe_op op_fdivW (pv 1) (pv 2)) pa_nil))))))

/-! ### added -/
abbrev s_added : Stmt := top 20
def sp_added (K : PySem.W.Frag) (C : CA) : Sp := fun vs H Q _ => ∃ (v : V) (qs : List Rat), vs = [v] ∧ Im H v (.tuple (qs.map fr)) ∧ Bd 8000 qs ∧ Ret H Q (fr qs.sum)

@[reducible] def N_added : List Str := ["fractions", "shared"]
def t_added (K : PySem.W.Frag) (C : CA) : TS :=
  (tSeq (tAsg (tCall (sp_common_bottom K C) [] E0 (tCons (tVar 0) tNil)) (gName 1)) (tRet (tCall (sp_lowest K C) [] E0 (tCons (tCB (rSum K) (tCons (tCall (sp_in_units K C) [] E0 (tCons (tVar 0) (tCons (tVar 1) tNil))) tNil)) (tCons (tVar 1) tNil)))))

theorem rd_added {K : PySem.W.Frag} {C : CA} {vs : List V} {H : Hp} {Q : VK} {E : XK} (h : sp_added K C vs H Q E) : t_added K C { nx := fun _ H' => Q .non H', rt := Q } (start N_added vs) H := by
  obtain ⟨v, qs, rfl, hv, ⟨hlen, ⟨M, hM, hMB⟩, hn⟩, q⟩ := h
  unfold t_added
  walk_at "go"
  refine ⟨v, qs, M, rfl, hv, hM, log2_of_lt (Nat.lt_trans hMB (Nat.pow_lt_pow_right (by decide) (by decide))) (by decide), fun L hL hLM hd _ => ?_⟩
  have hLB : L < 2 ^ 8000 := Nat.lt_of_le_of_lt (Nat.le_of_dvd hM.1 hLM) hMB
  have h89 : (2 : Nat) ^ 8000 < 2 ^ 9000 := Nat.pow_lt_pow_right (by decide) (by decide)
  walk_at "go"
  refine ⟨v, qs, L, rfl, hv, hL, hd, Nat.lt_trans hLB h89, fun r hr => Nat.lt_trans (hn r hr) h89, small1000 hlen, fun p H1 n1 s1 e1 => ?_⟩
  walk_at "go"
  refine i_rsum e1 ?_
  walk_at "go"
  refine ⟨_, L, rfl, hL, log2_of_lt (Nat.lt_trans hLB h89) (by decide), fun w H2 s2 hw => ?_⟩
  rw [units_sum L hL qs hd] at hw
  exact q w H2 (s1.trans s2) hw

theorem sc_added : FnScope N_added ["fractions"] (defScope s_added) := ⟨rfl, rfl, rfl, by decide +kernel, rfl, by decide +kernel, by decide +kernel⟩
theorem ok_added {P : Program} {w : World} {K : PySem.W.Frag} {mg : Str → Option Value} {base : Heap} {C : CA} {f : Addr} {fd : FuncData} (T : CT K C) (TT : CTT K C) (B : Bi mg C) (F : Fun K "added" "added" s_added f fd) (D_lowest : Okd P w K mg base 1 "lowest" ["top", "bottom"] (sp_lowest K C)) (D_common_bottom : Okd P w K mg base 1 "common_bottom" ["fractions"] (sp_common_bottom K C)) (D_in_units : Okd P w K mg base 1 "in_units" ["fractions", "shared"] (sp_in_units K C)) : FnOk P w K mg base CX0 2 f fd ["fractions"] (sp_added K C) := by
  refine F.ok sc_added (fun vs H Q E h => ?_) (fun cdv A outer s H vs Q E hr h => ⟨t_added K C, ?_, rd_added h⟩)
  · obtain ⟨_, _, rfl, _⟩ := h
    rfl
  · exact (pss_cons (ps_set (i := 1) sc_added.nd rfl (Or.inl rfl) (pe_callD D_common_bottom (hr.mono (by decide)) (pa_cons (pv 0) pa_nil))) (pss_one (ps_ret (pe_callD D_lowest (hr.mono (by decide)) (pa_cons (pe_callB (cr_sum rfl) (by rfl) B.b_sum bt_sum (pa_cons (pe_callD D_in_units (hr.mono (by decide)) (pa_cons (pv 0) (pa_cons (pv 1) pa_nil))) pa_nil)) (pa_cons (pv 1) pa_nil))))))

/-! ### is_ascending -/
abbrev s_is_ascending : Stmt := top 9
def sp_is_ascending (K : PySem.W.Frag) (C : CA) : Sp := fun vs H Q _ => ∃ (a : Addr) (ns : List Int), vs = [.ref a] ∧ H a = some (.tup (ns.map V.int)) ∧ ns.length ≤ 1000 ∧ ∀ H', Same H H' → Q (.bl (ascB ns)) H'

@[reducible] def N_is_ascending : List Str := ["items", "k"]
def t_is_ascending (K : PySem.W.Frag) (C : CA) : TS :=
  (tRet (tCB (rAll K) (tCons (tLc (iRng1 (tCons (tOp oSub (tCB (cLen K) (tCons (tVar 0) tNil)) (tC (.int 1))) tNil)) (gName 1) tYes (tOp oLt (tOp (rIxT K) (tVar 0) (tVar 1)) (tOp (rIxT K) (tVar 0) (tOp oAdd (tVar 1) (tC (.int 1))))) [1]) tNil)))

theorem rd_is_ascending {K : PySem.W.Frag} {C : CA} {vs : List V} {H : Hp} {Q : VK} {E : XK} (h : sp_is_ascending K C vs H Q E) : t_is_ascending K C { nx := fun _ H' => Q .non H', rt := Q } (start N_is_ascending vs) H := by
  obtain ⟨a, ns, rfl, ha, hn, q⟩ := h
  unfold t_is_ascending
  walk_at "go"
  refine lcRz_of (n := ns.length - 1) (fun k => [PyData.bool (decide (ns.getD k 0 < ns.getD (k + 1) 0))]) (by rw [List.length_map]; omega) (by omega) (by omega) (fun _ => by simp) (fun i H1 N M NE hi s1 hNE hM => ⟨rfl, ?_⟩) (fun D H1 ys nD s1 e1 i1 => ?_)
  · have h1 := s1 _ _ ha
    walk_at "go"
    walk_at "go"
    refine i_ixT h1 (atI_nn (map_get (i := i) (by omega))) ?_
    walk_at "go"
    refine i_ixT h1 (by rw [show ((i : Nat) : Int) + 1 = ((i + 1 : Nat) : Int) by omega]; exact atI_nn (map_get (i := i + 1) (by omega))) ?_
    walk_at "go"
    exact hNE _ _ _ rfl (Same.refl _) (by simp [Im])
  · have e2 : (List.range (ns.length - 1)).flatMap (fun k => [PyData.bool (decide (ns.getD k 0 < ns.getD (k + 1) 0))]) = ((List.range (ns.length - 1)).map fun k => decide (ns.getD k 0 < ns.getD (k + 1) 0)).map PyData.bool := by
      rw [List.map_map]
      induction (List.range (ns.length - 1)) with
      | nil => rfl
      | cons a l ih => rw [List.flatMap_cons, ih]; rfl
    rw [e2] at i1
    rw [i1.bls] at e1
    walk_at "go"
    refine i_rall e1 ?_
    walk_at "go"
    have e3 : ((List.range (ns.length - 1)).map fun k => decide (ns.getD k 0 < ns.getD (k + 1) 0)).all id = ascB ns := by
      unfold ascB
      rw [List.all_map]; rfl
    rw [e3]
    exact q _ s1

theorem sc_is_ascending : FnScope N_is_ascending ["items"] (defScope s_is_ascending) := ⟨rfl, rfl, rfl, by decide +kernel, rfl, by decide +kernel, by decide +kernel⟩
theorem ok_is_ascending {P : Program} {w : World} {K : PySem.W.Frag} {mg : Str → Option Value} {base : Heap} {C : CA} {f : Addr} {fd : FuncData} (T : CT K C) (TT : CTT K C) (B : Bi mg C) (F : Fun K "is_ascending" "is_ascending" s_is_ascending f fd)  : FnOk P w K mg base CX0 1 f fd ["items"] (sp_is_ascending K C) := by
  refine F.ok sc_is_ascending (fun vs H Q E h => ?_) (fun cdv A outer s H vs Q E hr h => ⟨t_is_ascending K C, ?_, rd_is_ascending h⟩)
  · obtain ⟨_, _, rfl, _⟩ := h
    rfl
  · exact (pss_one (ps_ret (pe_callB (cr_all rfl) (by rfl) B.b_all bt_all (pa_cons (pe_lc (own := [("k", 1)]) (g := (gName 1)) (tt := tYes) rfl sc_is_ascending.nd (pi_range1 rfl B.b_range (pa_cons (pe_op op_sub (pe_callB call_len (by rfl) B.b_len bt_len (pa_cons (pv 0) pa_nil)) pe_int) pa_nil)) (blkOk_by (own := [("k", 1)]) (N := N_is_ascending) (sc := defScope s_is_ascending) (by decide +kernel)) (fun _ _ _ _ _ => (pg_name (i := 1) sc_is_ascending.nd rfl (Or.inl rfl))) (fun _ _ _ _ _ => pts_nil) (fun _ _ _ _ _ => (pe_cmpR op_lt (pe_ix ix_tup (pv 0) (pv 1) (fun _ _ => rfl)) (pe_ix ix_tup (pv 0) (pe_op op_add (pv 1) pe_int) (fun _ _ => rfl)) (nomark _)))) pa_nil))))

/-! ### is_lot -/
abbrev s_is_lot : Stmt := top 10
def sp_is_lot (K : PySem.W.Frag) (C : CA) : Sp := fun vs H Q _ => ∃ (v : V) (d : Th) (P : Addr → Prop) (n : Nat), vs = [v, .int (n : Nat)] ∧ ThR P H v d ∧ d.small ∧ ∀ H', Same H H' → Q (.bl (d.lot n)) H'

@[reducible] def N_is_lot : List Str := ["thing", "many", "number"]
def t_is_lot (K : PySem.W.Frag) (C : CA) : TS :=
  (tSeq (tIfS (tNot (tB (tCB (rIsi K) (tCons (tVar 0) (tCons (tC (.ty "tuple")) tNil))))) (tRet (tC (.bl false))) tNext) (tRet (tAndV (tCB (rAll K) (tCons (tLc (iTup K (tVar 0)) (gName 2) tYes (tCall (sp_is_number_below K C) [] E0 (tCons (tVar 2) (tCons (tVar 1) tNil))) [2]) tNil)) (tCall (sp_is_ascending K C) [] E0 (tCons (tVar 0) tNil)))))

theorem lot_no {d : Th} (n : Int) (h : d.isTup = false) : d.lot n = false := by
  cases d with
  | tup l => simp [Th.isTup] at h
  | int i => rfl
  | bl b => rfl
  | oth => rfl
theorem rd_is_lot {K : PySem.W.Frag} {C : CA} {vs : List V} {H : Hp} {Q : VK} {E : XK} (h : sp_is_lot K C vs H Q E) : t_is_lot K C { nx := fun _ H' => Q .non H', rt := Q } (start N_is_lot vs) H := by
  obtain ⟨v, d, P, n, rfl, hv, hs, q⟩ := h
  unfold t_is_lot
  rcases th_cases d with ⟨l, rfl⟩ | ⟨h1, _⟩
  · obtain ⟨a, xs, rfl, ha, hl⟩ := hv.tup_at
    have hsm := hs l rfl
    walk_at "go"
    refine lcTh_of (fun e => PyData.bool (e.blw n)) ha hl (by omega) (fun e x H1 N he s1 hx hN => ?_) (fun D H1 ys nD s1 e1 i1 => ?_)
    · walk_at "go"
      refine ⟨rfl, ?_⟩
      walk_at "go"
      exact ⟨x, e, P, n, rfl, hx, hN _ _ (Same.refl _) (by simp [Im])⟩
    · have e2 : l.map (fun e => PyData.bool (e.blw n)) = (l.map (·.blw n)).map PyData.bool := by rw [List.map_map]; rfl
      rw [e2] at i1
      rw [i1.bls] at e1
      walk_at "go"
      refine i_rall e1 ?_
      walk_at "go"
      have e3 : (l.map (·.blw (n : Int))).all id = l.all (·.blw n) := by rw [List.all_map]; rfl
      rw [e3]
      refine ite_b (fun h => ?_) (fun h => ?_)
      · have : ∃ ns : List Int, xs = ns.map V.int ∧ l.map thInt = ns := by
          clear q e1 i1 e2 e3 hs hsm ha hv
          induction l generalizing xs with
          | nil =>
            have := hl.length
            have : xs = [] := List.eq_nil_of_length_eq_zero this
            exact ⟨[], by rw [this]; rfl, rfl⟩
          | cons b l ih =>
            match xs, hl with
            | x :: xs, hl =>
              simp only [ThL] at hl
              rw [List.all_cons, Bool.and_eq_true] at h
              have hl2 := hl.2
              have h2' := h.2
              obtain ⟨ns, e1, e2⟩ := ih xs (by assumption) (by assumption)
              obtain ⟨i, rfl, hi⟩ := blw_iff.mp h.1
              have hx := hl.1
              simp only [ThR] at hx
              exact ⟨(i : Nat) :: ns, by rw [hx, e1]; rfl, by rw [List.map_cons, e2]; rfl⟩
        obtain ⟨ns, rfl, e4⟩ := this
        have hlen := hl.length
        rw [List.length_map] at hlen
        walk_at "go"
        refine ⟨a, ns, rfl, s1 _ _ ha, by omega, fun H2 s2 => ?_⟩
        have e5 : (Th.tup l).lot n = ascB ns := by
          show (l.all (·.blw n) && ascB (l.map thInt)) = _
          rw [h, e4, Bool.true_and]
        rw [← e5]
        exact q _ (s1.trans s2)
      · have e5 : (Th.tup l).lot n = false := by
          show (l.all (·.blw n) && ascB (l.map thInt)) = _
          rw [h, Bool.false_and]
        rw [← e5]
        exact q _ s1
  · walk_at "go"
    refine i_isi_tupT hv ?_
    rw [h1]
    walk_at "go"
    rw [← lot_no n h1]
    exact q _ (Same.refl _)

theorem sc_is_lot : FnScope N_is_lot ["thing", "many"] (defScope s_is_lot) := ⟨rfl, rfl, rfl, by decide +kernel, rfl, by decide +kernel, by decide +kernel⟩
theorem ok_is_lot {P : Program} {w : World} {K : PySem.W.Frag} {mg : Str → Option Value} {base : Heap} {C : CA} {f : Addr} {fd : FuncData} (T : CT K C) (TT : CTT K C) (B : Bi mg C) (F : Fun K "is_lot" "is_lot" s_is_lot f fd) (D_is_number_below : Okd P w K mg base 2 "is_number_below" ["thing", "many"] (sp_is_number_below K C)) (D_is_ascending : Okd P w K mg base 1 "is_ascending" ["items"] (sp_is_ascending K C)) : FnOk P w K mg base CX0 3 f fd ["thing", "many"] (sp_is_lot K C) := by
  refine F.ok sc_is_lot (fun vs H Q E h => ?_) (fun cdv A outer s H vs Q E hr h => ⟨t_is_lot K C, ?_, rd_is_lot h⟩)
  · obtain ⟨_, _, _, _, rfl, _⟩ := h
    rfl
  · exact (pss_cons (ps_if (pt_not (pt_val (pe_callB call_isi (by rfl) B.b_isinstance bt_isinstance (pa_cons (pv 0) (pa_cons (pe_bltn (v := .ty "tuple") (by rfl) B.b_tuple bt_tuple rfl) pa_nil))))) (pss_one (ps_ret pe_bl)) pss_nil) (pss_one (ps_ret (pe_and (pe_callB (cr_all rfl) (by rfl) B.b_all bt_all (pa_cons (pe_lc (own := [("number", 2)]) (g := (gName 2)) (tt := tYes) rfl sc_is_lot.nd (pi_tup (pv 0)) (blkOk_by (own := [("number", 2)]) (N := N_is_lot) (sc := defScope s_is_lot) (by decide +kernel)) (fun _ _ _ _ _ => (pg_name (i := 2) sc_is_lot.nd rfl (Or.inl rfl))) (fun _ _ _ _ _ => pts_nil) (fun _ _ _ _ _ => (pe_callD D_is_number_below (hr.mono (by decide)) (pa_cons (pv 2) (pa_cons (pv 1) pa_nil))))) pa_nil)) (pe_one (pe_callD D_is_ascending (hr.mono (by decide)) (pa_cons (pv 0) pa_nil)))))))

/-! ### is_group -/
abbrev s_is_group : Stmt := top 34
def sp_is_group (K : PySem.W.Frag) (C : CA) : Sp := fun vs H Q _ => ∃ (e v : V) (o d : List Rat) (th : Th) (P : Addr → Prop), vs = [e, v] ∧ EvAt C H e o d ∧ ThR P H v th ∧ th.Sm2 ∧ ∀ k H', Same H H' → (k = true ↔ IsGrp o d th) → Q (.bl k) H'

@[reducible] def N_is_group : List Str := ["evening", "thing", "owers", "takers"]
def t_is_group (K : PySem.W.Frag) (C : CA) : TS :=
  (tSeq (tIfS (tOr (tNot (tB (tCB (rIsi K) (tCons (tVar 1) (tCons (tC (.ty "tuple")) tNil))))) (tTest (tOp rNe (tCB (cLen K) (tCons (tVar 1) tNil)) (tC (.int 2))))) (tRet (tC (.bl false))) tNext) (tSeq (tAsg (tVar 1) (gTup K 2 (gCons (gName 2) (gCons (gName 3) gNil)))) (tSeq (tIfS (tOr (tNot (tB (tCall (sp_is_lot K C) [] E0 (tCons (tVar 2) (tCons (tCB (cLen K) (tCons (tFld K (tVar 0) "owed") tNil)) tNil))))) (tNot (tB (tCall (sp_is_lot K C) [] E0 (tCons (tVar 3) (tCons (tCB (cLen K) (tCons (tFld K (tVar 0) "due") tNil)) tNil)))))) (tRet (tC (.bl false))) tNext) (tRet (tOp oGt (tOp oAdd (tCB (cLen K) (tCons (tVar 2) tNil)) (tCB (cLen K) (tCons (tVar 3) tNil))) (tC (.int 0)))))))

theorem rd_is_group {K : PySem.W.Frag} {C : CA} (T : CT K C) {vs : List V} {H : Hp} {Q : VK} {E : XK} (h : sp_is_group K C vs H Q E) : t_is_group K C { nx := fun _ H' => Q .non H', rt := Q } (start N_is_group vs) H := by
  obtain ⟨e, v, o, d, th, P, rfl, hev, hv, hs, q⟩ := h
  obtain ⟨ea, ex, vo, vd, rfl, he, ho, hd⟩ := hev
  obtain ⟨ao, xo, rfl, hao, hlo⟩ := ho.tup_at
  obtain ⟨ad, xd, rfl, had, hld⟩ := hd.tup_at
  have lo : xo.length = o.length := by rw [hlo.length, List.length_map]
  have ld : xd.length = d.length := by rw [hld.length, List.length_map]
  unfold t_is_group
  rcases th_cases th with ⟨l, rfl⟩ | ⟨h1, h2⟩
  · obtain ⟨a, xs, rfl, ha, hl⟩ := hv.tup_at
    have hlen := hl.length
    walk_at "go"
    refine ite_nd (fun h => ?_) (fun h => ?_)
    · walk_at "go"
      exact q _ _ (Same.refl _) (fls (nogrp_len (fun z => h (by rw [hlen, z]; rfl))))
    · have h' : xs.length = 2 := by injection h with h; omega
      obtain ⟨vx, vy, rfl⟩ := len_two h'
      match l, hl, ha, hs with
      | [x, y], hl, ha, hs =>
        simp only [ThL] at hl
        obtain ⟨hx, hy, _⟩ := hl
        have sx : x.small := small_len (hs.2 x (by simp))
        have sy : y.small := small_len (hs.2 y (by simp))
        walk_at "go"
        refine i_fld' he T.cl T.nO rfl ?_
        walk_at "go"
        refine ⟨vx, x, P, o.length, by rw [lo]; rfl, hx, sx, fun H1 s1 => ?_⟩
        walk_at "go"
        refine ite_nb (fun h1 => ?_) (fun h1 => ?_)
        · walk_at "go"
          exact q _ _ s1 (fls fun z => by rw [(grp_of.mp z).1] at h1; cases h1)
        · walk_at "go"
          refine i_fld' (s1 _ _ he) T.cl T.nD rfl ?_
          walk_at "go"
          refine ⟨vy, y, P, d.length, by rw [ld]; rfl, sm_th s1 hy, sy, fun H2 s2 => ?_⟩
          walk_at "go"
          refine ite_nb (fun h2 => ?_) (fun h2 => ?_)
          · walk_at "go"
            exact q _ _ (s1.trans s2) (fls fun z => by rw [(grp_of.mp z).2.1] at h2; cases h2)
          · have hx2 := sm_th s2 (sm_th s1 hx)
            have hy2 := sm_th s2 (sm_th s1 hy)
            obtain ⟨xs1, rfl, _, _⟩ := lot_iff.mp h1
            obtain ⟨ys1, rfl, _, _⟩ := lot_iff.mp h2
            obtain ⟨bx, vbx, rfl, hbx, hlbx⟩ := hx2.tup_at
            obtain ⟨bY, vby, rfl, hby, hlby⟩ := hy2.tup_at
            have l1 := hlbx.length
            have l2 := hlby.length
            walk_at "go"
            refine q _ _ (s1.trans s2) ?_
            rw [grp_of, decide_eq_true_eq]
            simp only [h1, h2, true_and, Th.len]
            omega
  · walk_at "go"
    refine i_isi_tupT hv ?_
    rw [h1]
    walk_at "go"
    exact q _ _ (Same.refl _) (fls (nogrp_tup h2))

theorem sc_is_group : FnScope N_is_group ["evening", "thing"] (defScope s_is_group) := ⟨rfl, rfl, rfl, by decide +kernel, rfl, by decide +kernel, by decide +kernel⟩
theorem ok_is_group {P : Program} {w : World} {K : PySem.W.Frag} {mg : Str → Option Value} {base : Heap} {C : CA} {f : Addr} {fd : FuncData} (T : CT K C) (TT : CTT K C) (B : Bi mg C) (F : Fun K "is_group" "is_group" s_is_group f fd) (D_is_lot : Okd P w K mg base 3 "is_lot" ["thing", "many"] (sp_is_lot K C)) : FnOk P w K mg base CX0 4 f fd ["evening", "thing"] (sp_is_group K C) := by
  refine F.ok sc_is_group (fun vs H Q E h => ?_) (fun cdv A outer s H vs Q E hr h => ⟨t_is_group K C, ?_, rd_is_group T h⟩)
  · obtain ⟨_, _, _, _, _, _, rfl, _⟩ := h
    rfl
  · exact (pss_cons (ps_if (PW.pt (pw_or (pt_not (pt_val (pe_callB call_isi (by rfl) B.b_isinstance bt_isinstance (pa_cons (pv 1) (pa_cons (pe_bltn (v := .ty "tuple") (by rfl) B.b_tuple bt_tuple rfl) pa_nil))))) (pw_or1 (pt_cmpR op_ne (pe_callB call_len (by rfl) B.b_len bt_len (pa_cons (pv 1) pa_nil)) pe_int (nomark _))))) (pss_one (ps_ret pe_bl)) pss_nil) (pss_cons (ps_asg (pv 1) (pg_tup rfl (pgs_cons (pg_name (i := 2) sc_is_group.nd rfl (Or.inl rfl)) (pgs_cons (pg_name (i := 3) sc_is_group.nd rfl (Or.inl rfl)) pgs_nil)))) (pss_cons (ps_if (PW.pt (pw_or (pt_not (pt_val (pe_callD D_is_lot (hr.mono (by decide)) (pa_cons (pv 2) (pa_cons (pe_callB call_len (by rfl) B.b_len bt_len (pa_cons (pe_fld (pv 0) rfl) pa_nil)) pa_nil))))) (pw_or1 (pt_not (pt_val (pe_callD D_is_lot (hr.mono (by decide)) (pa_cons (pv 3) (pa_cons (pe_callB call_len (by rfl) B.b_len bt_len (pa_cons (pe_fld (pv 0) rfl) pa_nil)) pa_nil)))))))) (pss_one (ps_ret pe_bl)) pss_nil) (pss_one (ps_ret (pe_cmpR op_gt (pe_op op_add (pe_callB call_len (by rfl) B.b_len bt_len (pa_cons (pv 2) pa_nil)) (pe_callB call_len (by rfl) B.b_len bt_len (pa_cons (pv 3) pa_nil))) pe_int (nomark _)))))))

/-! ### _sums_of -/
abbrev s_q_sums_of : Stmt := top 35
def sp_q_sums_of (K : PySem.W.Frag) (C : CA) : Sp := fun vs H Q _ => ∃ (e v : V) (o d : List Rat) (xs ys : List Nat) (P : Addr → Prop), vs = [e, v] ∧ EvAt C H e o d ∧ ThR P H v (grpT xs ys) ∧ GrpOk o d xs ys ∧ xs.length ≤ 1000 ∧ ys.length ≤ 1000 ∧
  ∀ (p : Addr) (x y : V) (H' : Hp), Same H H' → H' p = some (.tup [x, y]) → Im H' x (.tuple ((pickR o xs).map fr)) → Im H' y (.tuple ((pickR d ys).map fr)) → Q (.ref p) H'

@[reducible] def N_q_sums_of : List Str := ["evening", "group", "owers", "takers", "ower", "taker"]
def t_q_sums_of (K : PySem.W.Frag) (C : CA) : TS :=
  (tSeq (tAsg (tVar 1) (gTup K 2 (gCons (gName 2) (gCons (gName 3) gNil)))) (tRet (tTup (tCons (tCB (cTup K) (tCons (tLc (iTup K (tVar 2)) (gName 4) tYes (tOp (rIxT K) (tFld K (tVar 0) "owed") (tVar 4)) [4]) tNil)) (tCons (tCB (cTup K) (tCons (tLc (iTup K (tVar 3)) (gName 5) tYes (tOp (rIxT K) (tFld K (tVar 0) "due") (tVar 5)) [5]) tNil)) tNil)))))

theorem rd_q_sums_of {K : PySem.W.Frag} {C : CA} (T : CT K C) {vs : List V} {H : Hp} {Q : VK} {E : XK} (h : sp_q_sums_of K C vs H Q E) : t_q_sums_of K C { nx := fun _ H' => Q .non H', rt := Q } (start N_q_sums_of vs) H := by
  obtain ⟨e, v, o, d, xs, ys, P, rfl, hev, hv, g, hx, hy, q⟩ := h
  obtain ⟨a, b, c, rfl, ha, hb, hc⟩ := grp_at hv
  obtain ⟨ea, ex, vo, vd, rfl, he, ho, hd⟩ := hev
  obtain ⟨ao, xo, rfl, hao, hlo⟩ := ho.tup_at
  obtain ⟨ad, xd, rfl, had, hld⟩ := hd.tup_at
  have e0 : sizeLine = 16777216 := PySem.sizeLine_eq
  unfold t_q_sums_of
  walk_at "go"
  refine lcT_of (es := xs.map fun (i : Nat) => PyData.int (i : Nat)) (pickF o) hb (im_nats xs) (by rw [List.length_map]; omega) (fun e x H1 N hm s1 hi hN => ?_) (fun D H1 zs nD s1 e1 i1 => ?_)
  · obtain ⟨i, hi', rfl⟩ := List.mem_map.mp hm
    simp only [Im] at hi
    subst hi
    obtain ⟨u, eu, iu⟩ := hlo.fr_get (g.hx i hi')
    walk_at "go"
    refine ⟨rfl, ?_⟩
    walk_at "go"
    refine i_fld' (s1 _ _ he) T.cl T.nO rfl ?_
    walk_at "go"
    refine i_ixT (s1 _ _ hao) (atI_nn eu) ?_
    exact hN _ _ (Same.refl _) (by simpa [pickF] using sm_im s1 iu)
  · rw [pick_map] at i1
    walk_at "go"
    refine i_ctupL e1 (fun t1 H2 n2 s2 e2 => ?_)
    walk_at "go"
    have hc2 := s2 _ _ (s1 _ _ hc)
    refine lcT_of (es := ys.map fun (i : Nat) => PyData.int (i : Nat)) (pickF d) hc2 (im_nats ys) (by rw [List.length_map]; omega) (fun e x H3 N hm s3 hi hN => ?_) (fun D3 H3 zs3 nD3 s3 e3 i3 => ?_)
    · obtain ⟨i, hi', rfl⟩ := List.mem_map.mp hm
      simp only [Im] at hi
      subst hi
      obtain ⟨u, eu, iu⟩ := hld.fr_get (g.hy i hi')
      walk_at "go"
      refine ⟨rfl, ?_⟩
      walk_at "go"
      refine i_fld' (s3 _ _ (s2 _ _ (s1 _ _ he))) T.cl T.nD rfl ?_
      walk_at "go"
      refine i_ixT (s3 _ _ (s2 _ _ (s1 _ _ had))) (atI_nn eu) ?_
      exact hN _ _ (Same.refl _) (by simpa [pickF] using sm_im s3 (sm_im s2 (sm_im s1 iu)))
    · rw [pick_map] at i3
      walk_at "go"
      refine i_ctupL e3 (fun t4 H4 n4 s4 e4 => ?_)
      walk_at "go"
      rename_i p5 H5 n5 s5 e5
      exact q p5 (.ref t1) (.ref t4) H5 (s1.trans (s2.trans (s3.trans (s4.trans s5)))) e5 (Im.tup (s5 _ _ (s4 _ _ (s3 _ _ e2))) (sm_iml s5 (sm_iml s4 (sm_iml s3 (sm_iml s2 i1))))) (Im.tup (s5 _ _ e4) (sm_iml s5 (sm_iml s4 i3)))

theorem sc_q_sums_of : FnScope N_q_sums_of ["evening", "group"] (defScope s_q_sums_of) := ⟨rfl, rfl, rfl, by decide +kernel, rfl, by decide +kernel, by decide +kernel⟩
theorem ok_q_sums_of {P : Program} {w : World} {K : PySem.W.Frag} {mg : Str → Option Value} {base : Heap} {C : CA} {f : Addr} {fd : FuncData} (T : CT K C) (TT : CTT K C) (B : Bi mg C) (F : Fun K "_sums_of" "_sums_of" s_q_sums_of f fd)  : FnOk P w K mg base CX0 1 f fd ["evening", "group"] (sp_q_sums_of K C) := by
  refine F.ok sc_q_sums_of (fun vs H Q E h => ?_) (fun cdv A outer s H vs Q E hr h => ⟨t_q_sums_of K C, ?_, rd_q_sums_of T h⟩)
  · obtain ⟨_, _, _, _, _, _, _, rfl, _⟩ := h
    rfl
  · exact (pss_cons (ps_asg (pv 1) (pg_tup rfl (pgs_cons (pg_name (i := 2) sc_q_sums_of.nd rfl (Or.inl rfl)) (pgs_cons (pg_name (i := 3) sc_q_sums_of.nd rfl (Or.inl rfl)) pgs_nil)))) (pss_one (ps_ret (pe_tup (pa_cons (pe_callTy call_tuple_of (by rfl) B.b_tuple bt_tuple (pa_cons (pe_lc (own := [("ower", 4)]) (g := (gName 4)) (tt := tYes) rfl sc_q_sums_of.nd (pi_tup (pv 2)) (blkOk_by (own := [("ower", 4)]) (N := N_q_sums_of) (sc := defScope s_q_sums_of) (by decide +kernel)) (fun _ _ _ _ _ => (pg_name (i := 4) sc_q_sums_of.nd rfl (Or.inl rfl))) (fun _ _ _ _ _ => pts_nil) (fun _ _ _ _ _ => (pe_ix ix_tup (pe_fld (pv 0) rfl) (pv 4) (fun _ _ => rfl)))) pa_nil)) (pa_cons (pe_callTy call_tuple_of (by rfl) B.b_tuple bt_tuple (pa_cons (pe_lc (own := [("taker", 5)]) (g := (gName 5)) (tt := tYes) rfl sc_q_sums_of.nd (pi_tup (pv 3)) (blkOk_by (own := [("taker", 5)]) (N := N_q_sums_of) (sc := defScope s_q_sums_of) (by decide +kernel)) (fun _ _ _ _ _ => (pg_name (i := 5) sc_q_sums_of.nd rfl (Or.inl rfl))) (fun _ _ _ _ _ => pts_nil) (fun _ _ _ _ _ => (pe_ix ix_tup (pe_fld (pv 0) rfl) (pv 5) (fun _ _ => rfl)))) pa_nil)) pa_nil))))))

/-! ### is_even -/
abbrev s_is_even : Stmt := top 36
def sp_is_even (K : PySem.W.Frag) (C : CA) : Sp := fun vs H Q _ => ∃ (e v : V) (o d : List Rat) (th : Th) (P : Addr → Prop), vs = [e, v] ∧ EvAt C H e o d ∧ ThR P H v th ∧ th.Sm2 ∧ Bs (o ++ d) ∧ ∀ k H', Same H H' → (k = true ↔ IsEven o d th) → Q (.bl k) H'

@[reducible] def N_is_even : List Str := ["evening", "thing", "owed", "due"]
def t_is_even (K : PySem.W.Frag) (C : CA) : TS :=
  (tSeq (tIfS (tNot (tB (tCall (sp_is_group K C) [] E0 (tCons (tVar 0) (tCons (tVar 1) tNil))))) (tRet (tC (.bl false))) tNext) (tSeq (tAsg (tCall (sp_q_sums_of K C) [] E0 (tCons (tVar 0) (tCons (tVar 1) tNil))) (gTup K 2 (gCons (gName 2) (gCons (gName 3) gNil)))) (tRet (tOp (rEqD K) (tCall (sp_added K C) [] E0 (tCons (tVar 2) tNil)) (tCall (sp_added K C) [] E0 (tCons (tVar 3) tNil))))))

theorem rd_is_even {K : PySem.W.Frag} {C : CA} {vs : List V} {H : Hp} {Q : VK} {E : XK} (h : sp_is_even K C vs H Q E) : t_is_even K C { nx := fun _ H' => Q .non H', rt := Q } (start N_is_even vs) H := by
  obtain ⟨e, v, o, d, th, P, rfl, hev, hv, hs, hb, q⟩ := h
  unfold t_is_even
  walk_at "go"
  refine ⟨e, v, o, d, th, P, rfl, hev, hv, hs, fun k H1 s1 hk => ?_⟩
  walk_at "go"
  refine ite_nb (fun h => ?_) (fun h => ?_)
  · walk_at "go"
    exact q _ _ s1 (fls fun z => by rw [hk.mpr z.grp] at h; cases h)
  · obtain ⟨xs, ys, rfl, g⟩ := hk.mp h
    obtain ⟨l1, l2⟩ := grp_small hs
    have b1 := pick_bs hb l1 g.hx
    have b2 := pick_bs' hb l2 g.hy
    walk_at "go"
    refine ⟨e, v, o, d, xs, ys, P, rfl, sm_ev s1 hev, sm_th s1 hv, g, l1, l2, fun p x y H2 s2 e2 ix iy => ?_⟩
    walk_at "go"
    refine ⟨x, _, rfl, ix, b1.bd, fun x3 H3 s3 i3 => ?_⟩
    walk_at "go"
    refine ⟨y, _, rfl, sm_im s3 iy, b2.bd, fun x4 H4 s4 i4 => ?_⟩
    walk_at "go"
    refine i_eqD (sm_im s4 i3) i4 (fr_shaped _) (fr_shaped _) ?_
    rw [eqv_fr]
    refine q _ _ (s1.trans (s2.trans (s3.trans s4))) ?_
    rw [decide_eq_true_eq]
    constructor
    · intro z
      exact ⟨xs, ys, rfl, g, z⟩
    · rintro ⟨xs', ys', e', _, z⟩
      obtain ⟨rfl, rfl⟩ := grpT_inj e'
      exact z

theorem sc_is_even : FnScope N_is_even ["evening", "thing"] (defScope s_is_even) := ⟨rfl, rfl, rfl, by decide +kernel, rfl, by decide +kernel, by decide +kernel⟩
theorem ok_is_even {P : Program} {w : World} {K : PySem.W.Frag} {mg : Str → Option Value} {base : Heap} {C : CA} {f : Addr} {fd : FuncData} (T : CT K C) (TT : CTT K C) (B : Bi mg C) (F : Fun K "is_even" "is_even" s_is_even f fd) (D_added : Okd P w K mg base 2 "added" ["fractions"] (sp_added K C)) (D_is_group : Okd P w K mg base 4 "is_group" ["evening", "thing"] (sp_is_group K C)) (D_q_sums_of : Okd P w K mg base 1 "_sums_of" ["evening", "group"] (sp_q_sums_of K C)) : FnOk P w K mg base CX0 5 f fd ["evening", "thing"] (sp_is_even K C) := by
  refine F.ok sc_is_even (fun vs H Q E h => ?_) (fun cdv A outer s H vs Q E hr h => ⟨t_is_even K C, ?_, rd_is_even h⟩)
  · obtain ⟨_, _, _, _, _, _, rfl, _⟩ := h
    rfl
  · exact (pss_cons (ps_if (pt_not (pt_val (pe_callD D_is_group (hr.mono (by decide)) (pa_cons (pv 0) (pa_cons (pv 1) pa_nil))))) (pss_one (ps_ret pe_bl)) pss_nil) (pss_cons (ps_asg (pe_callD D_q_sums_of (hr.mono (by decide)) (pa_cons (pv 0) (pa_cons (pv 1) pa_nil))) (pg_tup rfl (pgs_cons (pg_name (i := 2) sc_is_even.nd rfl (Or.inl rfl)) (pgs_cons (pg_name (i := 3) sc_is_even.nd rfl (Or.inl rfl)) pgs_nil)))) (pss_one (ps_ret (pe_cmpR (op_eqD hr.units) (pe_callD D_added (hr.mono (by decide)) (pa_cons (pv 2) pa_nil)) (pe_callD D_added (hr.mono (by decide)) (pa_cons (pv 3) pa_nil)) (nomark _))))))

/-! ### _law_hand -/
abbrev s_L_hand : Stmt := top 38
def sp_L_hand (K : PySem.W.Frag) (C : CA) : Sp := fun vs H Q _ => ∃ (a : Addr) (ns : List Int), vs = [.ref a] ∧ SqL K H a (ns.map V.int) ∧ ns.length ≤ 63 ∧
  ∀ m c H', Same H H' → Hand H' m c → Q (.ref m) H'

@[reducible] def N_L_hand : List Str := ["_law_script", "_law_cells", "_law_cell"]
def t_L_hand (K : PySem.W.Frag) (C : CA) : TS :=
  (tSeq (tAsg (tLc (iList K (tSl (rSlL K) (tVar 0) tNoPart (tPart (tC (.int 63))))) (gName 2) tYes (tCB cAbs (tCons (tCB cInt1 (tCons (tVar 2) tNil)) tNil)) [2]) (gName 1)) (tRet (tLst (tCons (tVar 1) (tCons (tC (.int 0)) (tCons (tC (.int 0)) (tCons (tOp oAdd (tC (.int 1)) (tCB (cLen K) (tCons (tVar 1) tNil))) (tCons (tC (.int 0)) tNil))))))))

theorem rd_L_hand {K : PySem.W.Frag} {C : CA} {vs : List V} {H : Hp} {Q : VK} {E : XK} (h : sp_L_hand K C vs H Q E) : t_L_hand K C { nx := fun _ H' => Q .non H', rt := Q } (start N_L_hand vs) H := by
  obtain ⟨a, ns, rfl, hs, hn, q⟩ := h
  unfold t_L_hand
  walk_at "go"
  refine i_slLq hs ?_
  intro p H1 hp s1 e1
  obtain ⟨ms, em, hl⟩ := cutV_map ns none (some 63)
  rw [em] at e1
  refine lcL_of (es := ms.map PyData.int) (fun d => match d with | .int i => .int (i.natAbs : Nat) | d => d) (SqL.of e1) (ImL.ints ms) (by rw [List.length_map]; exact small1000 (by omega)) (fun e x H2 N he s2 hx hN => ?_) (fun D H2 ys hD s2 e2 hy => ?_)
  · obtain ⟨i, _, rfl⟩ := List.mem_map.mp he
    simp only [Im] at hx
    subst hx
    walk_at "go"
    refine ⟨rfl, ?_⟩
    walk_at "go"
    exact hN _ _ (Same.refl _) Im.int'
  · have ey : ∃ ks : List Int, ys = ks.map V.int := by
      rw [List.map_map] at hy
      clear e2 em hl e1
      induction ms generalizing ys with
      | nil => cases ys with
        | nil => exact ⟨[], rfl⟩
        | cons y ys => simp [ImL] at hy
      | cons z zs ih => cases ys with
        | nil => simp [ImL] at hy
        | cons y ys =>
          simp only [List.map_cons, ImL, Function.comp, Im] at hy
          obtain ⟨ks, rfl⟩ := ih ys hy.2
          exact ⟨_ :: ks, by rw [hy.1]; rfl⟩
    obtain ⟨ks, rfl⟩ := ey
    walk_at "go"
    refine q _ D _ ?_ ?_
    · walk_at "sm"
    · exact ⟨_, _, _, _, _, by assumption, by walk_at "keep", by walk_at "ne", by omega⟩

theorem sc_L_hand : FnScope N_L_hand ["_law_script"] (defScope s_L_hand) := ⟨rfl, rfl, rfl, by decide +kernel, rfl, by decide +kernel, by decide +kernel⟩
theorem ok_L_hand {P : Program} {w : World} {K : PySem.W.Frag} {mg : Str → Option Value} {base : Heap} {C : CA} {f : Addr} {fd : FuncData} (T : CT K C) (TT : CTT K C) (B : Bi mg C) (F : Fun K "_law_hand" "_law_hand" s_L_hand f fd)  : FnOk P w K mg base CX0 1 f fd ["_law_script"] (sp_L_hand K C) := by
  refine F.ok sc_L_hand (fun vs H Q E h => ?_) (fun cdv A outer s H vs Q E hr h => ⟨t_L_hand K C, ?_, rd_L_hand h⟩)
  · obtain ⟨_, _, rfl, _⟩ := h
    rfl
  · exact (pss_cons (ps_setLc (i := 1) (own := [("_law_cell", 2)]) (g := (gName 2)) (tt := tYes) rfl sc_L_hand.nd rfl rfl (sw_true rfl rfl rfl (by decide +kernel)) (pi_list (pe_slice sl_list (pv 0) po_none (po_some pe_int))) (blkOk_by (own := [("_law_cell", 2)]) (N := N_L_hand) (sc := defScope s_L_hand) (by decide +kernel)) (fun _ _ _ _ _ => (pg_name (i := 2) sc_L_hand.nd rfl (Or.inl rfl))) (fun _ _ _ _ _ => pts_nil) (fun _ _ _ _ _ => (pe_callB call_abs (by rfl) B.b_abs bt_abs (pa_cons (pe_callTy call_int1 (by rfl) B.b_int bt_int (pa_cons (pv 2) pa_nil)) pa_nil)))) (pss_one (ps_ret (pe_lst (pa_cons (pv 1) (pa_cons pe_int (pa_cons pe_int (pa_cons (pe_op op_add pe_int (pe_callB call_len (by rfl) B.b_len bt_len (pa_cons (pv 1) pa_nil))) (pa_cons pe_int pa_nil)))))))))

/-! ### _law_draw -/
abbrev s_L_draw : Stmt := top 39
def sp_L_draw (K : PySem.W.Frag) (C : CA) : Sp := fun vs H Q _ => ∃ (m c : Addr) (n : Int), vs = [.ref m, .int n] ∧ Hand H m c ∧ 0 < n ∧ n.natAbs.log2 < 9000 ∧
  ∀ d H', 0 ≤ d → d < n → KL m H H' → Hand H' m c → Q (.int d) H'

@[reducible] def N_L_draw : List Str := ["_law_hand_here", "_law_many", "_law_cell", "_law_digit", "_law_number"]
def t_L_draw (K : PySem.W.Frag) (C : CA) : TS :=
  (tSeq (tIfS (tAnd (tTest (tOp rEq (tOp (rIxL K) (tVar 0) (tC (.int 2))) (tC (.int 0)))) (tTest (tOp oLt (tOp (rIxL K) (tVar 0) (tC (.int 1))) (tCB (cLen K) (tCons (tOp (rIxL K) (tVar 0) (tC (.int 0))) tNil))))) (tSeq (tAsg (tOp (rIxL K) (tOp (rIxL K) (tVar 0) (tC (.int 0))) (tOp (rIxL K) (tVar 0) (tC (.int 1)))) (gName 2)) (tSeq (tAsg (tOp oAdd (tOp (rIxL K) (tVar 0) (tC (.int 1))) (tC (.int 1))) (gSub (tVar 0) (tC (.int 1)) rSetL)) (tSeq (tAsg (tOp oMod (tCB cInt1 (tCons (tOp oAdd (tOp oAdd (tOp oMul (tOp (rIxL K) (tVar 0) (tC (.int 3))) (tC (.int 69621))) (tVar 2)) (tC (.int 11))) tNil)) (tC (.int 2147483629))) (gSub (tVar 0) (tC (.int 3)) rSetL)) (tIfS (tTest (tOp oGe (tVar 2) (tOp oPow (tC (.int 10)) (tC (.int 18))))) (tAsg (tVar 2) (gSub (tVar 0) (tC (.int 2)) rSetL)) tNext)))) tNext) (tSeq (tIfS (tTest (tOp oGt (tOp (rIxL K) (tVar 0) (tC (.int 2))) (tC (.int 0)))) (tSeq (tAsg (tOp oMod (tCB cInt1 (tCons (tOp (rIxL K) (tVar 0) (tC (.int 2))) tNil)) (tVar 1)) (gName 3)) (tSeq (tAsg (tOp oDiv (tOp (rIxL K) (tVar 0) (tC (.int 2))) (tVar 1)) (gSub (tVar 0) (tC (.int 2)) rSetL)) (tRet (tVar 3)))) tNext) (tSeq (tAsg (tOp oAdd (tOp (rIxL K) (tVar 0) (tC (.int 4))) (tC (.int 1))) (gSub (tVar 0) (tC (.int 4)) rSetL)) (tSeq (tAsg (tOp oMod (tCB cInt1 (tCons (tOp oMul (tCB cInt1 (tCons (tOp oAdd (tOp (rIxL K) (tVar 0) (tC (.int 3))) (tOp oMul (tC (.int 7919)) (tOp (rIxL K) (tVar 0) (tC (.int 4))))) tNil)) (tC (.int 48271))) tNil)) (tC (.int 2147483647))) (gName 4)) (tSeq (tAsg (tOp oMod (tCB cInt1 (tCons (tOp oMul (tVar 4) (tOp oAdd (tOp oDiv (tVar 4) (tC (.int 1009))) (tC (.int 69621)))) tNil)) (tC (.int 2147483647))) (gName 4)) (tSeq (tAsg (tOp oMod (tCB cInt1 (tCons (tOp oMul (tVar 4) (tOp oAdd (tOp oDiv (tVar 4) (tC (.int 2003))) (tC (.int 40692)))) tNil)) (tC (.int 2147483399))) (gName 4)) (tRet (tOp oMod (tCB cInt1 (tCons (tOp oDiv (tVar 4) (tC (.int 16))) tNil)) (tVar 1)))))))))

theorem rd_L_draw {K : PySem.W.Frag} {C : CA} {vs : List V} {H : Hp} {Q : VK} {E : XK} (h : sp_L_draw K C vs H Q E) : t_L_draw K C { nx := fun _ H' => Q .non H', rt := Q } (start N_L_draw vs) H := by
  obtain ⟨m, c, n, rfl, ⟨i, x, s, k, cells, hm, hc, ne, i0⟩, n0, n1, q⟩ := h
  unfold t_L_draw
  refine i_cut (fun σ' H' => ∃ y, σ' = [some (.ref m), some (.int n), y, none, none] ∧ KL m H H' ∧ Hand H' m c) (fun N hN => ?_) ?_
  · walk_at "go"
    refine ite_d (fun hx => ?_) (fun hx => ?_)
    · walk_at "go"
      refine ite_d (fun hi => ?_) (fun hi => ?_)
      · obtain ⟨z, _, ez⟩ := atI_ints i0 (by simpa using hi)
        walk_at "go"
        refine i_ixL hc ez ?_
        walk_at "go"
        refine ite_d (fun hi => ?_) (fun hi => ?_)
        all_goals (walk_at "go"; exact hN _ _ ⟨_, rfl, by walk_at "sm", _, _, _, _, _, by assumption, by walk_at "keep", ne, by omega⟩)
      · walk_at "go"
        exact hN _ _ ⟨none, rfl, KL.refl, i, x, s, k, cells, hm, hc, ne, i0⟩
    · walk_at "go"
      exact hN _ _ ⟨none, rfl, KL.refl, i, x, s, k, cells, hm, hc, ne, i0⟩
  · rintro σ H1 ⟨y, rfl, kl, i, x, s, k, cells, hm, hc, ne, i0⟩
    walk_at "go"
    refine ite_d (fun hx => ?_) (fun hx => ?_)
    · walk_at "go"
      exact q _ _ (Int.emod_nonneg _ (by omega)) (Int.emod_lt_of_pos _ n0) (by walk_at "sm") ⟨_, _, _, _, _, by assumption, by walk_at "keep", ne, i0⟩
    · walk_at "go"
      exact q _ _ (Int.emod_nonneg _ (by omega)) (Int.emod_lt_of_pos _ n0) (by walk_at "sm") ⟨_, _, _, _, _, by assumption, by walk_at "keep", ne, i0⟩

theorem sc_L_draw : FnScope N_L_draw ["_law_hand_here", "_law_many"] (defScope s_L_draw) := ⟨rfl, rfl, rfl, by decide +kernel, rfl, by decide +kernel, by decide +kernel⟩
theorem ok_L_draw {P : Program} {w : World} {K : PySem.W.Frag} {mg : Str → Option Value} {base : Heap} {C : CA} {f : Addr} {fd : FuncData} (T : CT K C) (TT : CTT K C) (B : Bi mg C) (F : Fun K "_law_draw" "_law_draw" s_L_draw f fd)  : FnOk P w K mg base CX0 1 f fd ["_law_hand_here", "_law_many"] (sp_L_draw K C) := by
  refine F.ok sc_L_draw (fun vs H Q E h => ?_) (fun cdv A outer s H vs Q E hr h => ⟨t_L_draw K C, ?_, rd_L_draw h⟩)
  · obtain ⟨_, _, _, rfl, _⟩ := h
    rfl
  · exact (pss_cons (ps_if (PW.pt (pw_and (pt_cmpR op_eq (pe_ix ix_list (pv 0) pe_int (fun _ _ => rfl)) pe_int (nomark _)) (pw_and1 (pt_cmpR op_lt (pe_ix ix_list (pv 0) pe_int (fun _ _ => rfl)) (pe_callB call_len (by rfl) B.b_len bt_len (pa_cons (pe_ix ix_list (pv 0) pe_int (fun _ _ => rfl)) pa_nil)) (nomark _))))) (pss_cons (ps_set (i := 2) sc_L_draw.nd rfl (Or.inl rfl) (pe_ix ix_list (pe_ix ix_list (pv 0) pe_int (fun _ _ => rfl)) (pe_ix ix_list (pv 0) pe_int (fun _ _ => rfl)) (fun _ _ => rfl))) (pss_cons (ps_asg (pe_op op_add (pe_ix ix_list (pv 0) pe_int (fun _ _ => rfl)) pe_int) (pg_sub (pv 0) pe_int set_list)) (pss_cons (ps_asg (pe_op op_mod (pe_callTy call_int1 (by rfl) B.b_int bt_int (pa_cons (pe_op op_add (pe_op op_add (pe_op op_mulA (pe_ix ix_list (pv 0) pe_int (fun _ _ => rfl)) pe_int) (pv 2)) pe_int) pa_nil)) pe_int) (pg_sub (pv 0) pe_int set_list)) (pss_one (ps_if (pt_cmpR op_ge (pv 2) (pe_op op_pow pe_int pe_int) (nomark _)) (pss_one (ps_asg (pv 2) (pg_sub (pv 0) pe_int set_list))) pss_nil))))) pss_nil) (pss_cons (ps_if (pt_cmpR op_gt (pe_ix ix_list (pv 0) pe_int (fun _ _ => rfl)) pe_int (nomark _)) (pss_cons (ps_set (i := 3) sc_L_draw.nd rfl (Or.inl rfl) (pe_op op_mod (pe_callTy call_int1 (by rfl) B.b_int bt_int (pa_cons (pe_ix ix_list (pv 0) pe_int (fun _ _ => rfl)) pa_nil)) (pv 1))) (pss_cons (ps_asg (pe_op op_fdivW (pe_ix ix_list (pv 0) pe_int (fun _ _ => rfl)) (pv 1)) (pg_sub (pv 0) pe_int set_list)) (pss_one (ps_ret (pv 3))))) pss_nil) (pss_cons (ps_asg (pe_op op_add (pe_ix ix_list (pv 0) pe_int (fun _ _ => rfl)) pe_int) (pg_sub (pv 0) pe_int set_list)) (pss_cons (ps_set (i := 4) sc_L_draw.nd rfl (Or.inl rfl) (pe_op op_mod (pe_callTy call_int1 (by rfl) B.b_int bt_int (pa_cons (pe_op op_mulA (pe_callTy call_int1 (by rfl) B.b_int bt_int (pa_cons (pe_op op_add (pe_ix ix_list (pv 0) pe_int (fun _ _ => rfl)) (pe_op op_mulA pe_int (pe_ix ix_list (pv 0) pe_int (fun _ _ => rfl)))) pa_nil)) pe_int) pa_nil)) pe_int)) (pss_cons (ps_set (i := 4) sc_L_draw.nd rfl (Or.inl rfl) (pe_op op_mod (pe_callTy call_int1 (by rfl) B.b_int bt_int (pa_cons (pe_op op_mulA (pv 4) (pe_op op_add (pe_op op_fdivW (pv 4) pe_int) pe_int)) pa_nil)) pe_int)) (pss_cons (ps_set (i := 4) sc_L_draw.nd rfl (Or.inl rfl) (pe_op op_mod (pe_callTy call_int1 (by rfl) B.b_int bt_int (pa_cons (pe_op op_mulA (pv 4) (pe_op op_add (pe_op op_fdivW (pv 4) pe_int) pe_int)) pa_nil)) pe_int)) (pss_one (ps_ret (pe_op op_mod (pe_callTy call_int1 (by rfl) B.b_int bt_int (pa_cons (pe_op op_fdivW (pv 4) pe_int) pa_nil)) (pv 1))))))))))

/-! ### _law_common -/
abbrev s_L_common : Stmt := top 40
def sp_L_common (K : PySem.W.Frag) (C : CA) : Sp := fun vs H Q _ => ∃ a b : Int, vs = [.int a, .int b] ∧ a.natAbs * b.natAbs < 2 ^ 598 ∧ Q (.int ((a.natAbs.gcd b.natAbs : Nat) : Int)) H

@[reducible] def N_L_common : List Str := ["_law_one", "_law_other", "_law_turn", "_law_rest"]
def t_L_common (K : PySem.W.Frag) (C : CA) : TS :=
  (tSeq (tAsg (tCB cAbs (tCons (tVar 0) tNil)) (gName 0)) (tSeq (tAsg (tCB cAbs (tCons (tVar 1) tNil)) (gName 1)) (tSeq (tFor (iRng1 (tCons (tC (.int 600)) tNil)) (gName 2) (tSeq (tIfS (tTest (tOp rEq (tVar 1) (tC (.int 0)))) tBreak tNext) (tSeq (tAsg (tOp oMod (tCB cInt1 (tCons (tVar 0) tNil)) (tVar 1)) (gName 3)) (tSeq (tAsg (tVar 1) (gName 0)) (tAsg (tVar 3) (gName 1)))))) (tRet (tVar 0)))))

theorem euclid_half {x y : Nat} (h : y < x) (h0 : 0 < y) : 2 * (y * (x % y)) < x * y := by
  have h1 := Nat.div_add_mod x y
  have h2 := Nat.mod_lt x h0
  have h3 : 1 ≤ x / y := (Nat.le_div_iff_mul_le h0).mpr (by omega)
  have h4 : y * 1 ≤ y * (x / y) := Nat.mul_le_mul_left _ h3
  have h5 : 2 * (x % y) < x := by omega
  have h6 : y * (2 * (x % y)) < y * x := Nat.mul_lt_mul_of_pos_left h5 h0
  calc 2 * (y * (x % y)) = y * (2 * (x % y)) := by rw [Nat.mul_left_comm]
    _ < y * x := h6
    _ = x * y := Nat.mul_comm _ _
theorem rd_L_common {K : PySem.W.Frag} {C : CA} {vs : List V} {H : Hp} {Q : VK} {E : XK} (h : sp_L_common K C vs H Q E) : t_L_common K C { nx := fun _ H' => Q .non H', rt := Q } (start N_L_common vs) H := by
  obtain ⟨a, b, rfl, hb, q⟩ := h
  unfold t_L_common
  walk_at "go"
  refine forR_of (n := 600) (fun i σ H' => H' = H ∧ ∃ (x y : Nat) (v w : Option V), σ = [some (.int (x : Nat)), some (.int (y : Nat)), v, w] ∧ x.gcd y = a.natAbs.gcd b.natAbs ∧ (i = 0 → x * y < 2 ^ 598) ∧ (1 ≤ i → y < x ∧ x * y < 2 ^ (599 - i)))
    (fun σ H' => H' = H ∧ ∃ (x : Nat) (u v w : Option V), σ = [some (.int (x : Nat)), u, v, w] ∧ x = a.natAbs.gcd b.natAbs) rfl (by decide)
    ⟨rfl, a.natAbs, b.natAbs, none, none, rfl, rfl, fun _ => hb, fun h => absurd h (by decide)⟩ ?_ ?_ ?_
  · rintro i σ H' N B hi ⟨rfl, x, y, v, w, rfl, hg, h0, h1⟩ hN hB
    walk_at "go"
    refine ite_d (fun hy => ?_) (fun hy => ?_)
    · walk_at "go"
      have hy0 : y = 0 := by injection hy with e; omega
      subst hy0
      exact hB _ _ ⟨rfl, x, _, _, _, rfl, by rw [← hg, Nat.gcd_zero_right]⟩
    · have hy0 : 0 < y := by
        rcases Nat.eq_zero_or_pos y with e | e
        · subst e; exact absurd rfl hy
        · exact e
      walk_at "go"
      rw [← Int.natCast_emod]
      refine hN _ _ ⟨rfl, y, x % y, _, _, rfl, ?_, fun h => absurd h (by omega), fun _ => ⟨Nat.mod_lt _ hy0, ?_⟩⟩
      · rw [← hg, Nat.gcd_comm x y, Nat.gcd_rec y x, Nat.gcd_comm]
      · by_cases hi0 : i = 0
        · subst hi0
          have e := h0 rfl
          exact Nat.lt_of_le_of_lt (Nat.le_trans (Nat.mul_le_mul_left y (Nat.mod_le x y)) (Nat.le_of_eq (Nat.mul_comm y x))) e
        · obtain ⟨l1, l2⟩ := h1 (by omega)
          have e := euclid_half l1 hy0
          have e2 : 599 - i = (599 - (i + 1)) + 1 := by
            have : i ≠ 599 := by
              rintro rfl
              have : x * y = 0 := by simpa using l2
              have : 0 < x * y := Nat.mul_pos (by omega) hy0
              omega
            omega
          rw [e2, Nat.pow_succ] at l2
          omega
  · rintro σ H' ⟨rfl, x, y, v, w, rfl, hg, h0, h1⟩
    obtain ⟨l1, l2⟩ := h1 (by decide)
    have hy0 : y = 0 := by
      have l3 : x * y < 1 := l2
      rcases Nat.eq_zero_or_pos y with e | e
      · exact e
      · have := Nat.mul_pos (show 0 < x by omega) e
        omega
    subst hy0
    rw [Nat.gcd_zero_right] at hg
    walk_at "go"
    rw [hg]
    exact q
  · rintro σ H' ⟨rfl, x, u, v, w, rfl, hg⟩
    walk_at "go"
    rw [hg]
    exact q

theorem sc_L_common : FnScope N_L_common ["_law_one", "_law_other"] (defScope s_L_common) := ⟨rfl, rfl, rfl, by decide +kernel, rfl, by decide +kernel, by decide +kernel⟩
theorem ok_L_common {P : Program} {w : World} {K : PySem.W.Frag} {mg : Str → Option Value} {base : Heap} {C : CA} {f : Addr} {fd : FuncData} (T : CT K C) (TT : CTT K C) (B : Bi mg C) (F : Fun K "_law_common" "_law_common" s_L_common f fd)  : FnOk P w K mg base CX0 1 f fd ["_law_one", "_law_other"] (sp_L_common K C) := by
  refine F.ok sc_L_common (fun vs H Q E h => ?_) (fun cdv A outer s H vs Q E hr h => ⟨t_L_common K C, ?_, rd_L_common h⟩)
  · obtain ⟨_, _, rfl, _⟩ := h
    rfl
  · exact (pss_cons (ps_set (i := 0) sc_L_common.nd rfl (Or.inl rfl) (pe_callB call_abs (by rfl) B.b_abs bt_abs (pa_cons (pv 0) pa_nil))) (pss_cons (ps_set (i := 1) sc_L_common.nd rfl (Or.inl rfl) (pe_callB call_abs (by rfl) B.b_abs bt_abs (pa_cons (pv 1) pa_nil))) (pss_cons (ps_for PassesOwn.never rfl (pi_range1 rfl B.b_range (pa_cons pe_int pa_nil)) (pg_name (i := 2) sc_L_common.nd rfl (Or.inl rfl)) (pss_cons (ps_if (pt_cmpR op_eq (pv 1) pe_int (nomark _)) (pss_one ps_break) pss_nil) (pss_cons (ps_set (i := 3) sc_L_common.nd rfl (Or.inl rfl) (pe_op op_mod (pe_callTy call_int1 (by rfl) B.b_int bt_int (pa_cons (pv 0) pa_nil)) (pv 1))) (pss_cons (ps_set (i := 0) sc_L_common.nd rfl (Or.inl rfl) (pv 1)) (pss_one (ps_set (i := 1) sc_L_common.nd rfl (Or.inl rfl) (pv 3))))))) (pss_one (ps_ret (pv 0))))))

/-! ### _law_fraction -/
abbrev s_L_fraction : Stmt := top 41
def sp_L_fraction (K : PySem.W.Frag) (C : CA) : Sp := fun vs H Q _ => ∃ (n : Int) (d : Nat), vs = [.int n, .int (d : Nat)] ∧ 0 < d ∧ d < 2 ^ 299 ∧ n.natAbs < 2 ^ 299 ∧ Ret H Q (fr (mkRat n d))

@[reducible] def N_L_fraction : List Str := ["_law_top", "_law_bottom", "_law_divisor"]
def t_L_fraction (K : PySem.W.Frag) (C : CA) : TS :=
  (tSeq (tAsg (tCall (sp_L_common K C) [] E0 (tCons (tVar 0) (tCons (tVar 1) tNil))) (gName 2)) (tRet (tTup (tCons (tOp oDiv (tVar 0) (tVar 2)) (tCons (tOp oDiv (tVar 1) (tVar 2)) tNil)))))

theorem rd_L_fraction {K : PySem.W.Frag} {C : CA} {vs : List V} {H : Hp} {Q : VK} {E : XK} (h : sp_L_fraction K C vs H Q E) : t_L_fraction K C { nx := fun _ H' => Q .non H', rt := Q } (start N_L_fraction vs) H := by
  obtain ⟨n, d, rfl, hd, hl, hn, q⟩ := h
  obtain ⟨g0, g1⟩ := gcd_le n d hd
  have hl9 : (n.natAbs.gcd d).log2 < 9000 := log2_of_lt (Nat.lt_of_le_of_lt g1 (Nat.lt_trans hl (Nat.pow_lt_pow_right (by decide) (by decide)))) (by decide)
  unfold t_L_fraction
  walk_at "go"
  refine ⟨n, (d : Nat), rfl, ?_, ?_⟩
  · rw [Int.natAbs_natCast]
    exact Nat.lt_of_lt_of_le (Nat.mul_lt_mul'' hn hl) (by rw [← Nat.pow_add]; exact Nat.le_refl _)
  rw [Int.natAbs_natCast]
  walk_at "go"
  exact q _ _ (by assumption) (Im.fr_of (by rw [low_num n d hd, low_den n d hd]; assumption))

theorem sc_L_fraction : FnScope N_L_fraction ["_law_top", "_law_bottom"] (defScope s_L_fraction) := ⟨rfl, rfl, rfl, by decide +kernel, rfl, by decide +kernel, by decide +kernel⟩
theorem ok_L_fraction {P : Program} {w : World} {K : PySem.W.Frag} {mg : Str → Option Value} {base : Heap} {C : CA} {f : Addr} {fd : FuncData} (T : CT K C) (TT : CTT K C) (B : Bi mg C) (F : Fun K "_law_fraction" "_law_fraction" s_L_fraction f fd) (D_L_common : Okd P w K mg base 1 "_law_common" ["_law_one", "_law_other"] (sp_L_common K C)) : FnOk P w K mg base CX0 2 f fd ["_law_top", "_law_bottom"] (sp_L_fraction K C) := by
  refine F.ok sc_L_fraction (fun vs H Q E h => ?_) (fun cdv A outer s H vs Q E hr h => ⟨t_L_fraction K C, ?_, rd_L_fraction h⟩)
  · obtain ⟨_, _, rfl, _⟩ := h
    rfl
  · exact (pss_cons (ps_set (i := 2) sc_L_fraction.nd rfl (Or.inl rfl) (pe_callD D_L_common (hr.mono (by decide)) (pa_cons (pv 0) (pa_cons (pv 1) pa_nil)))) (pss_one (ps_ret (pe_tup (pa_cons (pe_op op_fdivW (pv 0) (pv 2)) (pa_cons (pe_op op_fdivW (pv 1) (pv 2)) pa_nil))))))

/-! ### _law_times -/
abbrev s_L_times : Stmt := top 44
def sp_L_times (K : PySem.W.Frag) (C : CA) : Sp := fun vs H Q _ => ∃ (v w : V) (p r : Rat), vs = [v, w] ∧ Im H v (fr p) ∧ Im H w (fr r) ∧ p.num.natAbs < 2 ^ 148 ∧ p.den < 2 ^ 148 ∧ r.num.natAbs < 2 ^ 148 ∧ r.den < 2 ^ 148 ∧ Ret H Q (fr (p * r))

@[reducible] def N_L_times : List Str := ["_law_one", "_law_other"]
def t_L_times (K : PySem.W.Frag) (C : CA) : TS :=
  (tRet (tCall (sp_L_fraction K C) [] E0 (tCons (tOp oMul (tOp (rIxT K) (tVar 0) (tC (.int 0))) (tOp (rIxT K) (tVar 1) (tC (.int 0)))) (tCons (tOp oMul (tOp (rIxT K) (tVar 0) (tC (.int 1))) (tOp (rIxT K) (tVar 1) (tC (.int 1)))) tNil))))

theorem rd_L_times {K : PySem.W.Frag} {C : CA} {vs : List V} {H : Hp} {Q : VK} {E : XK} (h : sp_L_times K C vs H Q E) : t_L_times K C { nx := fun _ H' => Q .non H', rt := Q } (start N_L_times vs) H := by
  obtain ⟨v, w, p, r, rfl, hv, hw, h1, h2, h3, h4, q⟩ := h
  obtain ⟨a, rfl, ha⟩ := hv.fr_at
  obtain ⟨b, rfl, hb⟩ := hw.fr_at
  have hp : 0 < p.den := Nat.pos_of_ne_zero p.den_nz
  have hr : 0 < r.den := Nat.pos_of_ne_zero r.den_nz
  unfold t_L_times
  walk_at "go"
  refine i_rI (mul_wide h1 h3 (by decide)) ?_
  walk_at "go"
  refine i_rI (mul_wide (by rw [Int.natAbs_natCast]; exact h2) (by rw [Int.natAbs_natCast]; exact h4) (by decide)) ?_
  walk_at "go"
  have l1 : p.den * r.den < 2 ^ 299 := Nat.lt_of_lt_of_le (Nat.mul_lt_mul'' h2 h4) (by rw [← Nat.pow_add]; decide)
  have l2 : (p.num * r.num).natAbs < 2 ^ 299 := by
    rw [Int.natAbs_mul]
    exact Nat.lt_of_lt_of_le (Nat.mul_lt_mul'' h1 h3) (by rw [← Nat.pow_add]; decide)
  refine ⟨p.num * r.num, p.den * r.den, by simp, Nat.mul_pos hp hr, l1, l2, ?_⟩
  have e : mkRat (p.num * r.num) (p.den * r.den) = p * r := by
    rw [← Rat.mkRat_mul_mkRat, Rat.mkRat_self, Rat.mkRat_self]
  rw [e]
  exact q

theorem sc_L_times : FnScope N_L_times ["_law_one", "_law_other"] (defScope s_L_times) := ⟨rfl, rfl, rfl, by decide +kernel, rfl, by decide +kernel, by decide +kernel⟩
theorem ok_L_times {P : Program} {w : World} {K : PySem.W.Frag} {mg : Str → Option Value} {base : Heap} {C : CA} {f : Addr} {fd : FuncData} (T : CT K C) (TT : CTT K C) (B : Bi mg C) (F : Fun K "_law_times" "_law_times" s_L_times f fd) (D_L_fraction : Okd P w K mg base 2 "_law_fraction" ["_law_top", "_law_bottom"] (sp_L_fraction K C)) : FnOk P w K mg base CX0 3 f fd ["_law_one", "_law_other"] (sp_L_times K C) := by
  refine F.ok sc_L_times (fun vs H Q E h => ?_) (fun cdv A outer s H vs Q E hr h => ⟨t_L_times K C, ?_, rd_L_times h⟩)
  · obtain ⟨_, _, _, _, rfl, _⟩ := h
    rfl
  · exact (pss_one (ps_ret (pe_callD D_L_fraction (hr.mono (by decide)) (pa_cons (pe_op op_mulA (pe_ix ix_tup (pv 0) pe_int (fun _ _ => rfl)) (pe_ix ix_tup (pv 1) pe_int (fun _ _ => rfl))) (pa_cons (pe_op op_mulA (pe_ix ix_tup (pv 0) pe_int (fun _ _ => rfl)) (pe_ix ix_tup (pv 1) pe_int (fun _ _ => rfl))) pa_nil)))))

/-! ### _law_cut -/
abbrev s_L_cut : Stmt := top 47
def sp_L_cut (K : PySem.W.Frag) (C : CA) : Sp := fun vs H Q _ => ∃ (m c : Addr) (full many : Nat), vs = [.ref m, .int (full : Nat), .int (many : Nat)] ∧ Hand H m c ∧ 1 ≤ many ∧ many ≤ full ∧ many ≤ 1000 ∧ full < 2 ^ 62 ∧
  ∀ (p : Addr) (ns : List Int) (H' : Hp), KL m H H' → Hand H' m c → H p = none → ns.length = many → ns.sum = (full : Nat) → (∀ n ∈ ns, 1 ≤ n) → H' p = some (.lst (ns.map V.int)) → Q (.ref p) H'

@[reducible] def N_L_cut : List Str := ["_law_hand_here", "_law_full", "_law_many", "_law_left", "_law_parts", "_law_k", "_law_more", "_law_at"]
def t_L_cut (K : PySem.W.Frag) (C : CA) : TS :=
  (tSeq (tAsg (tOp oSub (tVar 1) (tVar 2)) (gName 3)) (tSeq (tAsg (tLst tNil) (gName 4)) (tSeq (tFor (iRng1 (tCons (tOp oSub (tVar 2) (tC (.int 1))) tNil)) (gName 5) (tSeq (tAsg (tCall (sp_L_draw K C) [] E0 (tCons (tVar 0) (tCons (tOp oAdd (tCB cMin2 (tCons (tVar 3) (tCons (tOp oAdd (tOp oMul (tC (.int 2)) (tOp oDiv (tVar 3) (tOp oSub (tVar 2) (tVar 5)))) (tC (.int 1))) tNil))) (tC (.int 1))) tNil))) (gName 6)) (tSeq (tDrop (tBM K "list" rAppend (tVar 4) (tCons (tOp oAdd (tC (.int 1)) (tVar 6)) tNil))) (tAsg (tOp oSub (tVar 3) (tVar 6)) (gName 3))))) (tSeq (tDrop (tBM K "list" rAppend (tVar 4) (tCons (tOp oAdd (tC (.int 1)) (tVar 3)) tNil))) (tSeq (tAsg (tCall (sp_L_draw K C) [] E0 (tCons (tVar 0) (tCons (tVar 2) tNil))) (gName 7)) (tRet (tOp rCat (tSl (rSlL K) (tVar 4) (tPart (tVar 7)) tNoPart) (tSl (rSlL K) (tVar 4) tNoPart (tPart (tVar 7))))))))))

theorem rd_L_cut {K : PySem.W.Frag} {C : CA} {vs : List V} {H : Hp} {Q : VK} {E : XK} (h : sp_L_cut K C vs H Q E) : t_L_cut K C { nx := fun _ H' => Q .non H', rt := Q } (start N_L_cut vs) H := by
  obtain ⟨m, c, full, many, rfl, hm, h1, h2, hmx, h3, q⟩ := h
  unfold t_L_cut
  walk_at "go"
  rename_i l Hl nl sl el
  obtain ⟨nm, nc⟩ := hand_ne nl hm
  refine forR_of (n := many - 1) (fun i σ H' => KL m H H' ∧ Hand H' m c ∧ ∃ (left : Int) (ns : List Int) (x y z : Option V), σ = [some (.ref m), some (.int (full : Nat)), some (.int (many : Nat)), some (.int left), some (.ref l), x, y, z] ∧ H' l = some (.lst (ns.map V.int)) ∧
      ns.length = i ∧ 0 ≤ left ∧ (∀ n ∈ ns, 1 ≤ n) ∧ ns.sum + left + ((many : Int) - i) = full) (fun _ _ => False) (by omega) (by omega)
    ⟨by walk_at "sm", by walk_at "keep", _, [], none, none, none, rfl, el, rfl, by omega, by simp, by simp⟩ ?_ ?_ (fun _ _ h => h.elim)
  · rintro i σ H1 N B hi ⟨kl, hm1, left, ns, x, y, z, rfl, hl, hlen, l0, hpos, hsum⟩ hN hB
    walk_at "go"
    refine i_rI ⟨by omega, small_log (by omega)⟩ ?_
    walk_at "go"
    have hp : 0 ≤ left / ((many : Int) - i) := Int.ediv_nonneg l0 (by omega)
    have hle : left ≤ full := by
      have : 0 ≤ ns.sum := by
        clear hsum hl hlen
        induction ns with
        | nil => simp
        | cons n ns ih =>
          have a1 := hpos n List.mem_cons_self
          have a2 := ih fun k hk => hpos k (List.mem_cons_of_mem _ hk)
          rw [List.sum_cons]; omega
      omega
    refine ⟨m, c, _, rfl, hm1, by omega, small_log (by omega), fun d H2 d0 d1 kl2 hm2 => ?_⟩
    walk_at "go"
    refine i_append (xs := ns.map V.int) (by walk_at "keep") (small1000 (by rw [List.length_map]; omega)) (fun H3 kl3 e3 => ?_)
    walk_at "go"
    refine hN _ _ ⟨(kl.trans kl2).loc kl3 nl, kl_hand kl3 nl hm hm2, left - d, ns ++ [1 + d], _, _, _, rfl, ?_, ?_, by omega, ?_, ?_⟩
    · rw [e3, List.map_append]; rfl
    · rw [List.length_append, hlen]; rfl
    · intro n hn
      rcases List.mem_append.mp hn with hn | hn
      · exact hpos n hn
      · have : n = 1 + d := by simpa using hn
        omega
    · rw [List.sum_append]
      simp only [List.sum_cons, List.sum_nil]
      omega
  · rintro σ H1 ⟨kl, hm1, left, ns, x, y, z, rfl, hl, hlen, l0, hpos, hsum⟩
    walk_at "go"
    refine i_append (xs := ns.map V.int) hl (small1000 (by rw [List.length_map]; omega)) (fun H3 kl3 e3 => ?_)
    have hm3 := kl_hand kl3 nl hm hm1
    walk_at "go"
    refine ⟨m, c, _, rfl, hm3, by omega, small_log (by omega), fun d H4 d0 d1 kl4 hm4 => ?_⟩
    have e4 : H4 l = some (.lst ((ns ++ [1 + left]).map V.int)) := kl4.keep _ _ (Ne.symm nm) (by rw [e3, List.map_append]; rfl)
    have hl4 : ((ns ++ [1 + left]).map V.int).length = many := by rw [List.length_map, List.length_append, hlen]; show many - 1 + 1 = many; omega
    walk_at "go"
    rename_i p1 H5 n5 s5 e5 p2 H6 n6 s6 e6
    rw [cutV_from d0 (by omega)] at e5
    rw [cutV_to d0 (by omega)] at e6
    refine i_cat (s6 _ _ e5) e6 (by rw [List.length_drop, List.length_take, hl4]; exact Nat.le_of_lt (small1000 (by omega))) (fun p H7 n7 s7 e7 => ?_)
    have kl6 : KL m H H6 := ((((kl.loc kl3 nl).trans kl4).same s5).same s6)
    refine q p ((ns ++ [1 + left]).drop d.toNat ++ (ns ++ [1 + left]).take d.toNat) H7 (kl6.same s7) (by walk_at "keep") (kl6.live _ n7) ?_ ?_ ?_ ?_
    · rw [List.length_append, List.length_drop, List.length_take]
      rw [List.length_map] at hl4
      omega
    · rw [sum_rot, List.sum_append]
      simp only [List.sum_cons, List.sum_nil]
      omega
    · intro n hn
      have hn' : n ∈ ns ++ [1 + left] := by
        rcases List.mem_append.mp hn with hn | hn
        · exact List.mem_of_mem_drop hn
        · exact List.mem_of_mem_take hn
      rcases List.mem_append.mp hn' with hn | hn
      · exact hpos n hn
      · have : n = 1 + left := by simpa using hn
        omega
    · rw [e7]; simp only [List.map_append, List.map_drop, List.map_take]

theorem sc_L_cut : FnScope N_L_cut ["_law_hand_here", "_law_full", "_law_many"] (defScope s_L_cut) := ⟨rfl, rfl, rfl, by decide +kernel, rfl, by decide +kernel, by decide +kernel⟩
theorem ok_L_cut {P : Program} {w : World} {K : PySem.W.Frag} {mg : Str → Option Value} {base : Heap} {C : CA} {f : Addr} {fd : FuncData} (T : CT K C) (TT : CTT K C) (B : Bi mg C) (F : Fun K "_law_cut" "_law_cut" s_L_cut f fd) (D_L_draw : Okd P w K mg base 1 "_law_draw" ["_law_hand_here", "_law_many"] (sp_L_draw K C)) : FnOk P w K mg base CX0 2 f fd ["_law_hand_here", "_law_full", "_law_many"] (sp_L_cut K C) := by
  refine F.ok sc_L_cut (fun vs H Q E h => ?_) (fun cdv A outer s H vs Q E hr h => ⟨t_L_cut K C, ?_, rd_L_cut h⟩)
  · obtain ⟨_, _, _, _, rfl, _⟩ := h
    rfl
  · exact (pss_cons (ps_set (i := 3) sc_L_cut.nd rfl (Or.inl rfl) (pe_op op_sub (pv 1) (pv 2))) (pss_cons (ps_set (i := 4) sc_L_cut.nd rfl (Or.inl rfl) (pe_lst pa_nil)) (pss_cons (ps_for PassesOwn.never rfl (pi_range1 rfl B.b_range (pa_cons (pe_op op_sub (pv 2) pe_int) pa_nil)) (pg_name (i := 5) sc_L_cut.nd rfl (Or.inl rfl)) (pss_cons (ps_set (i := 6) sc_L_cut.nd rfl (Or.inl rfl) (pe_callD D_L_draw (hr.mono (by decide)) (pa_cons (pv 0) (pa_cons (pe_op op_add (pe_callB (call_min2 rfl) (by rfl) B.b_min bt_min (pa_cons (pv 3) (pa_cons (pe_op op_add (pe_op op_mulA pe_int (pe_op op_fdivW (pv 3) (pe_op op_sub (pv 2) (pv 5)))) pe_int) pa_nil))) pe_int) pa_nil)))) (pss_cons (ps_expr (pe_bm PySem.F.plainAttrs_list PySem.F.slot_list_append PySem.F.type_list_append mt_append (pv 4) (pa_cons (pe_op op_add pe_int (pv 6)) pa_nil))) (pss_one (ps_set (i := 3) sc_L_cut.nd rfl (Or.inl rfl) (pe_op op_sub (pv 3) (pv 6))))))) (pss_cons (ps_expr (pe_bm PySem.F.plainAttrs_list PySem.F.slot_list_append PySem.F.type_list_append mt_append (pv 4) (pa_cons (pe_op op_add pe_int (pv 3)) pa_nil))) (pss_cons (ps_set (i := 7) sc_L_cut.nd rfl (Or.inl rfl) (pe_callD D_L_draw (hr.mono (by decide)) (pa_cons (pv 0) (pa_cons (pv 2) pa_nil)))) (pss_one (ps_ret (pe_op op_cat (pe_slice sl_list (pv 4) (po_some (pv 7)) po_none) (pe_slice sl_list (pv 4) po_none (po_some (pv 7)))))))))))

/-! ### _law_numbers -/
abbrev s_L_numbers : Stmt := top 48
def sp_L_numbers (K : PySem.W.Frag) (C : CA) : Sp := fun vs H Q _ => ∃ (m c : Addr) (side most : Nat), vs = [.ref m, .int (side : Nat), .int (most : Nat)] ∧ Hand H m c ∧ 1 ≤ side ∧ side ≤ 100 ∧ 1 ≤ most ∧ most ≤ 1000000000000 ∧
  ∀ (w a b : Addr) (ns ks : List Int) (H' : Hp), KL m H H' → Hand H' m c → a ≠ m → b ≠ m → H' w = some (.tup [.ref a, .ref b]) → H' a = some (.lst (ns.map V.int)) → H' b = some (.lst (ks.map V.int)) → ns.sum = ks.sum → ns.sum < 2000000000000 →
    1 ≤ ns.length → ns.length ≤ side → 1 ≤ ks.length → ks.length ≤ side → (∀ n ∈ ns, 1 ≤ n) → (∀ n ∈ ks, 1 ≤ n) → Q (.ref w) H'

@[reducible] def N_L_numbers : List Str := ["_law_hand_here", "_law_side", "_law_most", "_law_one", "_law_other", "_law_full", "_law_kind", "_law_owed"]
def t_L_numbers (K : PySem.W.Frag) (C : CA) : TS :=
  (tSeq (tAsg (tOp oAdd (tC (.int 1)) (tCall (sp_L_draw K C) [] E0 (tCons (tVar 0) (tCons (tVar 1) tNil)))) (gName 3)) (tSeq (tAsg (tOp oAdd (tC (.int 1)) (tCall (sp_L_draw K C) [] E0 (tCons (tVar 0) (tCons (tVar 1) tNil)))) (gName 4)) (tSeq (tAsg (tOp oAdd (tCB cMax2 (tCons (tVar 3) (tCons (tVar 4) tNil))) (tCall (sp_L_draw K C) [] E0 (tCons (tVar 0) (tCons (tVar 2) tNil)))) (gName 5)) (tSeq (tAsg (tCall (sp_L_draw K C) [] E0 (tCons (tVar 0) (tCons (tC (.int 4)) tNil))) (gName 6)) (tSeq (tIfS (tTest (tOp rEq (tVar 6) (tC (.int 0)))) (tRet (tTup (tCons (tCall (sp_L_cut K C) [] E0 (tCons (tVar 0) (tCons (tVar 5) (tCons (tVar 3) tNil)))) (tCons (tRevL K (tCall (sp_L_cut K C) [] E0 (tCons (tVar 0) (tCons (tVar 5) (tCons (tVar 3) tNil))))) tNil)))) tNext) (tSeq (tAsg (tCall (sp_L_cut K C) [] E0 (tCons (tVar 0) (tCons (tVar 5) (tCons (tVar 3) tNil)))) (gName 7)) (tSeq (tIfS (tTest (tOp rEq (tVar 6) (tC (.int 1)))) (tRet (tTup (tCons (tVar 7) (tCons (tRevL K (tVar 7)) tNil)))) tNext) (tRet (tTup (tCons (tVar 7) (tCons (tCall (sp_L_cut K C) [] E0 (tCons (tVar 0) (tCons (tVar 5) (tCons (tVar 4) tNil)))) tNil)))))))))))

theorem rd_L_numbers {K : PySem.W.Frag} {C : CA} {vs : List V} {H : Hp} {Q : VK} {E : XK} (h : sp_L_numbers K C vs H Q E) : t_L_numbers K C { nx := fun _ H' => Q .non H', rt := Q } (start N_L_numbers vs) H := by
  obtain ⟨m, c, side, most, rfl, hm, h1, h2, h3, h4, q⟩ := h
  unfold t_L_numbers
  walk_at "go"
  refine ⟨m, c, _, rfl, hm, by omega, small_log (by omega), fun d1 H1 d10 d11 kl1 hm1 => ?_⟩
  walk_at "go"
  refine ⟨m, c, _, rfl, hm1, by omega, small_log (by omega), fun d2 H2 d20 d21 kl2 hm2 => ?_⟩
  walk_at "go"
  refine ⟨m, c, _, rfl, hm2, by omega, small_log (by omega), fun d3 H3 d30 d31 kl3 hm3 => ?_⟩
  walk_at "go"
  refine ⟨m, c, _, rfl, hm3, by omega, small_log (by omega), fun d4 H4 d40 d41 kl4 hm4 => ?_⟩
  obtain ⟨full, hf⟩ : ∃ full : Nat, max (1 + d1) (1 + d2) + d3 = (full : Nat) := ⟨(max (1 + d1) (1 + d2) + d3).toNat, by omega⟩
  obtain ⟨one, ho⟩ : ∃ one : Nat, 1 + d1 = (one : Nat) := ⟨(1 + d1).toNat, by omega⟩
  obtain ⟨other, ht⟩ : ∃ other : Nat, 1 + d2 = (other : Nat) := ⟨(1 + d2).toNat, by omega⟩
  have klA : KL m H H4 := ((kl1.trans kl2).trans kl3).trans kl4
  simp only [hf]
  simp only [ho, ht]
  walk_at "go"
  refine ite_d (fun hk => ?_) (fun hk => ?_)
  · walk_at "go"
    refine ⟨m, c, full, one, rfl, hm4, by omega, by omega, by omega, by omega, fun p1 ns H5 kl5 hm5 n5 l5 su5 po5 e5 => ?_⟩
    walk_at "go"
    refine ⟨m, c, full, one, rfl, hm5, by omega, by omega, by omega, by omega, fun p2 ks H6 kl6 hm6 n6 l6 su6 po6 e6 => ?_⟩
    walk_at "go"
    rename_i p3 H7 n7 s7 e7 p4 H8 n8 s8 e8
    have hp1 : p1 ≠ m := (hand_ne n5 hm4).1.symm
    have hp3 : p3 ≠ m := (hand_ne n7 hm6).1.symm
    rw [← List.map_reverse] at e7
    refine q p4 p1 p3 ns ks.reverse H8 (((klA.trans kl5).trans kl6).same (s7.trans s8)) (by walk_at "keep") hp1 hp3 e8 (by walk_at "keep") (s8 _ _ e7) (by rw [sum_rev]; omega) (by omega) (by omega) (by omega) (by rw [List.length_reverse]; omega) (by rw [List.length_reverse]; omega) po5 (fun n hn => po6 n (List.mem_reverse.mp hn))
  · walk_at "go"
    refine ⟨m, c, full, one, rfl, hm4, by omega, by omega, by omega, by omega, fun p1 ns H5 kl5 hm5 n5 l5 su5 po5 e5 => ?_⟩
    have hp1 : p1 ≠ m := (hand_ne n5 hm4).1.symm
    walk_at "go"
    refine ite_d (fun hk => ?_) (fun hk => ?_)
    · walk_at "go"
      rename_i p3 H7 n7 s7 e7 p4 H8 n8 s8 e8
      have hp3 : p3 ≠ m := (hand_ne n7 hm5).1.symm
      rw [← List.map_reverse] at e7
      refine q p4 p1 p3 ns ns.reverse H8 ((klA.trans kl5).same (s7.trans s8)) (by walk_at "keep") hp1 hp3 e8 (by walk_at "keep") (s8 _ _ e7) (by rw [sum_rev]) (by omega) (by omega) (by omega) (by rw [List.length_reverse]; omega) (by rw [List.length_reverse]; omega) po5 (fun n hn => po5 n (List.mem_reverse.mp hn))
    · walk_at "go"
      refine ⟨m, c, full, other, rfl, hm5, by omega, by omega, by omega, by omega, fun p2 ks H6 kl6 hm6 n6 l6 su6 po6 e6 => ?_⟩
      have hp2 : p2 ≠ m := (hand_ne n6 hm5).1.symm
      walk_at "go"
      rename_i p4 H8 n8 s8 e8
      refine q p4 p1 p2 ns ks H8 (((klA.trans kl5).trans kl6).same s8) (by walk_at "keep") hp1 hp2 e8 (by walk_at "keep") (s8 _ _ e6) (by omega) (by omega) (by omega) (by omega) (by omega) (by omega) po5 po6

theorem sc_L_numbers : FnScope N_L_numbers ["_law_hand_here", "_law_side", "_law_most"] (defScope s_L_numbers) := ⟨rfl, rfl, rfl, by decide +kernel, rfl, by decide +kernel, by decide +kernel⟩
theorem ok_L_numbers {P : Program} {w : World} {K : PySem.W.Frag} {mg : Str → Option Value} {base : Heap} {C : CA} {f : Addr} {fd : FuncData} (T : CT K C) (TT : CTT K C) (B : Bi mg C) (F : Fun K "_law_numbers" "_law_numbers" s_L_numbers f fd) (D_L_draw : Okd P w K mg base 1 "_law_draw" ["_law_hand_here", "_law_many"] (sp_L_draw K C)) (D_L_cut : Okd P w K mg base 2 "_law_cut" ["_law_hand_here", "_law_full", "_law_many"] (sp_L_cut K C)) : FnOk P w K mg base CX0 3 f fd ["_law_hand_here", "_law_side", "_law_most"] (sp_L_numbers K C) := by
  refine F.ok sc_L_numbers (fun vs H Q E h => ?_) (fun cdv A outer s H vs Q E hr h => ⟨t_L_numbers K C, ?_, rd_L_numbers h⟩)
  · obtain ⟨_, _, _, _, rfl, _⟩ := h
    rfl
  · exact (pss_cons (ps_set (i := 3) sc_L_numbers.nd rfl (Or.inl rfl) (pe_op op_add pe_int (pe_callD D_L_draw (hr.mono (by decide)) (pa_cons (pv 0) (pa_cons (pv 1) pa_nil))))) (pss_cons (ps_set (i := 4) sc_L_numbers.nd rfl (Or.inl rfl) (pe_op op_add pe_int (pe_callD D_L_draw (hr.mono (by decide)) (pa_cons (pv 0) (pa_cons (pv 1) pa_nil))))) (pss_cons (ps_set (i := 5) sc_L_numbers.nd rfl (Or.inl rfl) (pe_op op_add (pe_callB (call_max2 rfl) (by rfl) B.b_max bt_max (pa_cons (pv 3) (pa_cons (pv 4) pa_nil))) (pe_callD D_L_draw (hr.mono (by decide)) (pa_cons (pv 0) (pa_cons (pv 2) pa_nil))))) (pss_cons (ps_set (i := 6) sc_L_numbers.nd rfl (Or.inl rfl) (pe_callD D_L_draw (hr.mono (by decide)) (pa_cons (pv 0) (pa_cons pe_int pa_nil)))) (pss_cons (ps_if (pt_cmpR op_eq (pv 6) pe_int (nomark _)) (pss_one (ps_ret (pe_tup (pa_cons (pe_callD D_L_cut (hr.mono (by decide)) (pa_cons (pv 0) (pa_cons (pv 5) (pa_cons (pv 3) pa_nil)))) (pa_cons (pe_revL (pe_callD D_L_cut (hr.mono (by decide)) (pa_cons (pv 0) (pa_cons (pv 5) (pa_cons (pv 3) pa_nil))))) pa_nil))))) pss_nil) (pss_cons (ps_set (i := 7) sc_L_numbers.nd rfl (Or.inl rfl) (pe_callD D_L_cut (hr.mono (by decide)) (pa_cons (pv 0) (pa_cons (pv 5) (pa_cons (pv 3) pa_nil))))) (pss_cons (ps_if (pt_cmpR op_eq (pv 6) pe_int (nomark _)) (pss_one (ps_ret (pe_tup (pa_cons (pv 7) (pa_cons (pe_revL (pv 7)) pa_nil))))) pss_nil) (pss_one (ps_ret (pe_tup (pa_cons (pv 7) (pa_cons (pe_callD D_L_cut (hr.mono (by decide)) (pa_cons (pv 0) (pa_cons (pv 5) (pa_cons (pv 4) pa_nil)))) pa_nil))))))))))))

/-! ### _law_unit -/
abbrev s_L_unit : Stmt := top 49
def sp_L_unit (K : PySem.W.Frag) (C : CA) : Sp := fun vs H Q _ => ∃ (m c : Addr), vs = [.ref m] ∧ Hand H m c ∧
  ∀ (u : Rat) (w : V) (H' : Hp), 0 < u.num → u.num ≤ 1000000000000 → u.den ≤ 1000000000 → KL m H H' → Hand H' m c → Im H' w (fr u) → Q w H'

@[reducible] def N_L_unit : List Str := ["_law_hand_here", "_law_menu"]
def t_L_unit (K : PySem.W.Frag) (C : CA) : TS :=
  (tSeq (tAsg (tLst (tCons (tTup (tCons (tC (.int 1)) (tCons (tC (.int 1)) tNil))) (tCons (tTup (tCons (tC (.int 1)) (tCons (tC (.int 1)) tNil))) (tCons (tTup (tCons (tC (.int 2)) (tCons (tC (.int 1)) tNil))) (tCons (tTup (tCons (tC (.int 1)) (tCons (tC (.int 2)) tNil))) (tCons (tTup (tCons (tC (.int 3)) (tCons (tC (.int 4)) tNil))) (tCons (tTup (tCons (tC (.int 10)) (tCons (tC (.int 1)) tNil))) (tCons (tTup (tCons (tC (.int 7)) (tCons (tC (.int 3)) tNil))) (tCons (tTup (tCons (tOp oPow (tC (.int 10)) (tC (.int 12))) (tCons (tC (.int 1)) tNil))) (tCons (tTup (tCons (tC (.int 1)) (tCons (tOp oPow (tC (.int 10)) (tC (.int 9))) tNil))) tNil)))))))))) (gName 1)) (tRet (tOp (rIxL K) (tVar 1) (tCall (sp_L_draw K C) [] E0 (tCons (tVar 0) (tCons (tC (.int 9)) tNil))))))

theorem rd_L_unit {K : PySem.W.Frag} {C : CA} {vs : List V} {H : Hp} {Q : VK} {E : XK} (h : sp_L_unit K C vs H Q E) : t_L_unit K C { nx := fun _ H' => Q .non H', rt := Q } (start N_L_unit vs) H := by
  obtain ⟨m, c, rfl, hm, q⟩ := h
  unfold t_L_unit
  walk_at "go"
  rename_i l Hl nl sl el
  refine ⟨m, c, 9, rfl, by walk_at "keep", by decide, by decide, fun d H1 h0 h1 kl hm1 => ?_⟩
  have nml : l ≠ m := ((hand_ne (m := m) (c := c) nl (by walk_at "keep")).1).symm
  have hd : d = 0 ∨ d = 1 ∨ d = 2 ∨ d = 3 ∨ d = 4 ∨ d = 5 ∨ d = 6 ∨ d = 7 ∨ d = 8 := by omega
  rcases hd with rfl | rfl | rfl | rfl | rfl | rfl | rfl | rfl | rfl
  all_goals
    walk_at "go"
  · exact q 1 _ _ (by decide) (by decide) (by decide) (by walk_at "sm") hm1 (Im.fr_of (by walk_at "keep"))
  · exact q 1 _ _ (by decide) (by decide) (by decide) (by walk_at "sm") hm1 (Im.fr_of (by walk_at "keep"))
  · exact q 2 _ _ (by decide) (by decide) (by decide) (by walk_at "sm") hm1 (Im.fr_of (by walk_at "keep"))
  · exact q (mkRat 1 2) _ _ (by decide) (by decide) (by decide) (by walk_at "sm") hm1 (Im.fr_of (by walk_at "keep"))
  · exact q (mkRat 3 4) _ _ (by decide) (by decide) (by decide) (by walk_at "sm") hm1 (Im.fr_of (by walk_at "keep"))
  · exact q 10 _ _ (by decide) (by decide) (by decide) (by walk_at "sm") hm1 (Im.fr_of (by walk_at "keep"))
  · exact q (mkRat 7 3) _ _ (by decide) (by decide) (by decide) (by walk_at "sm") hm1 (Im.fr_of (by walk_at "keep"))
  · exact q 1000000000000 _ _ (by decide) (by decide) (by decide) (by walk_at "sm") hm1 (Im.fr_of (by walk_at "keep"))
  · exact q (mkRat 1 1000000000) _ _ (by decide) (by decide) (by decide) (by walk_at "sm") hm1 (Im.fr_of (by walk_at "keep"))

theorem sc_L_unit : FnScope N_L_unit ["_law_hand_here"] (defScope s_L_unit) := ⟨rfl, rfl, rfl, by decide +kernel, rfl, by decide +kernel, by decide +kernel⟩
theorem ok_L_unit {P : Program} {w : World} {K : PySem.W.Frag} {mg : Str → Option Value} {base : Heap} {C : CA} {f : Addr} {fd : FuncData} (T : CT K C) (TT : CTT K C) (B : Bi mg C) (F : Fun K "_law_unit" "_law_unit" s_L_unit f fd) (D_L_draw : Okd P w K mg base 1 "_law_draw" ["_law_hand_here", "_law_many"] (sp_L_draw K C)) : FnOk P w K mg base CX0 2 f fd ["_law_hand_here"] (sp_L_unit K C) := by
  refine F.ok sc_L_unit (fun vs H Q E h => ?_) (fun cdv A outer s H vs Q E hr h => ⟨t_L_unit K C, ?_, rd_L_unit h⟩)
  · obtain ⟨_, _, rfl, _⟩ := h
    rfl
  · exact (pss_cons (ps_set (i := 1) sc_L_unit.nd rfl (Or.inl rfl) (pe_lst (pa_cons (pe_tup (pa_cons pe_int (pa_cons pe_int pa_nil))) (pa_cons (pe_tup (pa_cons pe_int (pa_cons pe_int pa_nil))) (pa_cons (pe_tup (pa_cons pe_int (pa_cons pe_int pa_nil))) (pa_cons (pe_tup (pa_cons pe_int (pa_cons pe_int pa_nil))) (pa_cons (pe_tup (pa_cons pe_int (pa_cons pe_int pa_nil))) (pa_cons (pe_tup (pa_cons pe_int (pa_cons pe_int pa_nil))) (pa_cons (pe_tup (pa_cons pe_int (pa_cons pe_int pa_nil))) (pa_cons (pe_tup (pa_cons (pe_op op_pow pe_int pe_int) (pa_cons pe_int pa_nil))) (pa_cons (pe_tup (pa_cons pe_int (pa_cons (pe_op op_pow pe_int pe_int) pa_nil))) pa_nil))))))))))) (pss_one (ps_ret (pe_ix ix_list (pv 1) (pe_callD D_L_draw (hr.mono (by decide)) (pa_cons (pv 0) (pa_cons pe_int pa_nil))) (fun _ _ => rfl)))))

/-! ### _law_sums -/
abbrev s_L_sums : Stmt := top 50
def sp_L_sums (K : PySem.W.Frag) (C : CA) : Sp := fun vs H Q _ => ∃ (m c : Addr) (side most : Nat), vs = [.ref m, .int (side : Nat), .int (most : Nat)] ∧ Hand H m c ∧ 1 ≤ side ∧ side ≤ 100 ∧ 1 ≤ most ∧ most ≤ 1000000000000 ∧
  ∀ (w a b : V) (p : Addr) (o d : List Rat) (H' : Hp), KL m H H' → Hand H' m c → w = .ref p → H' p = some (.tup [a, b]) → Im H' a (.tuple (o.map fr)) → Im H' b (.tuple (d.map fr)) → Drawn side o d → Q w H'

@[reducible] def N_L_sums : List Str := ["_law_hand_here", "_law_side", "_law_most", "_law_owed", "_law_due", "_law_unit_here", "_law_number"]
def t_L_sums (K : PySem.W.Frag) (C : CA) : TS :=
  (tSeq (tAsg (tCall (sp_L_numbers K C) [] E0 (tCons (tVar 0) (tCons (tVar 1) (tCons (tVar 2) tNil)))) (gTup K 2 (gCons (gName 3) (gCons (gName 4) gNil)))) (tSeq (tAsg (tCall (sp_L_unit K C) [] E0 (tCons (tVar 0) tNil)) (gName 5)) (tRet (tTup (tCons (tCB (cTup K) (tCons (tLc (iList K (tVar 3)) (gName 6) tYes (tCall (sp_L_times K C) [] E0 (tCons (tTup (tCons (tVar 6) (tCons (tC (.int 1)) tNil))) (tCons (tVar 5) tNil))) [6]) tNil)) (tCons (tCB (cTup K) (tCons (tLc (iList K (tVar 4)) (gName 6) tYes (tCall (sp_L_times K C) [] E0 (tCons (tTup (tCons (tVar 6) (tCons (tC (.int 1)) tNil))) (tCons (tVar 5) tNil))) [6]) tNil)) tNil))))))

theorem rd_L_sums {K : PySem.W.Frag} {C : CA} {vs : List V} {H : Hp} {Q : VK} {E : XK} (h : sp_L_sums K C vs H Q E) : t_L_sums K C { nx := fun _ H' => Q .non H', rt := Q } (start N_L_sums vs) H := by
  obtain ⟨m, c, side, most, rfl, hm, h1, h2, h3, h4, q⟩ := h
  unfold t_L_sums
  walk_at "go"
  refine ⟨m, c, side, most, rfl, hm, h1, h2, h3, h4, fun w a b ns ks H1 kl1 hm1 nam nbm hw ha hb es sb n1 n2 k1 k2 po pk => ?_⟩
  walk_at "go"
  refine ⟨m, c, rfl, hm1, fun u wu H2 u0 u1 ud kl2 hm2 hu => ?_⟩
  have ha2 : H2 a = some (.lst (ns.map V.int)) := kl2.keep _ _ nam ha
  have hb2 : H2 b = some (.lst (ks.map V.int)) := kl2.keep _ _ nbm hb
  have hu148 : u.num.natAbs < 2 ^ 148 ∧ u.den < 2 ^ 148 := by
    have : 1000000000000 < 2 ^ 148 := by decide
    omega
  have turn : ∀ (zs : List Int), zs.sum < 2000000000000 → (∀ n ∈ zs, 1 ≤ n) → ∀ (e : PyData), e ∈ zs.map PyData.int → ∃ n : Int, e = .int n ∧ 1 ≤ n ∧ n.natAbs < 2 ^ 148 := by
    intro zs hs hz e he
    obtain ⟨n, hn, rfl⟩ := List.mem_map.mp he
    have l1 := le_sum hz n hn
    have l2 := hz n hn
    have : 2000000000000 < 2 ^ 148 := by decide
    exact ⟨n, rfl, l2, by omega⟩
  have fmap : ∀ zs : List Int, (zs.map PyData.int).map (fun d => match d with | .int n => fr ((n : Rat) * u) | d => d) = (zs.map fun n : Int => (n : Rat) * u).map fr := by
    intro zs
    rw [List.map_map, List.map_map]
    rfl
  walk_at "go"
  refine lcL_of (es := ns.map PyData.int) (fun d => match d with | .int n => fr ((n : Rat) * u) | d => d) (SqL.of ha2) (ImL.ints ns) (by rw [List.length_map]; exact small1000 (by omega)) (fun e x H3 N he s3 hx hN => ?_) (fun D H3 ys hD s3 e3 hy => ?_)
  · obtain ⟨n, rfl, hn1, hn2⟩ := turn ns sb po e he
    simp only [Im] at hx
    subst hx
    walk_at "go"
    refine ⟨rfl, ?_⟩
    walk_at "go"
    rename_i p4 H4 n4 s4 e4
    refine ⟨_, wu, (n : Rat), u, rfl, Im.fr_of (by simpa using e4), by walk_at "keep", by simpa using hn2, by simp, hu148.1, hu148.2, fun z H5 s5 hz => ?_⟩
    exact hN z H5 (s4.trans s5) hz
  · rw [fmap] at hy
    walk_at "go"
    refine i_ctupL e3 (fun t1 H4 n4 s4 e4 => ?_)
    walk_at "go"
    refine lcL_of (es := ks.map PyData.int) (fun d => match d with | .int n => fr ((n : Rat) * u) | d => d) (SqL.of (by walk_at "keep")) (ImL.ints ks) (by rw [List.length_map]; exact small1000 (by omega)) (fun e x H5 N he s5 hx hN => ?_) (fun D2 H5 ys2 hD2 s5 e5 hy2 => ?_)
    · obtain ⟨n, rfl, hn1, hn2⟩ := turn ks (by omega) pk e he
      simp only [Im] at hx
      subst hx
      walk_at "go"
      refine ⟨rfl, ?_⟩
      walk_at "go"
      rename_i p6 H6 n6 s6 e6
      refine ⟨_, wu, (n : Rat), u, rfl, Im.fr_of (by simpa using e6), by walk_at "keep", by simpa using hn2, by simp, hu148.1, hu148.2, fun z H7 s7 hz => ?_⟩
      exact hN z H7 (s6.trans s7) hz
    · rw [fmap] at hy2
      walk_at "go"
      refine i_ctupL e5 (fun t2 H6 n6 s6 e6 => ?_)
      walk_at "go"
      rename_i t3 H7 n7 s7 e7
      have b1 := drawn_bs po sb u0 u1
      have b2 := drawn_bs pk (by omega) u0 u1
      have hd0 : 0 < u.den := Nat.pos_of_ne_zero u.den_nz
      refine q _ _ _ t3 _ _ H7 ?_ ?_ rfl e7 (Im.tup (by walk_at "keep") (by walk_at "keep")) (Im.tup (by walk_at "keep") (by walk_at "keep")) ⟨by simpa using n1, by simpa using n2, by simpa using k1, by simpa using k2, by rw [sum_mul, sum_mul, es], fun q hq => (b1 q hq).1, fun q hq => (b2 q hq).1, ?_, ⟨u.den, ⟨hd0, ?_⟩, ?_⟩, ?_⟩
      · walk_at "sm"
      · walk_at "keep"
      · rw [List.length_append, List.length_map, List.length_map]; omega
      · intro q hq
        rcases List.mem_append.mp hq with hq | hq
        · exact (b1 q hq).2.2
        · exact (b2 q hq).2.2
      · have : 1000000000 < 2 ^ 48 := by decide
        omega
      · intro q hq
        rcases List.mem_append.mp hq with hq | hq
        · exact (b1 q hq).2.1
        · exact (b2 q hq).2.1

theorem sc_L_sums : FnScope N_L_sums ["_law_hand_here", "_law_side", "_law_most"] (defScope s_L_sums) := ⟨rfl, rfl, rfl, by decide +kernel, rfl, by decide +kernel, by decide +kernel⟩
theorem ok_L_sums {P : Program} {w : World} {K : PySem.W.Frag} {mg : Str → Option Value} {base : Heap} {C : CA} {f : Addr} {fd : FuncData} (T : CT K C) (TT : CTT K C) (B : Bi mg C) (F : Fun K "_law_sums" "_law_sums" s_L_sums f fd) (D_L_times : Okd P w K mg base 3 "_law_times" ["_law_one", "_law_other"] (sp_L_times K C)) (D_L_numbers : Okd P w K mg base 3 "_law_numbers" ["_law_hand_here", "_law_side", "_law_most"] (sp_L_numbers K C)) (D_L_unit : Okd P w K mg base 2 "_law_unit" ["_law_hand_here"] (sp_L_unit K C)) : FnOk P w K mg base CX0 4 f fd ["_law_hand_here", "_law_side", "_law_most"] (sp_L_sums K C) := by
  refine F.ok sc_L_sums (fun vs H Q E h => ?_) (fun cdv A outer s H vs Q E hr h => ⟨t_L_sums K C, ?_, rd_L_sums h⟩)
  · obtain ⟨_, _, _, _, rfl, _⟩ := h
    rfl
  · exact (pss_cons (ps_asg (pe_callD D_L_numbers (hr.mono (by decide)) (pa_cons (pv 0) (pa_cons (pv 1) (pa_cons (pv 2) pa_nil)))) (pg_tup rfl (pgs_cons (pg_name (i := 3) sc_L_sums.nd rfl (Or.inl rfl)) (pgs_cons (pg_name (i := 4) sc_L_sums.nd rfl (Or.inl rfl)) pgs_nil)))) (pss_cons (ps_set (i := 5) sc_L_sums.nd rfl (Or.inr rfl) (pe_callD D_L_unit (hr.mono (by decide)) (pa_cons (pv 0) pa_nil))) (pss_one (ps_ret (pe_tup (pa_cons (pe_callTy call_tuple_of (by rfl) B.b_tuple bt_tuple (pa_cons (pe_lc (own := [("_law_number", 6)]) (g := (gName 6)) (tt := tYes) rfl sc_L_sums.nd (pi_list (pv 3)) (blkOk_by (own := [("_law_number", 6)]) (N := N_L_sums) (sc := defScope s_L_sums) (by decide +kernel)) (fun _ _ _ _ _ => (pg_name (i := 6) sc_L_sums.nd rfl (Or.inl rfl))) (fun _ _ _ _ _ => pts_nil) (fun _ _ _ _ _ => (pe_callD D_L_times (hr.mono (by decide)) (pa_cons (pe_tup (pa_cons (pv 6) (pa_cons pe_int pa_nil))) (pa_cons (pv 5) pa_nil))))) pa_nil)) (pa_cons (pe_callTy call_tuple_of (by rfl) B.b_tuple bt_tuple (pa_cons (pe_lc (own := [("_law_number", 6)]) (g := (gName 6)) (tt := tYes) rfl sc_L_sums.nd (pi_list (pv 4)) (blkOk_by (own := [("_law_number", 6)]) (N := N_L_sums) (sc := defScope s_L_sums) (by decide +kernel)) (fun _ _ _ _ _ => (pg_name (i := 6) sc_L_sums.nd rfl (Or.inl rfl))) (fun _ _ _ _ _ => pts_nil) (fun _ _ _ _ _ => (pe_callD D_L_times (hr.mono (by decide)) (pa_cons (pe_tup (pa_cons (pv 6) (pa_cons pe_int pa_nil))) (pa_cons (pv 5) pa_nil))))) pa_nil)) pa_nil)))))))

/-! ### is_fraction -/
abbrev s_is_fraction : Stmt := top 15
def sp_is_fraction (K : PySem.W.Frag) (C : CA) : Sp := fun vs H Q _ => ∃ (v : V) (r : Rat), vs = [v] ∧ Im H v (fr r) ∧ Q (.bl true) H

@[reducible] def N_is_fraction : List Str := ["thing", "top", "bottom"]
def t_is_fraction (K : PySem.W.Frag) (C : CA) : TS :=
  (tSeq (tIfS (tOr (tNot (tB (tCB (rIsi K) (tCons (tVar 0) (tCons (tC (.ty "tuple")) tNil))))) (tTest (tOp rNe (tCB (cLen K) (tCons (tVar 0) tNil)) (tC (.int 2))))) (tRet (tC (.bl false))) tNext) (tSeq (tAsg (tVar 0) (gTup K 2 (gCons (gName 1) (gCons (gName 2) gNil)))) (tSeq (tIfS (tOr (tNot (tB (tCall (sp_is_integer K C) [] E0 (tCons (tVar 1) tNil)))) (tNot (tB (tCall (sp_is_integer K C) [] E0 (tCons (tVar 2) tNil))))) (tRet (tC (.bl false))) tNext) (tRet (tAndV (tOp oGt (tVar 2) (tC (.int 0))) (tOp rEq (tCB rGcd (tCons (tVar 1) (tCons (tVar 2) tNil))) (tC (.int 1))))))))

theorem rd_is_fraction {K : PySem.W.Frag} {C : CA} {vs : List V} {H : Hp} {Q : VK} {E : XK} (h : sp_is_fraction K C vs H Q E) : t_is_fraction K C { nx := fun _ H' => Q .non H', rt := Q } (start N_is_fraction vs) H := by
  obtain ⟨v, r, rfl, hv, q⟩ := h
  obtain ⟨a, rfl, ha⟩ := hv.fr_at
  have hr : 0 < r.den := Nat.pos_of_ne_zero r.den_nz
  unfold t_is_fraction
  walk_at "go"
  refine ite_nd (fun h => (h rfl).elim) (fun _ => ?_)
  walk_at "go"
  refine ⟨.int r.num, .int r.num, fun _ => True, rfl, th_int, ?_⟩
  walk_at "go"
  refine ite_nb (fun h => by simp [Th.isInt, Th.isBl] at h) (fun _ => ?_)
  walk_at "go"
  refine ⟨.int r.den, .int r.den, fun _ => True, rfl, th_int, ?_⟩
  walk_at "go"
  refine ite_nb (fun h => by simp [Th.isInt, Th.isBl] at h) (fun _ => ?_)
  walk_at "go"
  refine ite_d (fun h => ?_) (fun h => absurd h (by omega))
  walk_at "go"
  rw [Int.natAbs_natCast, show r.num.natAbs.gcd r.den = 1 from r.reduced]
  exact q

theorem sc_is_fraction : FnScope N_is_fraction ["thing"] (defScope s_is_fraction) := ⟨rfl, rfl, rfl, by decide +kernel, rfl, by decide +kernel, by decide +kernel⟩
theorem ok_is_fraction {P : Program} {w : World} {K : PySem.W.Frag} {mg : Str → Option Value} {base : Heap} {C : CA} {f : Addr} {fd : FuncData} (T : CT K C) (TT : CTT K C) (B : Bi mg C) (F : Fun K "is_fraction" "is_fraction" s_is_fraction f fd) (D_is_integer : Okd P w K mg base 1 "is_integer" ["thing"] (sp_is_integer K C)) : FnOk P w K mg base CX0 2 f fd ["thing"] (sp_is_fraction K C) := by
  refine F.ok sc_is_fraction (fun vs H Q E h => ?_) (fun cdv A outer s H vs Q E hr h => ⟨t_is_fraction K C, ?_, rd_is_fraction h⟩)
  · obtain ⟨_, _, rfl, _⟩ := h
    rfl
  · exact (pss_cons (ps_if (PW.pt (pw_or (pt_not (pt_val (pe_callB call_isi (by rfl) B.b_isinstance bt_isinstance (pa_cons (pv 0) (pa_cons (pe_bltn (v := .ty "tuple") (by rfl) B.b_tuple bt_tuple rfl) pa_nil))))) (pw_or1 (pt_cmpR op_ne (pe_callB call_len (by rfl) B.b_len bt_len (pa_cons (pv 0) pa_nil)) pe_int (nomark _))))) (pss_one (ps_ret pe_bl)) pss_nil) (pss_cons (ps_asg (pv 0) (pg_tup rfl (pgs_cons (pg_name (i := 1) sc_is_fraction.nd rfl (Or.inl rfl)) (pgs_cons (pg_name (i := 2) sc_is_fraction.nd rfl (Or.inl rfl)) pgs_nil)))) (pss_cons (ps_if (PW.pt (pw_or (pt_not (pt_val (pe_callD D_is_integer (hr.mono (by decide)) (pa_cons (pv 1) pa_nil)))) (pw_or1 (pt_not (pt_val (pe_callD D_is_integer (hr.mono (by decide)) (pa_cons (pv 2) pa_nil))))))) (pss_one (ps_ret pe_bl)) pss_nil) (pss_one (ps_ret (pe_and (pe_cmpR op_gt (pv 2) pe_int (nomark _)) (pe_one (pe_cmpR op_eq (pe_callBfun cr_gcd rfl B.g_gcd (pa_cons (pv 1) (pa_cons (pv 2) pa_nil))) pe_int (nomark _)))))))))

/-! ### is_amount -/
abbrev s_is_amount : Stmt := top 16
def sp_is_amount (K : PySem.W.Frag) (C : CA) : Sp := fun vs H Q _ => ∃ (v : V) (r : Rat), vs = [v] ∧ Im H v (fr r) ∧ 0 < r.num ∧ Q (.bl true) H

@[reducible] def N_is_amount : List Str := ["thing"]
def t_is_amount (K : PySem.W.Frag) (C : CA) : TS :=
  (tRet (tAndV (tCall (sp_is_fraction K C) [] E0 (tCons (tVar 0) tNil)) (tOp oGt (tOp (rIxT K) (tVar 0) (tC (.int 0))) (tC (.int 0)))))

theorem rd_is_amount {K : PySem.W.Frag} {C : CA} {vs : List V} {H : Hp} {Q : VK} {E : XK} (h : sp_is_amount K C vs H Q E) : t_is_amount K C { nx := fun _ H' => Q .non H', rt := Q } (start N_is_amount vs) H := by
  obtain ⟨v, r, rfl, hv, hp, q⟩ := h
  obtain ⟨a, rfl, ha⟩ := hv.fr_at
  unfold t_is_amount
  walk_at "go"
  refine ⟨_, r, rfl, hv, ?_⟩
  walk_at "go"
  rw [decide_eq_true hp]
  exact q

theorem sc_is_amount : FnScope N_is_amount ["thing"] (defScope s_is_amount) := ⟨rfl, rfl, rfl, by decide +kernel, rfl, by decide +kernel, by decide +kernel⟩
theorem ok_is_amount {P : Program} {w : World} {K : PySem.W.Frag} {mg : Str → Option Value} {base : Heap} {C : CA} {f : Addr} {fd : FuncData} (T : CT K C) (TT : CTT K C) (B : Bi mg C) (F : Fun K "is_amount" "is_amount" s_is_amount f fd) (D_is_fraction : Okd P w K mg base 2 "is_fraction" ["thing"] (sp_is_fraction K C)) : FnOk P w K mg base CX0 3 f fd ["thing"] (sp_is_amount K C) := by
  refine F.ok sc_is_amount (fun vs H Q E h => ?_) (fun cdv A outer s H vs Q E hr h => ⟨t_is_amount K C, ?_, rd_is_amount h⟩)
  · obtain ⟨_, _, rfl, _⟩ := h
    rfl
  · exact (pss_one (ps_ret (pe_and (pe_callD D_is_fraction (hr.mono (by decide)) (pa_cons (pv 0) pa_nil)) (pe_one (pe_cmpR op_gt (pe_ix ix_tup (pv 0) pe_int (fun _ _ => rfl)) pe_int (nomark _))))))

/-! ### _is_side -/
abbrev s_q_is_side : Stmt := top 33
def sp_q_is_side (K : PySem.W.Frag) (C : CA) : Sp := fun vs H Q _ => ∃ (v : V) (qs : List Rat), vs = [v] ∧ Im H v (.tuple (qs.map fr)) ∧ 1 ≤ qs.length ∧ qs.length ≤ 100 ∧ (∀ q ∈ qs, 0 < q.num) ∧ ∀ H', Same H H' → Q (.bl true) H'

@[reducible] def N_q_is_side : List Str := ["thing", "amount"]
def t_q_is_side (K : PySem.W.Frag) (C : CA) : TS :=
  (tSeq (tIfS (tOr (tNot (tB (tCB (rIsi K) (tCons (tVar 0) (tCons (tC (.ty "tuple")) tNil))))) (tNot (tTest (tChain oLe oLe (tC (.int 1)) (tCB (cLen K) (tCons (tVar 0) tNil)) (tC (.int 100)))))) (tRet (tC (.bl false))) tNext) (tRet (tCB (rAll K) (tCons (tLc (iTup K (tVar 0)) (gName 1) tYes (tCall (sp_is_amount K C) [] E0 (tCons (tVar 1) tNil)) [1]) tNil))))

theorem im_trues {H : Hp} : ∀ {ys : List V} {es : List PyData}, ImL H ys (es.map fun _ => PyData.bool true) → ys = (es.map fun _ => true).map V.bl
  | [], [], _ => rfl
  | y :: ys, e :: es, h => by
    simp only [List.map_cons, ImL, Im] at h
    simp only [List.map_cons]
    rw [h.1, im_trues h.2]
  | [], _ :: _, h => by simp [ImL] at h
  | _ :: _, [], h => by simp [ImL] at h
theorem rd_q_is_side {K : PySem.W.Frag} {C : CA} {vs : List V} {H : Hp} {Q : VK} {E : XK} (h : sp_q_is_side K C vs H Q E) : t_q_is_side K C { nx := fun _ H' => Q .non H', rt := Q } (start N_q_is_side vs) H := by
  obtain ⟨v, qs, rfl, hv, h1, h2, hp, q⟩ := h
  obtain ⟨a, xs, rfl, ha, hl⟩ := hv.tup_at
  have hxl : xs.length = qs.length := by rw [hl.length, List.length_map]
  unfold t_q_is_side
  walk_at "go"
  refine ite_d (fun h => ?_) (fun h => absurd (show (1 : Int) ≤ xs.length by omega) h)
  walk_at "go"
  rw [show decide ((xs.length : Int) ≤ 100) = true from decide_eq_true (by omega)]
  walk_at "go"
  refine lcT_of (es := qs.map fr) (fun _ => .bool true) ha hl (by rw [List.length_map]; exact small1000 (by omega)) (fun e x H3 N he s3 hx hN => ?_) (fun D H3 ys hD s3 e3 hy => ?_)
  · obtain ⟨r, hr, rfl⟩ := mem_frs he
    walk_at "go"
    refine ⟨rfl, ?_⟩
    walk_at "go"
    exact ⟨x, r, rfl, hx, hp r hr, hN _ _ (Same.refl _) (by simp [Im])⟩
  · rw [im_trues hy] at e3
    walk_at "go"
    refine i_rall e3 ?_
    rw [show ((List.map fr qs).map fun _ => true).all id = true by simp]
    exact q _ s3

theorem sc_q_is_side : FnScope N_q_is_side ["thing"] (defScope s_q_is_side) := ⟨rfl, rfl, rfl, by decide +kernel, rfl, by decide +kernel, by decide +kernel⟩
theorem ok_q_is_side {P : Program} {w : World} {K : PySem.W.Frag} {mg : Str → Option Value} {base : Heap} {C : CA} {f : Addr} {fd : FuncData} (T : CT K C) (TT : CTT K C) (B : Bi mg C) (F : Fun K "_is_side" "_is_side" s_q_is_side f fd) (D_is_amount : Okd P w K mg base 3 "is_amount" ["thing"] (sp_is_amount K C)) : FnOk P w K mg base CX0 4 f fd ["thing"] (sp_q_is_side K C) := by
  refine F.ok sc_q_is_side (fun vs H Q E h => ?_) (fun cdv A outer s H vs Q E hr h => ⟨t_q_is_side K C, ?_, rd_q_is_side h⟩)
  · obtain ⟨_, _, rfl, _⟩ := h
    rfl
  · exact (pss_cons (ps_if (PW.pt (pw_or (pt_not (pt_val (pe_callB call_isi (by rfl) B.b_isinstance bt_isinstance (pa_cons (pv 0) (pa_cons (pe_bltn (v := .ty "tuple") (by rfl) B.b_tuple bt_tuple rfl) pa_nil))))) (pw_or1 (pt_not (pt_chain op_le op_le pe_int (pe_callB call_len (by rfl) B.b_len bt_len (pa_cons (pv 0) pa_nil)) (pe_glob rfl B.g_MOST_SUMS.choose_spec.1 B.g_MOST_SUMS.choose_spec.2)))))) (pss_one (ps_ret pe_bl)) pss_nil) (pss_one (ps_ret (pe_callB (cr_all rfl) (by rfl) B.b_all bt_all (pa_cons (pe_lc (own := [("amount", 1)]) (g := (gName 1)) (tt := tYes) rfl sc_q_is_side.nd (pi_tup (pv 0)) (blkOk_by (own := [("amount", 1)]) (N := N_q_is_side) (sc := defScope s_q_is_side) (by decide +kernel)) (fun _ _ _ _ _ => (pg_name (i := 1) sc_q_is_side.nd rfl (Or.inl rfl))) (fun _ _ _ _ _ => pts_nil) (fun _ _ _ _ _ => (pe_callD D_is_amount (hr.mono (by decide)) (pa_cons (pv 1) pa_nil)))) pa_nil)))))

/-! ### Evening.__init__ -/
abbrev s_Eveningu_initu : Stmt := inClass (top 32) 0
def sp_Eveningu_initu (K : PySem.W.Frag) (C : CA) : Sp := fun vs H Q _ => ∃ (p dx : Addr) (vo vd : V) (o d : List Rat), vs = [.ref p, vo, vd] ∧ H p = some (.ins C.Evening dx []) ∧ Im H vo (.tuple (o.map fr)) ∧ Im H vd (.tuple (d.map fr)) ∧
  o.length ≤ 100 ∧ d.length ≤ 100 ∧ Drawn 1000 o d ∧ Bd 8000 o ∧ Bd 8000 d ∧ ∀ H', (∀ b x, b ≠ p → H b = some x → H' b = some x) → H' p = some (.ins C.Evening dx [("owed", vo), ("due", vd)]) → Q .non H'

@[reducible] def N_Eveningu_initu : List Str := ["self", "owed", "due"]
def t_Eveningu_initu (K : PySem.W.Frag) (C : CA) : TS :=
  (tSeq (tIfS (tNot (tB (tCall (sp_q_is_side K C) [] E0 (tCons (tVar 1) tNil)))) tNever tNext) (tSeq (tIfS (tNot (tB (tCall (sp_q_is_side K C) [] E0 (tCons (tVar 2) tNil)))) tNever tNext) (tSeq (tIfS (tTest (tOp (rNeD K) (tCall (sp_added K C) [] E0 (tCons (tVar 1) tNil)) (tCall (sp_added K C) [] E0 (tCons (tVar 2) tNil)))) tNever tNext) (tSeq (sFld K (tVar 0) (tVar 1) "owed") (sFld K (tVar 0) (tVar 2) "due")))))

theorem rd_Eveningu_initu {K : PySem.W.Frag} {C : CA} (T : CT K C) {vs : List V} {H : Hp} {Q : VK} {E : XK} (h : sp_Eveningu_initu K C vs H Q E) : t_Eveningu_initu K C { nx := fun _ H' => Q .non H', rt := Q } (start N_Eveningu_initu vs) H := by
  obtain ⟨p, dx, vo, vd, o, d, rfl, hp, ho, hd, lo, ld, ⟨h1, h2, h3, h4, hs, po, pd, hb⟩, bo, bd, q⟩ := h
  unfold t_Eveningu_initu
  walk_at "go"
  refine ⟨vo, o, rfl, ho, h1, lo, po, fun H1 s1 => ?_⟩
  walk_at "go"
  walk_at "go"
  refine ⟨vd, d, rfl, sm_im s1 hd, h3, ld, pd, fun H2 s2 => ?_⟩
  walk_at "go"
  refine ⟨vo, o, rfl, by walk_at "keep", bo, fun w1 H3 s3 e3 => ?_⟩
  walk_at "go"
  refine ⟨vd, d, rfl, by walk_at "keep", bd, fun w2 H4 s4 e4 => ?_⟩
  refine i_neD (d := fr o.sum) (e := fr d.sum) (by walk_at "keep") e4 (fr_shaped _) (fr_shaped _) ?_
  rw [hs, eqv_fr, decide_eq_true rfl]
  walk_at "go"
  have hp4 : H4 p = some (.ins C.Evening dx []) := by walk_at "keep"
  refine sfO_of hp4 T.cl T.nO (by decide) (fun H5 k5 e5 => ?_)
  walk_at "go"
  refine sfO_of e5 T.cl T.nD (by show (1 : Nat) < 1000; decide) (fun H6 k6 e6 => ?_)
  exact q _ (fun b x hb hx => k6.keep _ _ hb (k5.keep _ _ hb (s4 _ _ (s3 _ _ (s2 _ _ (s1 _ _ hx)))))) e6

theorem sc_Eveningu_initu : FnScope N_Eveningu_initu ["self", "owed", "due"] (defScope s_Eveningu_initu) := ⟨rfl, rfl, rfl, by decide +kernel, rfl, by decide +kernel, by decide +kernel⟩
theorem ok_Eveningu_initu {P : Program} {w : World} {K : PySem.W.Frag} {mg : Str → Option Value} {base : Heap} {C : CA} {f : Addr} {fd : FuncData} (T : CT K C) (TT : CTT K C) (B : Bi mg C) (F : Fun K "__init__" "Evening.__init__" s_Eveningu_initu f fd) (D_added : Okd P w K mg base 2 "added" ["fractions"] (sp_added K C)) (D_q_is_side : Okd P w K mg base 4 "_is_side" ["thing"] (sp_q_is_side K C)) : FnOk P w K mg base CX0 5 f fd ["self", "owed", "due"] (sp_Eveningu_initu K C) := by
  refine F.ok sc_Eveningu_initu (fun vs H Q E h => ?_) (fun cdv A outer s H vs Q E hr h => ⟨t_Eveningu_initu K C, ?_, rd_Eveningu_initu T h⟩)
  · obtain ⟨_, _, _, _, _, _, rfl, _⟩ := h
    rfl
  · exact (pss_cons (ps_if (pt_not (pt_val (pe_callD D_q_is_side (hr.mono (by decide)) (pa_cons (pv 1) pa_nil)))) (pss_one ps_never) pss_nil) (pss_cons (ps_if (pt_not (pt_val (pe_callD D_q_is_side (hr.mono (by decide)) (pa_cons (pv 2) pa_nil)))) (pss_one ps_never) pss_nil) (pss_cons (ps_if (pt_cmpR (op_neD hr.units) (pe_callD D_added (hr.mono (by decide)) (pa_cons (pv 1) pa_nil)) (pe_callD D_added (hr.mono (by decide)) (pa_cons (pv 2) pa_nil)) (nomark _)) (pss_one ps_never) pss_nil) (pss_cons (ps_fld (pv 0) (pv 1) rfl) (pss_one (ps_fld (pv 0) (pv 2) rfl))))))

/-! ### _law_made -/
abbrev s_L_made : Stmt := top 51
def sp_L_made (K : PySem.W.Frag) (C : CA) : Sp := fun vs H Q _ => ∃ (w : V) (o d : List Rat), vs = [w] ∧ Im H w (stD (o, d)) ∧ Drawn 100 o d ∧ ∀ v H', Same H H' → EvAt C H' v o d → Q v H'

@[reducible] def N_L_made : List Str := ["_law_sums_here"]
def t_L_made (K : PySem.W.Frag) (C : CA) : TS :=
  (tRet (tMake C.Evening (sp_Eveningu_initu K C) [] E0 (tCons (tOp (rIxT K) (tVar 0) (tC (.int 0))) (tCons (tOp (rIxT K) (tVar 0) (tC (.int 1))) tNil))))

theorem rd_L_made {K : PySem.W.Frag} {C : CA} {vs : List V} {H : Hp} {Q : VK} {E : XK} (h : sp_L_made K C vs H Q E) : t_L_made K C { nx := fun _ H' => Q .non H', rt := Q } (start N_L_made vs) H := by
  obtain ⟨w, o, d, rfl, hw, D, q⟩ := h
  obtain ⟨a, xs, rfl, ha, hl⟩ := hw.tup_at
  obtain ⟨x, y, rfl⟩ : ∃ x y, xs = [x, y] := by
    match xs, hl with
    | [x, y], _ => exact ⟨x, y, rfl⟩
  simp only [ImL] at hl
  obtain ⟨hx, hy, _⟩ := hl
  obtain ⟨D1, D2, D3, D4, D5, D6, D7, D8⟩ := id D
  have bo : Bs o := D8.sub (by omega) fun q hq => List.mem_append_left _ hq
  have bd : Bs d := D8.sub (by omega) fun q hq => List.mem_append_right _ hq
  unfold t_L_made
  walk_at "go"
  refine makeO_of fun e dx H1 n1 s1 e1 => ?_
  refine ⟨e, dx, x, y, o, d, rfl, e1, sm_im s1 hx, sm_im s1 hy, D2, D4, ⟨D1, by omega, D3, by omega, D5, D6, D7, D8⟩, bo.bd, bd.bd, fun H2 k2 e2 => ⟨rfl, ?_⟩⟩
  have s2 : Same H H2 := fun b u hb => k2 b u (ne_of_none hb n1) (s1 b u hb)
  exact q _ _ s2 ⟨e, dx, x, y, rfl, e2, sm_im s2 hx, sm_im s2 hy⟩

theorem sc_L_made : FnScope N_L_made ["_law_sums_here"] (defScope s_L_made) := ⟨rfl, rfl, rfl, by decide +kernel, rfl, by decide +kernel, by decide +kernel⟩
theorem ok_L_made {P : Program} {w : World} {K : PySem.W.Frag} {mg : Str → Option Value} {base : Heap} {C : CA} {f : Addr} {fd : FuncData} (T : CT K C) (TT : CTT K C) (B : Bi mg C) (F : Fun K "_law_made" "_law_made" s_L_made f fd) (D_Eveningu_initu : Okm P w K mg base 5 "Evening" C.Evening ["self", "owed", "due"] (sp_Eveningu_initu K C)) : FnOk P w K mg base CX0 7 f fd ["_law_sums_here"] (sp_L_made K C) := by
  refine F.ok sc_L_made (fun vs H Q E h => ?_) (fun cdv A outer s H vs Q E hr h => ⟨t_L_made K C, ?_, rd_L_made h⟩)
  · obtain ⟨_, _, _, rfl, _⟩ := h
    rfl
  · exact (pss_one (ps_ret (pe_makeD D_Eveningu_initu (hr.mono (by decide)) (pa_cons (pe_ix ix_tup (pv 0) pe_int (fun _ _ => rfl)) (pa_cons (pe_ix ix_tup (pv 0) pe_int (fun _ _ => rfl)) pa_nil)))))

/-! ### _law_less -/
abbrev s_L_less : Stmt := top 43
def sp_L_less (K : PySem.W.Frag) (C : CA) : Sp := fun vs H Q _ => ∃ (v w : V) (p r : Rat), vs = [v, w] ∧ Im H v (fr p) ∧ Im H w (fr r) ∧ p.num.natAbs < 2 ^ 230 ∧ p.den < 2 ^ 60 ∧ r.num.natAbs < 2 ^ 230 ∧ r.den < 2 ^ 60 ∧ Ret H Q (fr (p - r))

@[reducible] def N_L_less : List Str := ["_law_one", "_law_other"]
def t_L_less (K : PySem.W.Frag) (C : CA) : TS :=
  (tRet (tCall (sp_L_fraction K C) [] E0 (tCons (tOp oSub (tOp oMul (tOp (rIxT K) (tVar 0) (tC (.int 0))) (tOp (rIxT K) (tVar 1) (tC (.int 1)))) (tOp oMul (tOp (rIxT K) (tVar 1) (tC (.int 0))) (tOp (rIxT K) (tVar 0) (tC (.int 1))))) (tCons (tOp oMul (tOp (rIxT K) (tVar 0) (tC (.int 1))) (tOp (rIxT K) (tVar 1) (tC (.int 1)))) tNil))))

theorem less_lt {a b c d : Nat} (ha : a < 2 ^ 230) (hb : b < 2 ^ 60) (hc : c < 2 ^ 230) (hd : d < 2 ^ 60) : a * b + c * d < 2 ^ 299 := by
  have h1 : a * b < 2 ^ 290 := Nat.lt_of_lt_of_le (Nat.mul_lt_mul'' ha hb) (by rw [← Nat.pow_add]; exact Nat.le_refl _)
  have h2 : c * d < 2 ^ 290 := Nat.lt_of_lt_of_le (Nat.mul_lt_mul'' hc hd) (by rw [← Nat.pow_add]; exact Nat.le_refl _)
  have h3 : 2 ^ 290 + 2 ^ 290 ≤ 2 ^ 299 := by decide
  omega
theorem rd_L_less {K : PySem.W.Frag} {C : CA} {vs : List V} {H : Hp} {Q : VK} {E : XK} (h : sp_L_less K C vs H Q E) : t_L_less K C { nx := fun _ H' => Q .non H', rt := Q } (start N_L_less vs) H := by
  obtain ⟨v, w, p, r, rfl, hv, hw, h1, h2, h3, h4, q⟩ := h
  obtain ⟨a, rfl, ha⟩ := hv.fr_at
  obtain ⟨b, rfl, hb⟩ := hw.fr_at
  have hp : 0 < p.den := Nat.pos_of_ne_zero p.den_nz
  have hr : 0 < r.den := Nat.pos_of_ne_zero r.den_nz
  unfold t_L_less
  walk_at "go"
  refine ⟨p.num * r.den - r.num * p.den, p.den * r.den, by simp, Nat.mul_pos hp hr, ?_, ?_, ?_⟩
  · exact Nat.lt_trans (Nat.mul_lt_mul'' h2 h4) (by rw [← Nat.pow_add]; decide)
  · have e : (p.num * r.den - r.num * p.den).natAbs ≤ p.num.natAbs * r.den + r.num.natAbs * p.den := by
      refine Nat.le_trans (Int.natAbs_sub_le _ _) ?_
      rw [Int.natAbs_mul, Int.natAbs_mul, Int.natAbs_natCast, Int.natAbs_natCast]
      exact Nat.le_refl _
    exact Nat.lt_of_le_of_lt e (less_lt h1 h4 h3 h2)
  · have e : mkRat (p.num * r.den - r.num * p.den) (p.den * r.den) = p - r := by
      rw [Rat.sub_eq_add_neg]
      have e1 : -r = mkRat (-r.num) r.den := by rw [← Rat.neg_mkRat, Rat.mkRat_self]
      rw [e1]
      conv => rhs; rw [← Rat.mkRat_self p]
      rw [Rat.mkRat_add_mkRat _ _ (by omega) (by omega)]
      congr 1
      grind
    rw [e]
    exact q

theorem sc_L_less : FnScope N_L_less ["_law_one", "_law_other"] (defScope s_L_less) := ⟨rfl, rfl, rfl, by decide +kernel, rfl, by decide +kernel, by decide +kernel⟩
theorem ok_L_less {P : Program} {w : World} {K : PySem.W.Frag} {mg : Str → Option Value} {base : Heap} {C : CA} {f : Addr} {fd : FuncData} (T : CT K C) (TT : CTT K C) (B : Bi mg C) (F : Fun K "_law_less" "_law_less" s_L_less f fd) (D_L_fraction : Okd P w K mg base 2 "_law_fraction" ["_law_top", "_law_bottom"] (sp_L_fraction K C)) : FnOk P w K mg base CX0 3 f fd ["_law_one", "_law_other"] (sp_L_less K C) := by
  refine F.ok sc_L_less (fun vs H Q E h => ?_) (fun cdv A outer s H vs Q E hr h => ⟨t_L_less K C, ?_, rd_L_less h⟩)
  · obtain ⟨_, _, _, _, rfl, _⟩ := h
    rfl
  · exact (pss_one (ps_ret (pe_callD D_L_fraction (hr.mono (by decide)) (pa_cons (pe_op op_sub (pe_op op_mulA (pe_ix ix_tup (pv 0) pe_int (fun _ _ => rfl)) (pe_ix ix_tup (pv 1) pe_int (fun _ _ => rfl))) (pe_op op_mulA (pe_ix ix_tup (pv 1) pe_int (fun _ _ => rfl)) (pe_ix ix_tup (pv 0) pe_int (fun _ _ => rfl)))) (pa_cons (pe_op op_mulA (pe_ix ix_tup (pv 0) pe_int (fun _ _ => rfl)) (pe_ix ix_tup (pv 1) pe_int (fun _ _ => rfl))) pa_nil)))))

/-! ### _law_is_below -/
abbrev s_L_is_below : Stmt := top 45
def sp_L_is_below (K : PySem.W.Frag) (C : CA) : Sp := fun vs H Q _ => ∃ (v w : V) (p r : Rat), vs = [v, w] ∧ Im H v (fr p) ∧ Im H w (fr r) ∧ p.num.natAbs < 2 ^ 230 ∧ p.den < 2 ^ 60 ∧ r.num.natAbs < 2 ^ 230 ∧ r.den < 2 ^ 60 ∧ Q (.bl (decide (p < r))) H

@[reducible] def N_L_is_below : List Str := ["_law_one", "_law_other"]
def t_L_is_below (K : PySem.W.Frag) (C : CA) : TS :=
  (tRet (tOp oLt (tOp oMul (tOp (rIxT K) (tVar 0) (tC (.int 0))) (tOp (rIxT K) (tVar 1) (tC (.int 1)))) (tOp oMul (tOp (rIxT K) (tVar 1) (tC (.int 0))) (tOp (rIxT K) (tVar 0) (tC (.int 1))))))

theorem rd_L_is_below {K : PySem.W.Frag} {C : CA} {vs : List V} {H : Hp} {Q : VK} {E : XK} (h : sp_L_is_below K C vs H Q E) : t_L_is_below K C { nx := fun _ H' => Q .non H', rt := Q } (start N_L_is_below vs) H := by
  obtain ⟨v, w, p, r, rfl, hv, hw, h1, h2, h3, h4, q⟩ := h
  obtain ⟨a, rfl, ha⟩ := hv.fr_at
  obtain ⟨b, rfl, hb⟩ := hw.fr_at
  unfold t_L_is_below
  walk_at "go"
  have e : decide (p.num * (r.den : Int) < r.num * (p.den : Int)) = decide (p < r) := decide_eq_decide.mpr (Rat.lt_iff p r).symm
  rw [e]
  exact q

theorem sc_L_is_below : FnScope N_L_is_below ["_law_one", "_law_other"] (defScope s_L_is_below) := ⟨rfl, rfl, rfl, by decide +kernel, rfl, by decide +kernel, by decide +kernel⟩
theorem ok_L_is_below {P : Program} {w : World} {K : PySem.W.Frag} {mg : Str → Option Value} {base : Heap} {C : CA} {f : Addr} {fd : FuncData} (T : CT K C) (TT : CTT K C) (B : Bi mg C) (F : Fun K "_law_is_below" "_law_is_below" s_L_is_below f fd)  : FnOk P w K mg base CX0 1 f fd ["_law_one", "_law_other"] (sp_L_is_below K C) := by
  refine F.ok sc_L_is_below (fun vs H Q E h => ?_) (fun cdv A outer s H vs Q E hr h => ⟨t_L_is_below K C, ?_, rd_L_is_below h⟩)
  · obtain ⟨_, _, _, _, rfl, _⟩ := h
    rfl
  · exact (pss_one (ps_ret (pe_cmpR op_lt (pe_op op_mulA (pe_ix ix_tup (pv 0) pe_int (fun _ _ => rfl)) (pe_ix ix_tup (pv 1) pe_int (fun _ _ => rfl))) (pe_op op_mulA (pe_ix ix_tup (pv 1) pe_int (fun _ _ => rfl)) (pe_ix ix_tup (pv 0) pe_int (fun _ _ => rfl))) (nomark _))))

/-! ### _law_go -/
abbrev s_L_go : Stmt := top 52
def sp_L_go (K : PySem.W.Frag) (C : CA) : Sp := fun vs H Q _ => ∃ (v w : V) (s : Sta) (p : Nat × Nat) (M : Nat), vs = [v, w] ∧ Im H v (stD s) ∧ Im H w (pd p) ∧ StOk M s ∧ canR s p ∧ Ret H Q (.tuple [stD (payR s p), fr (amtR s p)])

@[reducible] def N_L_go : List Str := ["_law_state", "_law_pair", "_law_owed", "_law_due", "_law_amount"]
def t_L_go (K : PySem.W.Frag) (C : CA) : TS :=
  (tSeq (tAsg (tCB (cList K) (tCons (tOp (rIxT K) (tVar 0) (tC (.int 0))) tNil)) (gName 2)) (tSeq (tAsg (tCB (cList K) (tCons (tOp (rIxT K) (tVar 0) (tC (.int 1))) tNil)) (gName 3)) (tSeq (tAsg (tOp (rIxL K) (tVar 2) (tOp (rIxT K) (tVar 1) (tC (.int 0)))) (gName 4)) (tSeq (tIfS (tB (tCall (sp_L_is_below K C) [] E0 (tCons (tOp (rIxL K) (tVar 3) (tOp (rIxT K) (tVar 1) (tC (.int 1)))) (tCons (tVar 4) tNil)))) (tAsg (tOp (rIxL K) (tVar 3) (tOp (rIxT K) (tVar 1) (tC (.int 1)))) (gName 4)) tNext) (tSeq (tAsg (tCall (sp_L_less K C) [] E0 (tCons (tOp (rIxL K) (tVar 2) (tOp (rIxT K) (tVar 1) (tC (.int 0)))) (tCons (tVar 4) tNil))) (gSub (tVar 2) (tOp (rIxT K) (tVar 1) (tC (.int 0))) rSetL)) (tSeq (tAsg (tCall (sp_L_less K C) [] E0 (tCons (tOp (rIxL K) (tVar 3) (tOp (rIxT K) (tVar 1) (tC (.int 1)))) (tCons (tVar 4) tNil))) (gSub (tVar 3) (tOp (rIxT K) (tVar 1) (tC (.int 1))) rSetL)) (tRet (tTup (tCons (tTup (tCons (tCB (cTup K) (tCons (tVar 2) tNil)) (tCons (tCB (cTup K) (tCons (tVar 3) tNil)) tNil))) (tCons (tVar 4) tNil))))))))))

theorem rd_L_go {K : PySem.W.Frag} {C : CA} {vs : List V} {H : Hp} {Q : VK} {E : XK} (h : sp_L_go K C vs H Q E) : t_L_go K C { nx := fun _ H' => Q .non H', rt := Q } (start N_L_go vs) H := by
  obtain ⟨v, w, s, p, M, rfl, hv, hw, hs, hc, q⟩ := h
  obtain ⟨a, x, y, rfl, ha, hx, hy⟩ := Im.st_at hv
  obtain ⟨b, rfl, hb⟩ := hw.pd_at
  obtain ⟨ax, xs, rfl, hax, hlx⟩ := hx.tup_at
  obtain ⟨ay, ys, rfl, hay, hly⟩ := hy.tup_at
  obtain ⟨c1, c2, c3, c4⟩ := id hc
  have o1 := hs.o0 _ (getD_mem (x := 0) c1)
  have d1 := hs.d0 _ (getD_mem (x := 0) c2)
  obtain ⟨bo0, bo1, bo2⟩ := StOk.bd hs.m1 hs.m0 o1.1 o1.2.1 o1.2.2
  obtain ⟨bd0, bd1, bd2⟩ := StOk.bd hs.m1 hs.m0 d1.1 d1.2.1 d1.2.2
  have lx : xs.length = s.1.length := by rw [hlx.length, List.length_map]
  have ly : ys.length = s.2.length := by rw [hly.length, List.length_map]
  obtain ⟨vx, ex, ix⟩ := hlx.fr_get c1
  obtain ⟨vy, ey, iy⟩ := hly.fr_get c2
  unfold t_L_go
  walk_at "go"
  refine i_clistT hax (fun l1 H1 n1 s1 e1 => ?_)
  walk_at "go"
  refine i_clistT (s1 _ _ hay) (fun l2 H2 n2 s2 e2 => ?_)
  have l12 : l1 ≠ l2 := ne_fresh' n2 e1
  walk_at "go"
  refine i_ixL (s2 _ _ e1) (atI_nn ex) ?_
  have ix2 := sm_im s2 (sm_im s1 ix)
  have iy2 := sm_im s2 (sm_im s1 iy)
  with_reducible refine i_cut (fun σ' H' => H' = H2 ∧ ∃ z, σ' = [some (.ref a), some (.ref b), some (.ref l1), some (.ref l2), some z] ∧ Im H2 z (fr (amtR s p))) (fun N hN => ?_) ?_
  · walk_at "go"
    refine i_ixL e2 (atI_nn ey) ?_
    walk_at "go"
    refine ⟨vy, vx, _, _, rfl, iy2, ix2, bd1, bd2, bo1, bo2, ?_⟩
    walk_at "go"
    refine ite_d (fun hlt => ?_) (fun hlt => ?_)
    · walk_at "go"
      refine i_ixL e2 (atI_nn ey) ?_
      refine hN _ _ ⟨rfl, vy, rfl, ?_⟩
      unfold amtR minR
      rw [if_pos hlt]; exact iy2
    · walk_at "go"
      refine hN _ _ ⟨rfl, vx, rfl, ?_⟩
      unfold amtR minR
      rw [if_neg hlt]; exact ix2
  · rintro σ' H' ⟨rfl, z, rfl, hz⟩
    have am : 0 ≤ amtR s p ∧ amtR s p ≤ (2 ^ 88 : Nat) ∧ (amtR s p).den ∣ M := by
      refine ⟨Rat.le_of_lt (minR_pos c3 c4), Rat.le_trans (minR_le _ _).1 o1.2.1, den_minR o1.2.2 d1.2.2⟩
    obtain ⟨ba0, ba1, ba2⟩ := StOk.bd hs.m1 hs.m0 am.1 am.2.1 am.2.2
    walk_at "go"
    refine i_ixL (s2 _ _ e1) (atI_nn ex) ?_
    walk_at "go"
    refine ⟨vx, z, _, _, rfl, ix2, hz, bo1, bo2, ba1, ba2, fun z1 H3 s3 hz1 => ?_⟩
    walk_at "go"
    refine i_setL (xs := xs) (by walk_at "keep") (ixN_nn (by rw [lx]; exact c1)) (fun H4 k4 e4 => ?_)
    have e24 : H4 l2 = some (.lst ys) := k4.keep _ _ l12.symm (s3 _ _ e2)
    walk_at "go"
    refine i_ixL e24 (atI_nn ey) ?_
    walk_at "go"
    refine ⟨vy, z, _, _, rfl, kl_im k4 (sm_im s3 iy2), kl_im k4 (sm_im s3 hz), bd1, bd2, ba1, ba2, fun z2 H5 s5 hz2 => ?_⟩
    walk_at "go"
    refine i_setL (xs := ys) (s5 _ _ e24) (ixN_nn (by rw [ly]; exact c2)) (fun H6 k6 e6 => ?_)
    have e16 : H6 l1 = some (.lst (xs.set p.1 z1)) := k6.keep _ _ l12 (s5 _ _ e4)
    walk_at "go"
    refine i_ctupL e16 (fun t1 H7 n7 s7 e7 => ?_)
    walk_at "go"
    refine i_ctupL (s7 _ _ e6) (fun t2 H8 n8 s8 e8 => ?_)
    walk_at "go"
    rename_i t3 H9 n9 s9 e9 t4 H10 n10 s10 e10
    have f2 : H l2 = none := s1.free n2
    have sA : Same H H6 := same_loc (same_loc ((s1.trans s2).trans s3) k4 n1 |>.trans s5) k6 f2
    refine q _ _ (sA.trans (s7.trans (s8.trans (s9.trans s10)))) (Im.tup e10 ?_)
    have il1 : ImL H6 (xs.set p.1 z1) ((s.1.set p.1 (s.1.getD p.1 0 - amtR s p)).map fr) := by
      rw [List.map_set]
      exact ImL.set _ (sm_iml sA hlx) (kl_im k6 (sm_im s5 (kl_im k4 hz1)))
    have il2 : ImL H6 (ys.set p.2 z2) ((s.2.set p.2 (s.2.getD p.2 0 - amtR s p)).map fr) := by
      rw [List.map_set]
      exact ImL.set _ (sm_iml sA hly) (kl_im k6 hz2)
    have s610 := s7.trans (s8.trans (s9.trans s10))
    simp only [ImL]
    refine ⟨Im.tup (s10 _ _ e9) (by simp only [ImL]; exact ⟨Im.tup (s10 _ _ (s9 _ _ (s8 _ _ e7))) (sm_iml s610 il1), Im.tup (s10 _ _ (s9 _ _ e8)) (sm_iml s610 il2), trivial⟩), ?_, trivial⟩
    exact sm_im s610 (kl_im k6 (sm_im s5 (kl_im k4 (sm_im s3 hz))))

theorem sc_L_go : FnScope N_L_go ["_law_state", "_law_pair"] (defScope s_L_go) := ⟨rfl, rfl, rfl, by decide +kernel, rfl, by decide +kernel, by decide +kernel⟩
theorem ok_L_go {P : Program} {w : World} {K : PySem.W.Frag} {mg : Str → Option Value} {base : Heap} {C : CA} {f : Addr} {fd : FuncData} (T : CT K C) (TT : CTT K C) (B : Bi mg C) (F : Fun K "_law_go" "_law_go" s_L_go f fd) (D_L_less : Okd P w K mg base 3 "_law_less" ["_law_one", "_law_other"] (sp_L_less K C)) (D_L_is_below : Okd P w K mg base 1 "_law_is_below" ["_law_one", "_law_other"] (sp_L_is_below K C)) : FnOk P w K mg base CX0 4 f fd ["_law_state", "_law_pair"] (sp_L_go K C) := by
  refine F.ok sc_L_go (fun vs H Q E h => ?_) (fun cdv A outer s H vs Q E hr h => ⟨t_L_go K C, ?_, rd_L_go h⟩)
  · obtain ⟨_, _, _, _, _, rfl, _⟩ := h
    rfl
  · exact (pss_cons (ps_set (i := 2) sc_L_go.nd rfl (Or.inl rfl) (pe_callTy call_list_of (by rfl) B.b_list bt_list (pa_cons (pe_ix ix_tup (pv 0) pe_int (fun _ _ => rfl)) pa_nil))) (pss_cons (ps_set (i := 3) sc_L_go.nd rfl (Or.inl rfl) (pe_callTy call_list_of (by rfl) B.b_list bt_list (pa_cons (pe_ix ix_tup (pv 0) pe_int (fun _ _ => rfl)) pa_nil))) (pss_cons (ps_set (i := 4) sc_L_go.nd rfl (Or.inl rfl) (pe_ix ix_list (pv 2) (pe_ix ix_tup (pv 1) pe_int (fun _ _ => rfl)) (fun _ _ => rfl))) (pss_cons (ps_if (pt_val (pe_callD D_L_is_below (hr.mono (by decide)) (pa_cons (pe_ix ix_list (pv 3) (pe_ix ix_tup (pv 1) pe_int (fun _ _ => rfl)) (fun _ _ => rfl)) (pa_cons (pv 4) pa_nil)))) (pss_one (ps_set (i := 4) sc_L_go.nd rfl (Or.inl rfl) (pe_ix ix_list (pv 3) (pe_ix ix_tup (pv 1) pe_int (fun _ _ => rfl)) (fun _ _ => rfl)))) pss_nil) (pss_cons (ps_asg (pe_callD D_L_less (hr.mono (by decide)) (pa_cons (pe_ix ix_list (pv 2) (pe_ix ix_tup (pv 1) pe_int (fun _ _ => rfl)) (fun _ _ => rfl)) (pa_cons (pv 4) pa_nil))) (pg_sub (pv 2) (pe_ix ix_tup (pv 1) pe_int (fun _ _ => rfl)) set_list)) (pss_cons (ps_asg (pe_callD D_L_less (hr.mono (by decide)) (pa_cons (pe_ix ix_list (pv 3) (pe_ix ix_tup (pv 1) pe_int (fun _ _ => rfl)) (fun _ _ => rfl)) (pa_cons (pv 4) pa_nil))) (pg_sub (pv 3) (pe_ix ix_tup (pv 1) pe_int (fun _ _ => rfl)) set_list)) (pss_one (ps_ret (pe_tup (pa_cons (pe_tup (pa_cons (pe_callTy call_tuple_of (by rfl) B.b_tuple bt_tuple (pa_cons (pv 2) pa_nil)) (pa_cons (pe_callTy call_tuple_of (by rfl) B.b_tuple bt_tuple (pa_cons (pv 3) pa_nil)) pa_nil))) (pa_cons (pv 4) pa_nil)))))))))))

/-! ### _law_pairs -/
abbrev s_L_pairs : Stmt := top 53
def sp_L_pairs (K : PySem.W.Frag) (C : CA) : Sp := fun vs H Q _ => ∃ (v : V) (s : Sta) (M : Nat), vs = [v] ∧ Im H v (stD s) ∧ StOk M s ∧
  ∀ (l : Addr) (xs : List V) (ps : List (Nat × Nat)) (H' : Hp), Same H H' → H l = none → H' l = some (.lst xs) → ImL H' xs (ps.map pd) → (∀ p ∈ ps, canR s p) → (ps = [] → overR s) → ps.length ≤ 10000 → Q (.ref l) H'

@[reducible] def N_L_pairs : List Str := ["_law_state", "_law_found", "_law_ower", "_law_taker"]
def t_L_pairs (K : PySem.W.Frag) (C : CA) : TS :=
  (tSeq (tAsg (tLst tNil) (gName 1)) (tSeq (tFor (iRng1 (tCons (tCB (cLen K) (tCons (tOp (rIxT K) (tVar 0) (tC (.int 0))) tNil)) tNil)) (gName 2) (tIfS (tTest (tOp (rNeD K) (tOp (rIxT K) (tOp (rIxT K) (tVar 0) (tC (.int 0))) (tVar 2)) (tTup (tCons (tC (.int 0)) (tCons (tC (.int 1)) tNil))))) (tAsg (tOp rCat (tVar 1) (tLc (iRng1 (tCons (tCB (cLen K) (tCons (tOp (rIxT K) (tVar 0) (tC (.int 1))) tNil)) tNil)) (gName 3) (tTest (tOp (rNeD K) (tOp (rIxT K) (tOp (rIxT K) (tVar 0) (tC (.int 1))) (tVar 3)) (tTup (tCons (tC (.int 0)) (tCons (tC (.int 1)) tNil))))) (tTup (tCons (tVar 2) (tCons (tVar 3) tNil))) [3])) (gName 1)) tNext)) (tRet (tVar 1))))

theorem fr_zero : fr 0 = .tuple [.int 0, .int 1] := rfl
theorem gp_map (s : Sta) (i n : Nat) : (List.range n).flatMap (fun j => (gPair s i j).map pd) = ((List.range n).flatMap (gPair s i)).map pd := by
  rw [List.map_flatMap]
theorem gp_len (s : Sta) (i : Nat) : ∀ n : Nat, ((List.range n).flatMap (gPair s i)).length ≤ n
  | 0 => by simp
  | n + 1 => by
    rw [List.range_succ, List.flatMap_append, List.length_append]
    have := gp_len s i n
    have := gPair_len s i n
    have e : [n].flatMap (gPair s i) = gPair s i n := by simp
    rw [e]
    omega
theorem rd_L_pairs {K : PySem.W.Frag} {C : CA} {vs : List V} {H : Hp} {Q : VK} {E : XK} (h : sp_L_pairs K C vs H Q E) : t_L_pairs K C { nx := fun _ H' => Q .non H', rt := Q } (start N_L_pairs vs) H := by
  obtain ⟨v, s, M, rfl, hv, hs, q⟩ := h
  obtain ⟨a, x, y, rfl, ha, hx, hy⟩ := Im.st_at hv
  obtain ⟨ax, xs, rfl, hax, hlx⟩ := hx.tup_at
  obtain ⟨ay, ys, rfl, hay, hly⟩ := hy.tup_at
  have lx : xs.length = s.1.length := by rw [hlx.length, List.length_map]
  have ly : ys.length = s.2.length := by rw [hly.length, List.length_map]
  have hlo := hs.lo
  have hld := hs.ld
  unfold t_L_pairs
  walk_at "go"
  rename_i l0 H0 n0 s0 e0
  refine forR_of (n := s.1.length) (fun i σ H' => Same H H' ∧ ∃ (l : Addr) (zs : List V) (ps : List (Nat × Nat)) (u w : Option V), σ = [some (.ref a), some (.ref l), u, w] ∧ H l = none ∧ H' l = some (.lst zs) ∧ ImL H' zs (ps.map pd) ∧ (∀ p ∈ ps, canR s p) ∧ (∀ p, canR s p → p.1 < i → p ∈ ps) ∧ ps.length ≤ i * 100) (fun _ _ => False)
    (by rw [lx]) (by omega) ⟨s0, l0, [], [], none, none, rfl, n0, e0, by simp [ImL], by simp, fun p _ h => absurd h (by omega), by simp⟩ ?_ ?_ (fun _ _ h => h.elim)
  · rintro i σ H1 N B hi ⟨s1, l, zs, ps, u, w, rfl, nl, el, il, hc, hm, hpl⟩ hN hB
    obtain ⟨vx, ex, ix⟩ := hlx.fr_get hi
    have q0 := hs.o0 _ (getD_mem (x := 0) hi)
    walk_at "go"
    refine i_ixT (s1 _ _ hax) (atI_nn ex) ?_
    walk_at "go"
    refine i_neD (d := fr (s.1.getD i 0)) (e := fr 0) (by walk_at "keep") (Im.fr_of (by assumption)) (fr_shaped _) (fr_shaped _) ?_
    rw [eqv_fr]
    walk_at "go"
    refine ite_nd (fun hnz => ?_) (fun hz => ?_)
    · walk_at "go"
      rename_i p2 H2 n2 s2 e2
      have hay2 : H2 ay = some (.tup ys) := s2 _ _ (s1 _ _ hay)
      walk_at "go"
      refine lcR_of (n := s.2.length) (fun j => (gPair s i j).map pd) (by rw [ly]) (by omega) (fun j => by rw [List.length_map]; exact gPair_len s i j) (fun j H3 N3 M3 NE hj s3 hNE hM3 => ⟨rfl, ?_⟩) (fun D H3 ws nD s3 e3 i3 => ?_)
      · obtain ⟨vy, ey, iy⟩ := hly.fr_get hj
        have hay3 := s3 _ _ hay2
        walk_at "go"
        refine i_ixT hay3 (atI_nn ey) ?_
        walk_at "go"
        refine i_neD (d := fr (s.2.getD j 0)) (e := fr 0) (by walk_at "keep") (Im.fr_of (by assumption)) (fr_shaped _) (fr_shaped _) ?_
        rw [eqv_fr]
        walk_at "go"
        refine ite_nd (fun hnz2 => ?_) (fun hz2 => ?_)
        · walk_at "go"
          refine hNE _ _ (pd (i, j)) (by unfold gPair; rw [if_pos hnz2]; rfl) (by walk_at "sm") (Im.pd_of (by assumption))
        · refine hM3 _ (by unfold gPair; rw [if_neg (fun h => h hz2)]; rfl) (by walk_at "sm")
      · rw [gp_map] at i3
        refine i_cat (by walk_at "keep") e3 ?_ (fun l4 H4 n4 s4 e4 => ?_)
        · have h1 := i3.length
          have h2 := il.length
          have h3 := gp_len s i s.2.length
          rw [List.length_map] at h1 h2
          have e0 : sizeLine = 16777216 := PySem.sizeLine_eq
          have : i * 100 ≤ 100 * 100 := Nat.mul_le_mul_right _ (by omega)
          omega
        · refine hN _ _ ⟨(s1.trans s2).trans (s3.trans s4), l4, zs ++ ws, ps ++ (List.range s.2.length).flatMap (gPair s i), _, _, rfl, s1.free (s2.free (s3.free n4)), e4, ?_, ?_, ?_, ?_⟩
          · rw [List.map_append]
            exact ImL.append (sm_iml s4 (sm_iml s3 (sm_iml s2 il))) (sm_iml s4 i3)
          · intro p hp
            rcases List.mem_append.mp hp with hp | hp
            · exact hc p hp
            · obtain ⟨j, hj, hpj⟩ := List.mem_flatMap.mp hp
              rw [List.mem_range] at hj
              unfold gPair at hpj
              split at hpj
              · rename_i hnz2
                have e : p = (i, j) := by simpa using hpj
                subst e
                have q1 := hs.d0 _ (getD_mem (x := 0) hj)
                exact ⟨hi, hj, by grind, by grind⟩
              · cases hpj
          · intro p hp hlt
            by_cases hpi : p.1 < i
            · exact List.mem_append_left _ (hm p hp hpi)
            · refine List.mem_append_right _ (List.mem_flatMap.mpr ⟨p.2, List.mem_range.mpr hp.2.1, ?_⟩)
              have e : p.1 = i := by omega
              unfold gPair
              rw [if_pos (by have := hp.2.2.2; grind)]
              rw [← e]; simp
          · have h3 := gp_len s i s.2.length
            rw [List.length_append, Nat.succ_mul]
            omega
    · walk_at "go"
      rename_i p2 H2 n2 s2 e2
      refine hN _ _ ⟨s1.trans s2, l, zs, ps, _, _, rfl, nl, s2 _ _ el, sm_iml s2 il, hc, fun p hp hlt => ?_, by rw [Nat.succ_mul]; omega⟩
      by_cases hpi : p.1 < i
      · exact hm p hp hpi
      · have e : p.1 = i := by omega
        have := hp.2.2.1
        rw [e, hz] at this
        exact absurd this (by decide)
  · rintro σ H1 ⟨s1, l, zs, ps, u, w, rfl, nl, el, il, hc, hm, hpl⟩
    walk_at "go"
    refine q l zs ps H1 s1 nl el il hc (fun h p hp => ?_) (by have : s.1.length * 100 ≤ 100 * 100 := Nat.mul_le_mul_right _ hlo; omega)
    have := hm p hp hp.1
    rw [h] at this
    cases this

theorem sc_L_pairs : FnScope N_L_pairs ["_law_state"] (defScope s_L_pairs) := ⟨rfl, rfl, rfl, by decide +kernel, rfl, by decide +kernel, by decide +kernel⟩
theorem ok_L_pairs {P : Program} {w : World} {K : PySem.W.Frag} {mg : Str → Option Value} {base : Heap} {C : CA} {f : Addr} {fd : FuncData} (T : CT K C) (TT : CTT K C) (B : Bi mg C) (F : Fun K "_law_pairs" "_law_pairs" s_L_pairs f fd)  : FnOk P w K mg base CX0 1 f fd ["_law_state"] (sp_L_pairs K C) := by
  refine F.ok sc_L_pairs (fun vs H Q E h => ?_) (fun cdv A outer s H vs Q E hr h => ⟨t_L_pairs K C, ?_, rd_L_pairs h⟩)
  · obtain ⟨_, _, _, rfl, _⟩ := h
    rfl
  · exact (pss_cons (ps_set (i := 1) sc_L_pairs.nd rfl (Or.inl rfl) (pe_lst pa_nil)) (pss_cons (ps_for PassesOwn.never rfl (pi_range1 rfl B.b_range (pa_cons (pe_callB call_len (by rfl) B.b_len bt_len (pa_cons (pe_ix ix_tup (pv 0) pe_int (fun _ _ => rfl)) pa_nil)) pa_nil)) (pg_name (i := 2) sc_L_pairs.nd rfl (Or.inr rfl)) (pss_one (ps_if (pt_cmpR (op_neD hr.units) (pe_ix ix_tup (pe_ix ix_tup (pv 0) pe_int (fun _ _ => rfl)) (pv 2) (fun _ _ => rfl)) (pe_tup (pa_cons pe_int (pa_cons pe_int pa_nil))) (nomark _)) (pss_one (ps_set (i := 1) sc_L_pairs.nd rfl (Or.inl rfl) (pe_op op_cat (pv 1) (pe_lc (own := [("_law_taker", 3)]) (g := (gName 3)) (tt := (tTest (tOp (rNeD K) (tOp (rIxT K) (tOp (rIxT K) (tVar 0) (tC (.int 1))) (tVar 3)) (tTup (tCons (tC (.int 0)) (tCons (tC (.int 1)) tNil)))))) rfl sc_L_pairs.nd (pi_range1 rfl B.b_range (pa_cons (pe_callB call_len (by rfl) B.b_len bt_len (pa_cons (pe_ix ix_tup (pv 0) pe_int (fun _ _ => rfl)) pa_nil)) pa_nil)) (blkOk_by (own := [("_law_taker", 3)]) (N := N_L_pairs) (sc := defScope s_L_pairs) (by decide +kernel)) (fun _ _ _ _ _ => (pg_name (i := 3) sc_L_pairs.nd rfl (Or.inl rfl))) (fun _ _ _ _ _ => (pts_one (pt_cmpR (op_neD hr.units) (pe_ix ix_tup (pe_ix ix_tup (pv 0) pe_int (fun _ _ => rfl)) (pv 3) (fun _ _ => rfl)) (pe_tup (pa_cons pe_int (pa_cons pe_int pa_nil))) (nomark _)))) (fun _ _ _ _ _ => (pe_tup (pa_cons (pv 2) (pa_cons (pv 3) pa_nil)))))))) pss_nil))) (pss_one (ps_ret (pv 1)))))

/-! ### _law_row -/
abbrev s_L_row : Stmt := top 54
def sp_L_row (K : PySem.W.Frag) (C : CA) : Sp := fun vs H Q _ => ∃ (m c : Addr) (v : V) (s : Sta) (M most : Nat), vs = [.ref m, v, .int (most : Nat)] ∧ Hand H m c ∧ Im H v (stD s) ∧ StOk M s ∧ most ≤ 200 ∧
  ∀ (w : Addr) (x y z : V) (ps : List (Nat × Nat)) (H' : Hp), KL m H H' → Hand H' m c → rowR s ps → ps.length ≤ most → (ps.length < most → overR (runR s ps)) → H' w = some (.tup [x, y, z]) → Im H' x (.tuple (ps.map pd)) → Im H' y (stD (runR s ps)) → Im H' z (.tuple ((amtsR s ps).map fr)) → Q (.ref w) H'

@[reducible] def N_L_row : List Str := ["_law_hand_here", "_law_sums_here", "_law_most", "_law_state", "_law_row_here", "_law_amounts", "_law_turn", "_law_pairs_here", "_law_pair", "_law_amount"]
def t_L_row (K : PySem.W.Frag) (C : CA) : TS :=
  (tSeq (tAsg (tVar 1) (gName 3)) (tSeq (tAsg (tTup tNil) (gName 4)) (tSeq (tAsg (tTup tNil) (gName 5)) (tSeq (tFor (iRng1 (tCons (tVar 2) tNil)) (gName 6) (tSeq (tAsg (tCall (sp_L_pairs K C) [] E0 (tCons (tVar 3) tNil)) (gName 7)) (tSeq (tIfS (tTest (tOp rEq (tCB (cLen K) (tCons (tVar 7) tNil)) (tC (.int 0)))) tBreak tNext) (tSeq (tAsg (tOp (rIxL K) (tVar 7) (tCall (sp_L_draw K C) [] E0 (tCons (tVar 0) (tCons (tCB (cLen K) (tCons (tVar 7) tNil)) tNil)))) (gName 8)) (tSeq (tAsg (tCall (sp_L_go K C) [] E0 (tCons (tVar 3) (tCons (tVar 8) tNil))) (gTup K 2 (gCons (gName 3) (gCons (gName 9) gNil)))) (tSeq (tAsg (tOp (rCatA K) (tVar 4) (tTup (tCons (tVar 8) tNil))) (gName 4)) (tAsg (tOp (rCatA K) (tVar 5) (tTup (tCons (tVar 9) tNil))) (gName 5)))))))) (tRet (tTup (tCons (tVar 4) (tCons (tVar 3) (tCons (tVar 5) tNil)))))))))

theorem rd_L_row {K : PySem.W.Frag} {C : CA} {vs : List V} {H : Hp} {Q : VK} {E : XK} (h : sp_L_row K C vs H Q E) : t_L_row K C { nx := fun _ H' => Q .non H', rt := Q } (start N_L_row vs) H := by
  obtain ⟨m, c, v0, s, M, most, rfl, hm, hv0, hs, hmost, q⟩ := h
  unfold t_L_row
  walk_at "go"
  rename_i a1 H1 n1 s1 e1 a2 H2 n2 s2 e2
  refine forR_of (n := most) (fun i σ H' => KL m H H' ∧ Hand H' m c ∧ ∃ (v w z : V) (ps : List (Nat × Nat)) (u1 u2 u3 u4 : Option V), σ = [some (.ref m), some v0, some (.int (most : Nat)), some v, some w, some z, u1, u2, u3, u4] ∧ Im H' v (stD (runR s ps)) ∧ Im H' w (.tuple (ps.map pd)) ∧ Im H' z (.tuple ((amtsR s ps).map fr)) ∧ rowR s ps ∧ ps.length = i)
    (fun σ H' => KL m H H' ∧ Hand H' m c ∧ ∃ (v w z : V) (ps : List (Nat × Nat)) (u1 u2 u3 u4 : Option V), σ = [some (.ref m), some v0, some (.int (most : Nat)), some v, some w, some z, u1, u2, u3, u4] ∧ Im H' v (stD (runR s ps)) ∧ Im H' w (.tuple (ps.map pd)) ∧ Im H' z (.tuple ((amtsR s ps).map fr)) ∧ rowR s ps ∧ ps.length ≤ most ∧ overR (runR s ps))
    rfl (by omega) ⟨by walk_at "sm", by walk_at "keep", v0, .ref a1, .ref a2, [], none, none, none, none, rfl, by walk_at "keep", Im.tup (by walk_at "keep") (by simp [ImL]), Im.tup (by walk_at "keep") (by simp [ImL, amtsR]), by simp [rowR], rfl⟩ ?_ ?_ ?_
  · rintro i σ H3 N B hi ⟨kl3, hm3, v, w, z, ps, u1, u2, u3, u4, rfl, hv, hw, hz, hr, hl⟩ hN hB
    have hs3 := hs.run hr
    walk_at "go"
    refine ⟨v, runR s ps, M, rfl, hv, hs3, fun l xs qs H4 s4 nl el il hc ho hq => ?_⟩
    have lx : xs.length = qs.length := by rw [il.length, List.length_map]
    walk_at "go"
    refine ite_d (fun hx => ?_) (fun hx => ?_)
    · walk_at "go"
      have hx' := V.int.inj hx
      have hqs : qs = [] := List.eq_nil_of_length_eq_zero (by omega)
      exact hB _ _ ⟨by walk_at "sm", by walk_at "keep", v, w, z, ps, _, _, _, _, rfl, by walk_at "keep", by walk_at "keep", by walk_at "keep", hr, by omega, ho hqs⟩
    · walk_at "go"
      have hm4 := sm_hand s4 hm3
      have hx' : xs.length ≠ 0 := fun z => hx (by rw [z]; rfl)
      have hb : ((xs.length : Nat) : Int).natAbs.log2 < 9000 := small_log (by
        have : 10000 < 2 ^ 70 := by decide
        omega)
      refine ⟨m, c, (xs.length : Nat), rfl, hm4, by omega, hb, fun d H5 d0 d1 kl5 hm5 => ?_⟩
      have nlm : l ≠ m := (hand_ne nl hm3).1.symm
      have hd : d.toNat < xs.length := by omega
      have ed : d = ((d.toNat : Nat) : Int) := by omega
      have el5 : H5 l = some (.lst xs) := by walk_at "keep"
      obtain ⟨p, ep, ip⟩ : ∃ p, xs[d.toNat]? = some (xs[d.toNat]) ∧ qs[d.toNat]? = some p ∧ Im H4 (xs[d.toNat]) (pd p) := by
        have e1 : xs[d.toNat]? = some (xs[d.toNat]) := List.getElem?_eq_getElem hd
        obtain ⟨e, h1, h2⟩ := il.get e1
        obtain ⟨p, h3, rfl⟩ := get_pds h1
        exact ⟨p, e1, h3, h2⟩
      rw [ed]
      refine i_ixL el5 (atI_nn ep) ?_
      walk_at "go"
      have cp := hc p (List.mem_of_getElem? ip.1)
      have ip5 : Im H5 (xs[d.toNat]) (pd p) := kl_im kl5 ip.2
      refine ⟨v, _, runR s ps, p, M, rfl, by walk_at "keep", ip5, hs3, cp, fun r H6 s6 hr6 => ?_⟩
      obtain ⟨b, ys, rfl, hb6, lb6⟩ := hr6.tup_at
      obtain ⟨y1, y2, rfl⟩ : ∃ y1 y2, ys = [y1, y2] := by
        match ys, lb6 with
        | [x, y], _ => exact ⟨x, y, rfl⟩
      simp only [ImL] at lb6
      obtain ⟨iy1, iy2, _⟩ := lb6
      walk_at "go"
      rename_i a7 H7 n7 s7 e7
      refine i_catA (ds := ps.map pd) (es := [pd p]) (by walk_at "keep") (Im.tup e7 (by simp only [ImL]; exact ⟨by walk_at "keep", trivial⟩)) (by rw [List.length_map]; exact Nat.le_of_lt (small1000 (by simp; omega))) (fun x8 H8 s8 e8 => ?_)
      walk_at "go"
      rename_i a9 H9 n9 s9 e9
      refine i_catA (ds := (amtsR s ps).map fr) (es := [fr (amtR (runR s ps) p)]) (by walk_at "keep") (Im.tup e9 (by simp only [ImL]; exact ⟨by walk_at "keep", trivial⟩)) (by rw [List.length_map, amts_len]; exact Nat.le_of_lt (small1000 (by simp; omega))) (fun x10 H10 s10 e10 => ?_)
      walk_at "go"
      refine hN _ _ ⟨by walk_at "sm", by walk_at "keep", y1, x8, x10, ps ++ [p], _, _, _, _, rfl, ?_, ?_, ?_, ?_, ?_⟩
      · rw [runR_snoc]; walk_at "keep"
      · rw [List.map_append]; walk_at "keep"
      · rw [amtsR_append, List.map_append]; exact e10
      · exact rowR_append.mpr ⟨hr, cp, trivial⟩
      · simp; omega
  · rintro σ H3 ⟨kl3, hm3, v, w, z, ps, u1, u2, u3, u4, rfl, hv, hw, hz, hr, hl⟩
    walk_at "go"
    rename_i a4 H4 n4 s4 e4
    exact q a4 w v z ps H4 (by walk_at "sm") (by walk_at "keep") hr (by omega) (by omega) e4 (by walk_at "keep") (by walk_at "keep") (by walk_at "keep")
  · rintro σ H3 ⟨kl3, hm3, v, w, z, ps, u1, u2, u3, u4, rfl, hv, hw, hz, hr, hl, ho⟩
    walk_at "go"
    rename_i a4 H4 n4 s4 e4
    exact q a4 w v z ps H4 (by walk_at "sm") (by walk_at "keep") hr hl (fun _ => ho) e4 (by walk_at "keep") (by walk_at "keep") (by walk_at "keep")

theorem sc_L_row : FnScope N_L_row ["_law_hand_here", "_law_sums_here", "_law_most"] (defScope s_L_row) := ⟨rfl, rfl, rfl, by decide +kernel, rfl, by decide +kernel, by decide +kernel⟩
theorem ok_L_row {P : Program} {w : World} {K : PySem.W.Frag} {mg : Str → Option Value} {base : Heap} {C : CA} {f : Addr} {fd : FuncData} (T : CT K C) (TT : CTT K C) (B : Bi mg C) (F : Fun K "_law_row" "_law_row" s_L_row f fd) (D_L_draw : Okd P w K mg base 1 "_law_draw" ["_law_hand_here", "_law_many"] (sp_L_draw K C)) (D_L_go : Okd P w K mg base 4 "_law_go" ["_law_state", "_law_pair"] (sp_L_go K C)) (D_L_pairs : Okd P w K mg base 1 "_law_pairs" ["_law_state"] (sp_L_pairs K C)) : FnOk P w K mg base CX0 5 f fd ["_law_hand_here", "_law_sums_here", "_law_most"] (sp_L_row K C) := by
  refine F.ok sc_L_row (fun vs H Q E h => ?_) (fun cdv A outer s H vs Q E hr h => ⟨t_L_row K C, ?_, rd_L_row h⟩)
  · obtain ⟨_, _, _, _, _, _, rfl, _⟩ := h
    rfl
  · exact (pss_cons (ps_set (i := 3) sc_L_row.nd rfl (Or.inl rfl) (pv 1)) (pss_cons (ps_set (i := 4) sc_L_row.nd rfl (Or.inl rfl) (pe_tup pa_nil)) (pss_cons (ps_set (i := 5) sc_L_row.nd rfl (Or.inl rfl) (pe_tup pa_nil)) (pss_cons (ps_for PassesOwn.never rfl (pi_range1 rfl B.b_range (pa_cons (pv 2) pa_nil)) (pg_name (i := 6) sc_L_row.nd rfl (Or.inl rfl)) (pss_cons (ps_set (i := 7) sc_L_row.nd rfl (Or.inl rfl) (pe_callD D_L_pairs (hr.mono (by decide)) (pa_cons (pv 3) pa_nil))) (pss_cons (ps_if (pt_cmpR op_eq (pe_callB call_len (by rfl) B.b_len bt_len (pa_cons (pv 7) pa_nil)) pe_int (nomark _)) (pss_one ps_break) pss_nil) (pss_cons (ps_set (i := 8) sc_L_row.nd rfl (Or.inl rfl) (pe_ix ix_list (pv 7) (pe_callD D_L_draw (hr.mono (by decide)) (pa_cons (pv 0) (pa_cons (pe_callB call_len (by rfl) B.b_len bt_len (pa_cons (pv 7) pa_nil)) pa_nil))) (fun _ _ => rfl))) (pss_cons (ps_asg (pe_callD D_L_go (hr.mono (by decide)) (pa_cons (pv 3) (pa_cons (pv 8) pa_nil))) (pg_tup rfl (pgs_cons (pg_name (i := 3) sc_L_row.nd rfl (Or.inl rfl)) (pgs_cons (pg_name (i := 9) sc_L_row.nd rfl (Or.inl rfl)) pgs_nil)))) (pss_cons (ps_set (i := 4) sc_L_row.nd rfl (Or.inl rfl) (pe_op op_catA (pv 4) (pe_tup (pa_cons (pv 8) pa_nil)))) (pss_one (ps_set (i := 5) sc_L_row.nd rfl (Or.inl rfl) (pe_op op_catA (pv 5) (pe_tup (pa_cons (pv 9) pa_nil))))))))))) (pss_one (ps_ret (pe_tup (pa_cons (pv 4) (pa_cons (pv 3) (pa_cons (pv 5) pa_nil))))))))))

/-! ### _law_way -/
abbrev s_L_way : Stmt := top 55
def sp_L_way (K : PySem.W.Frag) (C : CA) : Sp := fun vs H Q _ => ∃ (m c : Addr) (v : V) (s : Sta) (M : Nat), vs = [.ref m, v] ∧ Hand H m c ∧ Im H v (stD s) ∧ StOk M s ∧
  ∀ (w : Addr) (x y z : V) (ps : List (Nat × Nat)) (H' : Hp), KL m H H' → Hand H' m c → rowR s ps → ps.length ≤ 200 → overR (runR s ps) → H' w = some (.tup [x, y, z]) → Im H' x (.tuple (ps.map pd)) → Im H' y (stD (runR s ps)) → Im H' z (.tuple ((amtsR s ps).map fr)) → Q (.ref w) H'

@[reducible] def N_L_way : List Str := ["_law_hand_here", "_law_sums_here"]
def t_L_way (K : PySem.W.Frag) (C : CA) : TS :=
  (tRet (tCall (sp_L_row K C) [] E0 (tCons (tVar 0) (tCons (tVar 1) (tCons (tOp oAdd (tCB (cLen K) (tCons (tOp (rIxT K) (tVar 1) (tC (.int 0))) tNil)) (tCB (cLen K) (tCons (tOp (rIxT K) (tVar 1) (tC (.int 1))) tNil))) tNil)))))

theorem rd_L_way {K : PySem.W.Frag} {C : CA} {vs : List V} {H : Hp} {Q : VK} {E : XK} (h : sp_L_way K C vs H Q E) : t_L_way K C { nx := fun _ H' => Q .non H', rt := Q } (start N_L_way vs) H := by
  obtain ⟨m, c, v, s, M, rfl, hm, hv, hs, q⟩ := h
  obtain ⟨a, x, y, rfl, ha, hx, hy⟩ := Im.st_at hv
  obtain ⟨ax, xs, rfl, hax, hlx⟩ := hx.tup_at
  obtain ⟨ay, ys, rfl, hay, hly⟩ := hy.tup_at
  have lx : xs.length = s.1.length := by rw [hlx.length, List.length_map]
  have ly : ys.length = s.2.length := by rw [hly.length, List.length_map]
  have hlo := hs.lo
  have hld := hs.ld
  unfold t_L_way
  walk_at "go"
  refine ⟨m, c, .ref a, s, M, xs.length + ys.length, by push_cast; rfl, hm, hv, hs, by omega, fun w x y z ps H1 kl1 hm1 hr hl ho e1 ex ey ez => ?_⟩
  walk_at "go"
  refine q w x y z ps H1 kl1 hm1 hr (by omega) ?_ e1 ex ey ez
  rcases Nat.lt_or_ge ps.length (xs.length + ys.length) with hlt | hge
  · exact ho hlt
  · refine over_of_nz ?_
    have h1 := nzR_run hr
    have h2 := nzL_le s.1
    have h3 := nzL_le s.2
    unfold nzR at h1 ⊢
    omega

theorem sc_L_way : FnScope N_L_way ["_law_hand_here", "_law_sums_here"] (defScope s_L_way) := ⟨rfl, rfl, rfl, by decide +kernel, rfl, by decide +kernel, by decide +kernel⟩
theorem ok_L_way {P : Program} {w : World} {K : PySem.W.Frag} {mg : Str → Option Value} {base : Heap} {C : CA} {f : Addr} {fd : FuncData} (T : CT K C) (TT : CTT K C) (B : Bi mg C) (F : Fun K "_law_way" "_law_way" s_L_way f fd) (D_L_row : Okd P w K mg base 5 "_law_row" ["_law_hand_here", "_law_sums_here", "_law_most"] (sp_L_row K C)) : FnOk P w K mg base CX0 6 f fd ["_law_hand_here", "_law_sums_here"] (sp_L_way K C) := by
  refine F.ok sc_L_way (fun vs H Q E h => ?_) (fun cdv A outer s H vs Q E hr h => ⟨t_L_way K C, ?_, rd_L_way h⟩)
  · obtain ⟨_, _, _, _, _, rfl, _⟩ := h
    rfl
  · exact (pss_one (ps_ret (pe_callD D_L_row (hr.mono (by decide)) (pa_cons (pv 0) (pa_cons (pv 1) (pa_cons (pe_op op_add (pe_callB call_len (by rfl) B.b_len bt_len (pa_cons (pe_ix ix_tup (pv 1) pe_int (fun _ _ => rfl)) pa_nil)) (pe_callB call_len (by rfl) B.b_len bt_len (pa_cons (pe_ix ix_tup (pv 1) pe_int (fun _ _ => rfl)) pa_nil))) pa_nil))))))

/-! ### _law_doubles -/
abbrev s_L_doubles : Stmt := top 56
def sp_L_doubles (K : PySem.W.Frag) (C : CA) : Sp := fun vs H Q _ => ∃ (v w : V) (s : Sta) (ps : List (Nat × Nat)) (M : Nat), vs = [v, w] ∧ Im H v (stD s) ∧ Im H w (.tuple (ps.map pd)) ∧ StOk M s ∧ rowR s ps ∧ ps.length ≤ 200 ∧ Ret H Q (natsD (dblR s 0 ps))

@[reducible] def N_L_doubles : List Str := ["_law_sums_here", "_law_way_here", "_law_state", "_law_found", "_law_place"]
def t_L_doubles (K : PySem.W.Frag) (C : CA) : TS :=
  (tSeq (tAsg (tVar 0) (gName 2)) (tSeq (tAsg (tLst tNil) (gName 3)) (tSeq (tFor (iRng1 (tCons (tCB (cLen K) (tCons (tVar 1) tNil)) tNil)) (gName 4) (tSeq (tAsg (tOp (rIxT K) (tCall (sp_L_go K C) [] E0 (tCons (tVar 2) (tCons (tOp (rIxT K) (tVar 1) (tVar 4)) tNil))) (tC (.int 0))) (gName 2)) (tIfS (tAnd (tTest (tOp (rEqD K) (tOp (rIxT K) (tOp (rIxT K) (tVar 2) (tC (.int 0))) (tOp (rIxT K) (tOp (rIxT K) (tVar 1) (tVar 4)) (tC (.int 0)))) (tTup (tCons (tC (.int 0)) (tCons (tC (.int 1)) tNil))))) (tTest (tOp (rEqD K) (tOp (rIxT K) (tOp (rIxT K) (tVar 2) (tC (.int 1))) (tOp (rIxT K) (tOp (rIxT K) (tVar 1) (tVar 4)) (tC (.int 1)))) (tTup (tCons (tC (.int 0)) (tCons (tC (.int 1)) tNil)))))) (tDrop (tBM K "list" rAppend (tVar 3) (tCons (tVar 4) tNil))) tNext))) (tRet (tCB (cTup K) (tCons (tVar 3) tNil))))))

theorem rd_L_doubles {K : PySem.W.Frag} {C : CA} {vs : List V} {H : Hp} {Q : VK} {E : XK} (h : sp_L_doubles K C vs H Q E) : t_L_doubles K C { nx := fun _ H' => Q .non H', rt := Q } (start N_L_doubles vs) H := by
  obtain ⟨v, w, s, ps, M, rfl, hv, hw, hs, hr, hpl, q⟩ := h
  obtain ⟨a, xs, rfl, ha, hl⟩ := hw.tup_at
  have hxl : xs.length = ps.length := by rw [hl.length, List.length_map]
  unfold t_L_doubles
  walk_at "go"
  rename_i l H1 n1 s1 e1
  refine forR_of (n := xs.length) (fun i σ H' => Same H H' ∧ ∃ (st : V) (x4 : Option V), σ = [some v, some (.ref a), some st, some (.ref l), x4] ∧ Im H' st (stD (runR s (ps.take i))) ∧ H' l = some (.lst ((dblR s 0 (ps.take i)).map fun i => V.int ((i : Nat) : Int)))) (fun _ _ => False) rfl (by omega)
    ⟨s1, v, none, rfl, by simpa [runR] using sm_im s1 hv, by simpa [dblR] using e1⟩ ?_ ?_ (fun _ _ h => h.elim)
  · rintro i σ H2 N B hi ⟨s2, st, x4, rfl, hst, hl2⟩ hN hB
    have hil : i < ps.length := by omega
    obtain ⟨pr, hpr⟩ : ∃ pr, ps[i]? = some pr := ⟨_, List.getElem?_eq_getElem hil⟩
    obtain ⟨u, eu, iu⟩ := hl.get' (i := i) (d := pd pr) (by rw [List.getElem?_map, hpr]; rfl)
    obtain ⟨c, rfl, hc⟩ := iu.pd_at
    have hcan := row_can hr hpr
    have hc2 := s2 _ _ hc
    have ha2 := s2 _ _ ha
    walk_at "go"
    refine i_ixT ha2 (atI_nn eu) ?_
    walk_at "go"
    refine ⟨st, _, runR s (ps.take i), pr, M, rfl, hst, sm_im s2 iu, hs.run (by have := hr; rw [← List.take_append_drop i ps, rowR_append] at this; exact this.1), hcan, fun r H3 s3 hr3 => ?_⟩
    obtain ⟨b, ys, rfl, hb3, lb3⟩ := hr3.tup_at
    obtain ⟨y1, y2, rfl⟩ : ∃ y1 y2, ys = [y1, y2] := by
      match ys, lb3 with
      | [x, y], _ => exact ⟨x, y, rfl⟩
    simp only [ImL] at lb3
    obtain ⟨iy1, iy2, _⟩ := lb3
    have hrun : runR s (ps.take (i + 1)) = payR (runR s (ps.take i)) pr := by
      rw [List.take_add_one, hpr, Option.toList_some, runR_snoc]
    have hdb : dblR s 0 (ps.take (i + 1)) = dblR s 0 (ps.take i) ++ (if (payR (runR s (ps.take i)) pr).1.getD pr.1 0 = 0 ∧ (payR (runR s (ps.take i)) pr).2.getD pr.2 0 = 0 then [i] else []) := by
      rw [List.take_add_one, hpr, Option.toList_some, dblR_app, List.length_take, Nat.min_eq_left (by omega), Nat.zero_add]
    have hlen : (dblR s 0 (ps.take i)).length ≤ 200 := by
      have := dblR_len (ps.take i) s 0
      rw [List.length_take] at this
      omega
    have g1 : pr.1 < (payR (runR s (ps.take i)) pr).1.length := by rw [show payR (runR s (ps.take i)) pr = runR s (ps.take (i + 1)) from hrun.symm]; rw [(run_len s _).1, ← (run_len s (ps.take i)).1]; exact hcan.1
    have g2 : pr.2 < (payR (runR s (ps.take i)) pr).2.length := by rw [show payR (runR s (ps.take i)) pr = runR s (ps.take (i + 1)) from hrun.symm]; rw [(run_len s _).2, ← (run_len s (ps.take i)).2]; exact hcan.2.1
    rw [← hrun] at iy1 hdb g1 g2
    generalize runR s (ps.take (i + 1)) = s9 at *
    obtain ⟨c1, z1, z2, rfl, hc1, hz1, hz2⟩ := Im.st_at iy1
    obtain ⟨d1, w1, rfl, hd1, lw1⟩ := hz1.tup_at
    obtain ⟨d2, w2, rfl, hd2, lw2⟩ := hz2.tup_at
    obtain ⟨u1, eu1, iu1⟩ := lw1.fr_get g1
    obtain ⟨u2, eu2, iu2⟩ := lw2.fr_get g2
    have hl3 := s3 _ _ hl2
    have hc3 := s3 _ _ hc2
    have ha3 := s3 _ _ ha2
    walk_at "go"
    refine i_ixT ha3 (atI_nn eu) ?_
    walk_at "go"
    refine i_ixT hd1 (atI_nn eu1) ?_
    walk_at "go"
    rename_i p4 H4 n4 s4 e4
    refine i_eqD (d := fr (s9.1.getD pr.1 0)) (e := fr 0) (sm_im s4 iu1) (Im.fr_of (by assumption)) (fr_shaped _) (fr_shaped _) ?_
    rw [eqv_fr]
    have hst4 : Im H4 (.ref c1) (stD s9) := sm_im s4 iy1
    have hl4 := s4 _ _ hl3
    have h04 : Same H H4 := (s2.trans s3).trans s4
    walk_at "go"
    refine ite_d (fun h1 => ?_) (fun h1 => ?_)
    · walk_at "go"
      refine i_ixT (s4 _ _ hc1) rfl ?_
      walk_at "go"
      refine i_ixT (s4 _ _ ha3) (atI_nn eu) ?_
      walk_at "go"
      refine i_ixT (s4 _ _ hd2) (atI_nn eu2) ?_
      walk_at "go"
      rename_i p5 H5 n5 s5 e5
      refine i_eqD (d := fr (s9.2.getD pr.2 0)) (e := fr 0) (sm_im s5 (sm_im s4 iu2)) (Im.fr_of (by assumption)) (fr_shaped _) (fr_shaped _) ?_
      rw [eqv_fr]
      walk_at "go"
      refine ite_d (fun h2 => ?_) (fun h2 => ?_)
      · walk_at "go"
        refine i_append (s5 _ _ hl4) (small1000 (by rw [List.length_map]; omega)) (fun H8 k8 e8 => ?_)
        walk_at "go"
        refine hN _ _ ⟨same_loc (h04.trans s5) k8 n1, _, _, rfl, kl_im k8 (sm_im s5 hst4), ?_⟩
        rw [e8, hdb, if_pos ⟨h1, h2⟩, List.map_append]; rfl
      · walk_at "go"
        refine hN _ _ ⟨h04.trans s5, _, _, rfl, sm_im s5 hst4, ?_⟩
        rw [s5 _ _ hl4, hdb, if_neg (fun z => h2 z.2), List.append_nil]
    · walk_at "go"
      refine hN _ _ ⟨h04, _, _, rfl, hst4, ?_⟩
      rw [hl4, hdb, if_neg (fun z => h1 z.1), List.append_nil]
  · rintro σ H2 ⟨s2, st, x4, rfl, hst, hl2⟩
    rw [hxl, List.take_length] at hl2
    walk_at "go"
    refine i_ctupL hl2 (fun p6 H6 n6 s6 e6 => ?_)
    walk_at "go"
    exact q _ _ (s2.trans s6) (Im.tup e6 (im_nats _))

theorem sc_L_doubles : FnScope N_L_doubles ["_law_sums_here", "_law_way_here"] (defScope s_L_doubles) := ⟨rfl, rfl, rfl, by decide +kernel, rfl, by decide +kernel, by decide +kernel⟩
theorem ok_L_doubles {P : Program} {w : World} {K : PySem.W.Frag} {mg : Str → Option Value} {base : Heap} {C : CA} {f : Addr} {fd : FuncData} (T : CT K C) (TT : CTT K C) (B : Bi mg C) (F : Fun K "_law_doubles" "_law_doubles" s_L_doubles f fd) (D_L_go : Okd P w K mg base 4 "_law_go" ["_law_state", "_law_pair"] (sp_L_go K C)) : FnOk P w K mg base CX0 5 f fd ["_law_sums_here", "_law_way_here"] (sp_L_doubles K C) := by
  refine F.ok sc_L_doubles (fun vs H Q E h => ?_) (fun cdv A outer s H vs Q E hr h => ⟨t_L_doubles K C, ?_, rd_L_doubles h⟩)
  · obtain ⟨_, _, _, _, _, rfl, _⟩ := h
    rfl
  · exact (pss_cons (ps_set (i := 2) sc_L_doubles.nd rfl (Or.inl rfl) (pv 0)) (pss_cons (ps_set (i := 3) sc_L_doubles.nd rfl (Or.inl rfl) (pe_lst pa_nil)) (pss_cons (ps_for PassesOwn.never rfl (pi_range1 rfl B.b_range (pa_cons (pe_callB call_len (by rfl) B.b_len bt_len (pa_cons (pv 1) pa_nil)) pa_nil)) (pg_name (i := 4) sc_L_doubles.nd rfl (Or.inl rfl)) (pss_cons (ps_set (i := 2) sc_L_doubles.nd rfl (Or.inl rfl) (pe_ix ix_tup (pe_callD D_L_go (hr.mono (by decide)) (pa_cons (pv 2) (pa_cons (pe_ix ix_tup (pv 1) (pv 4) (fun _ _ => rfl)) pa_nil))) pe_int (fun _ _ => rfl))) (pss_one (ps_if (PW.pt (pw_and (pt_cmpR (op_eqD hr.units) (pe_ix ix_tup (pe_ix ix_tup (pv 2) pe_int (fun _ _ => rfl)) (pe_ix ix_tup (pe_ix ix_tup (pv 1) (pv 4) (fun _ _ => rfl)) pe_int (fun _ _ => rfl)) (fun _ _ => rfl)) (pe_tup (pa_cons pe_int (pa_cons pe_int pa_nil))) (nomark _)) (pw_and1 (pt_cmpR (op_eqD hr.units) (pe_ix ix_tup (pe_ix ix_tup (pv 2) pe_int (fun _ _ => rfl)) (pe_ix ix_tup (pe_ix ix_tup (pv 1) (pv 4) (fun _ _ => rfl)) pe_int (fun _ _ => rfl)) (fun _ _ => rfl)) (pe_tup (pa_cons pe_int (pa_cons pe_int pa_nil))) (nomark _))))) (pss_one (ps_expr (pe_bm PySem.F.plainAttrs_list PySem.F.slot_list_append PySem.F.type_list_append mt_append (pv 3) (pa_cons (pv 4) pa_nil)))) pss_nil)))) (pss_one (ps_ret (pe_callTy call_tuple_of (by rfl) B.b_tuple bt_tuple (pa_cons (pv 3) pa_nil)))))))

/-! ### _law_pieces -/
abbrev s_L_pieces : Stmt := top 57
def sp_L_pieces (K : PySem.W.Frag) (C : CA) : Sp := fun vs H Q _ => ∃ (v w : V) (s : Sta) (ps : List (Nat × Nat)), vs = [v, w] ∧ Im H v (stD s) ∧ Im H w (.tuple (ps.map pd)) ∧ (∀ p ∈ ps, p.1 < s.1.length ∧ p.2 < s.2.length) ∧ s.1.length ≤ 100 ∧ ps.length ≤ 200 ∧
  ∀ (a : Addr) (xs : List V) (gs : List (List Nat × List Nat)) (H' : Hp), Same H H' → H' a = some (.lst xs) → ImL H' xs ((gs.map grpD).mergeSort (PySem.W.dataLe false id)) → Pcs s.1.length s.2.length ps gs → Q (.ref a) H'

@[reducible] def N_L_pieces : List Str := ["_law_sums_here", "_law_way_here", "_law_left", "_law_found", "_law_turn", "_law_owers", "_law_takers", "_law_again", "_law_ower", "_law_taker"]
def t_L_pieces (K : PySem.W.Frag) (C : CA) : TS :=
  (tSeq (tAsg (tLstRg (tRg1 (tCB (cLen K) (tCons (tOp (rIxT K) (tVar 0) (tC (.int 0))) tNil)))) (gName 2)) (tSeq (tAsg (tLst tNil) (gName 3)) (tSeq (tFor (iRng1 (tCons (tCB (cLen K) (tCons (tOp (rIxT K) (tVar 0) (tC (.int 0))) tNil)) tNil)) (gName 4) (tSeq (tIfS (tTest (tOp rEq (tCB (cLen K) (tCons (tVar 2) tNil)) (tC (.int 0)))) tBreak tNext) (tSeq (tAsg (tLst (tCons (tOp (rIxL K) (tVar 2) (tC (.int 0))) tNil)) (gName 5)) (tSeq (tAsg (tLst tNil) (gName 6)) (tSeq (tFor (iRng1 (tCons (tOp oAdd (tCB (cLen K) (tCons (tVar 1) tNil)) (tC (.int 1))) tNil)) (gName 7) (tFor (iTup K (tVar 1)) (gTup K 2 (gCons (gName 8) (gCons (gName 9) gNil))) (tSeq (tIfS (tAnd (tTest (tOp (rIn K false) (tVar 8) (tVar 5))) (tTest (tOp (rIn K true) (tVar 9) (tVar 6)))) (tDrop (tBM K "list" rAppend (tVar 6) (tCons (tVar 9) tNil))) tNext) (tIfS (tAnd (tTest (tOp (rIn K false) (tVar 9) (tVar 6))) (tTest (tOp (rIn K true) (tVar 8) (tVar 5)))) (tDrop (tBM K "list" rAppend (tVar 5) (tCons (tVar 8) tNil))) tNext)))) (tSeq (tAsg (tLc (iList K (tVar 2)) (gName 8) (tTest (tOp (rIn K true) (tVar 8) (tVar 5))) (tVar 8) [8]) (gName 2)) (tDrop (tBM K "list" rAppend (tVar 3) (tCons (tTup (tCons (tCB (cTup K) (tCons (tCB (rSortedI K) (tCons (tVar 5) tNil)) tNil)) (tCons (tCB (cTup K) (tCons (tCB (rSortedI K) (tCons (tVar 6) tNil)) tNil)) tNil))) tNil))))))))) (tRet (tCB (rSortedD K) (tCons (tVar 3) tNil))))))

theorem im_nats2 {H : Hp} {p : Addr} {is : List Nat} (h : H p = some (.tup (is.map fun i => V.int ((i : Nat) : Int)))) : Im H (.ref p) (natsD is) := Im.tup h (im_nats is)
theorem iml_app {H : Hp} : ∀ {xs ys : List V} {ds es : List PyData}, ImL H xs ds → ImL H ys es → ImL H (xs ++ ys) (ds ++ es)
  | [], _, [], _, _, h => h
  | x :: xs, ys, d :: ds, es, h, k => by
    simp only [ImL, List.cons_append] at *
    exact ⟨h.1, iml_app h.2 k⟩
  | [], _, _ :: _, _, h, _ => by simp [ImL] at h
  | _ :: _, _, [], _, h, _ => by simp [ImL] at h
theorem rd_L_pieces {K : PySem.W.Frag} {C : CA} {vs : List V} {H : Hp} {Q : VK} {E : XK} (h : sp_L_pieces K C vs H Q E) : t_L_pieces K C { nx := fun _ H' => Q .non H', rt := Q } (start N_L_pieces vs) H := by
  obtain ⟨v, w, s, ps, rfl, hv, hw, hps, hn, hpl, q⟩ := h
  obtain ⟨a, xs, rfl, ha, hl⟩ := hw.tup_at
  obtain ⟨g, x, y, rfl, hg, hx, hy⟩ := Im.st_at hv
  obtain ⟨ax, xo, rfl, hax, hlx⟩ := hx.tup_at
  have hxl : xs.length = ps.length := by rw [hl.length, List.length_map]
  have lo : xo.length = s.1.length := by rw [hlx.length, List.length_map]
  have e0 : sizeLine = 16777216 := PySem.sizeLine_eq
  unfold t_L_pieces
  walk_at "go"
  rw [lo]
  refine rg_lst (n := s.1.length) (by omega) (fun p2 H2 n2 s2 e2 => ?_)
  walk_at "go"
  rename_i l3 H3 n3 s3 e3
  have h03 : Same H H3 := s2.trans s3
  refine forR_of (n := xo.length) (fun t σ H' => Same H H' ∧ ∃ (pl : Addr) (left : List Nat) (fs : List Two) (ys : List V) (x4 x5 x6 x7 x8 x9 : Option V), σ = [some (.ref g), some (.ref a), some (.ref pl), some (.ref l3), x4, x5, x6, x7, x8, x9] ∧
      H' pl = some (.lst (left.map fun i => V.int ((i : Nat) : Int))) ∧ H' l3 = some (.lst ys) ∧ ImL H' ys (fs.map grpD) ∧ OwnInv s.1.length s.2.length ps left fs ∧ left.length + t ≤ s.1.length ∧ fs.length ≤ t)
    (fun σ H' => Same H H' ∧ ∃ (pl : Addr) (fs : List Two) (ys : List V) (x4 x5 x6 x7 x8 x9 : Option V), σ = [some (.ref g), some (.ref a), some (.ref pl), some (.ref l3), x4, x5, x6, x7, x8, x9] ∧ H' l3 = some (.lst ys) ∧ ImL H' ys (fs.map grpD) ∧ Pcs s.1.length s.2.length ps fs) rfl (by omega)
    ⟨h03, p2, List.range s.1.length, [], [], none, none, none, none, none, none, rfl, s3 _ _ e2, e3, by simp [ImL], own_start _ _ _, by simp, by simp⟩ ?_ ?_ ?_
  · rintro t σ H4 N B ht ⟨s4, pl, left, fs, ys, x4, x5, x6, x7, x8, x9, rfl, hpl4, hl4, hys, hown, hlen, hfl⟩ hN hB
    walk_at "go"
    refine ite_d (fun h0 => ?_) (fun h0 => ?_)
    · have hl0 : left = [] := by
        have : (left.length : Int) = 0 := by simpa using h0
        exact List.eq_nil_of_length_eq_zero (by omega)
      subst hl0
      walk_at "go"
      exact hB _ _ ⟨s4, pl, fs, ys, _, _, _, _, _, _, rfl, hl4, hys, own_end hown⟩
    match left, hpl4, hown, hlen, h0 with
    | [], _, _, _, h0 => exact absurd rfl h0
    | i0 :: l, hpl4, hown, hlen, _ =>
      obtain ⟨S, hS, hinv, hS1, hS2⟩ := found_all (m := s.2.length) hps (hown.2.1 i0 List.mem_cons_self)
      have ha4 := s4 _ _ ha
      walk_at "go"
      refine i_ixL hpl4 (show atI _ (((0 : Nat)) : Int) = some (.int ((i0 : Nat) : Int)) from atI_nn rfl) ?_
      walk_at "go"
      rename_i p5 H5 n5 s5 e5 p6 H6 n6 s6 e6
      have h65 : p6 ≠ p5 := ne_fresh n6 e5
      have e5' := s6 _ _ e5
      have ha6 := s6 _ _ (s5 _ _ ha4)
      have hpl6 := s6 _ _ (s5 _ _ hpl4)
      have hl6 := s6 _ _ (s5 _ _ hl4)
      have hys6 : ImL H6 ys (fs.map grpD) := sm_iml s6 (sm_iml s5 hys)
      have h06 : Same H H6 := s4.trans (s5.trans s6)
      have nl5 : p5 ≠ pl := ne_fresh n5 hpl4
      have nl6 : p6 ≠ pl := ne_fresh n6 (s5 _ _ hpl4)
      have nf5 : p5 ≠ l3 := ne_fresh n5 hl4
      have nf6 : p6 ≠ l3 := ne_fresh n6 (s5 _ _ hl4)
      have f5 : H p5 = none := s4.free n5
      have f6 : H p6 = none := s4.free (s5.free n6)
      walk_at "go"
      refine forR_of (n := xs.length + 1) (fun k σ H' => KS [p5, p6] H6 H' ∧ ∃ x7 x8 x9 : Option V, σ = [some (.ref g), some (.ref a), some (.ref pl), some (.ref l3), some (.int (t : Nat)), some (.ref p5), some (.ref p6), x7, x8, x9] ∧
          H' p5 = some (.lst ((sweeps ps k ([i0], [])).1.map fun i => V.int ((i : Nat) : Int))) ∧ H' p6 = some (.lst ((sweeps ps k ([i0], [])).2.map fun i => V.int ((i : Nat) : Int)))) (fun _ _ => False) (by omega) (by omega)
        ⟨Same.ks (Same.refl _), _, _, _, rfl, e5', e6⟩ ?_ ?_ (fun _ _ h => h.elim)
      · rintro k σ H7 N2 B2 hk ⟨k7, x7, x8, x9, rfl, h5, h6⟩ hN2 hB2
        have hsl := sweeps_len ps ([i0], []) k
        have hkk : k * ps.length ≤ 201 * 200 := Nat.mul_le_mul (by omega) hpl
        walk_at "go"
        refine forT_of' (k7.tup _ _ ha6) (fun i σ H' => KS [p5, p6] H6 H' ∧ ∃ x8 x9 : Option V, σ = [some (.ref g), some (.ref a), some (.ref pl), some (.ref l3), some (.int (t : Nat)), some (.ref p5), some (.ref p6), some (.int (k : Nat)), x8, x9] ∧
            H' p5 = some (.lst (((ps.take i).foldl clStep (sweeps ps k ([i0], []))).1.map fun i => V.int ((i : Nat) : Int))) ∧ H' p6 = some (.lst (((ps.take i).foldl clStep (sweeps ps k ([i0], []))).2.map fun i => V.int ((i : Nat) : Int)))) (fun _ _ => False)
          ⟨k7, _, _, rfl, h5, h6⟩ (fun i σ H' p => p.1.tup _ _ ha6) ?_ ?_ (fun _ _ h => h.elim)
        · rintro i x σ H8 N3 B3 hxi ⟨k8, x8, x9, rfl, h58, h68⟩ hN3 hB3
          obtain ⟨u, hu, hi⟩ := hl.get hxi
          obtain ⟨pr, hpr, rfl⟩ := get_pds hu
          obtain ⟨c, rfl, hc⟩ := hi.pd_at
          have hc8 : H8 c = some (.tup [.int (pr.1 : Nat), .int (pr.2 : Nat)]) := k8.tup _ _ (h06 _ _ hc)
          have hfl := fold_len (ps.take i) (sweeps ps k ([i0], []))
          rw [List.length_take] at hfl
          have hnx : (ps.take (i + 1)).foldl clStep (sweeps ps k ([i0], [])) = clStep ((ps.take i).foldl clStep (sweeps ps k ([i0], []))) pr := by
            rw [List.take_add_one, hpr, Option.toList_some, List.foldl_append]; rfl
          rw [hnx] at hN3
          obtain ⟨b1, b2⟩ : ((ps.take i).foldl clStep (sweeps ps k ([i0], []))).1.length < 16777216 ∧ ((ps.take i).foldl clStep (sweeps ps k ([i0], []))).2.length < 16777216 := by
            simp only [List.length_cons, List.length_nil] at hsl
            omega
          generalize (ps.take i).foldl clStep (sweeps ps k ([i0], [])) = S1 at *
          obtain ⟨O, T⟩ := S1
          simp only at h58 h68 b1 b2
          clear hsl hfl hnx
          walk_at "go"
          refine i_inN h58 ⟨_, rfl, ?_⟩
          refine ite_d (fun a1 => ?_) (fun a1 => ?_)
          · walk_at "go"
            refine i_ninN h68 ⟨_, rfl, ?_⟩
            refine ite_nd (fun a2 => ?_) (fun a2 => ?_)
            · rw [clStep_a ⟨a1, a2⟩] at hN3
              walk_at "go"
              refine i_append h68 (by rw [List.length_map]; omega) (fun H9 k9 e9 => ?_)
              have e9' : H9 p6 = some (.lst ((T ++ [pr.2]).map fun i => V.int ((i : Nat) : Int))) := by rw [e9, List.map_append]; rfl
              have h59 := k9.keep _ _ h65.symm h58
              walk_at "go"
              refine i_inN e9' ⟨_, rfl, ?_⟩
              refine ite_d (fun a3 => ?_) (fun a3 => absurd (by simp) a3)
              walk_at "go"
              refine i_ninN h59 ⟨_, rfl, ?_⟩
              refine ite_nd (fun a4 => absurd a1 a4) (fun a4 => ?_)
              walk_at "go"
              exact hN3 _ _ ⟨k8.trans (k9.ks (by simp)), _, _, rfl, h59, e9'⟩
            · rw [clStep_c (fun z => z.2 a2) (fun z => z.2 a1)] at hN3
              walk_at "go"
              refine i_inN h68 ⟨_, rfl, ?_⟩
              refine ite_d (fun a3 => ?_) (fun a3 => absurd a2 a3)
              walk_at "go"
              refine i_ninN h58 ⟨_, rfl, ?_⟩
              refine ite_nd (fun a4 => absurd a1 a4) (fun a4 => ?_)
              walk_at "go"
              exact hN3 _ _ ⟨k8, _, _, rfl, h58, h68⟩
          · walk_at "go"
            refine i_inN h68 ⟨_, rfl, ?_⟩
            refine ite_d (fun a3 => ?_) (fun a3 => ?_)
            · rw [clStep_b ⟨a3, a1⟩] at hN3
              walk_at "go"
              refine i_ninN h58 ⟨_, rfl, ?_⟩
              refine ite_nd (fun a4 => ?_) (fun a4 => absurd a4 a1)
              walk_at "go"
              refine i_append h58 (by rw [List.length_map]; omega) (fun H9 k9 e9 => ?_)
              have e9' : H9 p5 = some (.lst ((O ++ [pr.1]).map fun i => V.int ((i : Nat) : Int))) := by rw [e9, List.map_append]; rfl
              walk_at "go"
              exact hN3 _ _ ⟨k8.trans (k9.ks (by simp)), _, _, rfl, e9', k9.keep _ _ h65 h68⟩
            · rw [clStep_c (fun z => a1 z.1) (fun z => a3 z.1)] at hN3
              walk_at "go"
              exact hN3 _ _ ⟨k8, _, _, rfl, h58, h68⟩
        · rintro σ H8 ⟨k8, x8, x9, rfl, h58, h68⟩
          rw [hxl, List.take_length] at h58 h68
          exact hN2 _ _ ⟨k8, _, _, _, rfl, h58, h68⟩
      · rintro σ H7 ⟨k7, x7, x8, x9, rfl, h5, h6⟩
        rw [hxl, ← hS] at h5 h6
        have hpl7 := k7.keep pl _ (by simp [nl5.symm, nl6.symm]) hpl6
        have hl7 := k7.keep l3 _ (by simp [nf5.symm, nf6.symm]) hl6
        have hys7 : ImL H7 ys (fs.map grpD) := ks_iml k7 hys6
        have h07 : Same H H7 := same_ks h06 k7 fun c hc => by
          rcases List.mem_cons.mp hc with rfl | hc
          · exact f5
          · have : c = p6 := by simpa using hc
            subst this; exact f6
        walk_at "go"
        refine lcFl_of (fun i => !decide (i ∈ S.1)) hpl7 (by simp only [List.length_cons] at hlen ⊢; omega) (fun z H8 N3 NE hz s8 hNE hN3 => ?_) (fun D8 H8 n8 s8 e8 => ?_)
        · walk_at "go"
          refine ⟨rfl, ?_⟩
          walk_at "go"
          refine i_ninN (s8 _ _ h5) ⟨_, rfl, ?_⟩
          refine ite_nd (fun a1 => ?_) (fun a1 => ?_)
          · walk_at "go"
            exact hNE _ (by simp [a1]) (Same.refl _)
          · exact hN3 _ (by simp [a1]) (Same.refl _)
        · walk_at "go"
          have h5' : H8 p5 = some (.lst ((S.1.map fun i => ((i : Nat) : Int)).map V.int)) := by rw [s8 _ _ h5, List.map_map]; rfl
          have h6' : H8 p6 = some (.lst ((S.2.map fun i => ((i : Nat) : Int)).map V.int)) := by rw [s8 _ _ h6, List.map_map]; rfl
          have hl8 := s8 _ _ hl7
          have hys8 : ImL H8 ys (fs.map grpD) := sm_iml s8 hys7
          have h08 : Same H H8 := h07.trans s8
          refine i_sortedI h5' (fun ns1 q9 H9 pm1 sr1 n9 s9 e9 => ?_)
          obtain ⟨g1, rfl, asc1, mem1, len1⟩ := sorted_nats hinv.2.2.2.1 pm1 sr1
          have e9' : H9 q9 = some (.lst (g1.map fun i => V.int ((i : Nat) : Int))) := by rw [e9, List.map_map]; rfl
          walk_at "go"
          refine i_ctupL e9' (fun q10 H10 n10 s10 e10 => ?_)
          have i10 : Im H10 (.ref q10) (natsD g1) := im_nats2 e10
          walk_at "go"
          refine i_sortedI (s10 _ _ (s9 _ _ h6')) (fun ns2 q11 H11 pm2 sr2 n11 s11 e11 => ?_)
          obtain ⟨g2, rfl, asc2, mem2, len2⟩ := sorted_nats hinv.2.2.2.2 pm2 sr2
          have e11' : H11 q11 = some (.lst (g2.map fun i => V.int ((i : Nat) : Int))) := by rw [e11, List.map_map]; rfl
          walk_at "go"
          refine i_ctupL e11' (fun q12 H12 n12 s12 e12 => ?_)
          have i12 : Im H12 (.ref q12) (natsD g2) := im_nats2 e12
          have i10' : Im H12 (.ref q10) (natsD g1) := sm_im s12 (sm_im s11 i10)
          have s812 : Same H8 H12 := s9.trans (s10.trans (s11.trans s12))
          walk_at "go"
          rename_i q13 H13 n13 s13 e13
          have i13 : Im H13 (.ref q13) (grpD (g1, g2)) := Im.tup e13 (by simp only [ImL]; exact ⟨sm_im s13 i10', sm_im s13 i12, trivial⟩)
          have s813 : Same H8 H13 := s812.trans s13
          have hyl : ys.length = fs.length := by rw [hys8.length, List.length_map]
          refine i_append (s813 _ _ hl8) (by omega) (fun H14 k14 e14 => ?_)
          walk_at "go"
          have st := own_step (m := s.2.length) (ps := ps) (s := S) (g := (g1, g2)) hown hS1 hS2 mem1 mem2 asc1 asc2
          have dl : D8 ≠ l3 := ne_fresh n8 hl7
          refine hN _ _ ⟨same_loc (h08.trans s813) k14 (s2.free n3), D8, _, fs ++ [(g1, g2)], ys ++ [.ref q13], _, _, _, _, _, _, rfl, k14.keep _ _ dl (s813 _ _ e8), e14, ?_, st.1, ?_, by simp; omega⟩
          · rw [List.map_append]
            exact iml_app (kl_iml k14 (sm_iml s813 hys8)) (by simp only [List.map_cons, List.map_nil, ImL]; exact ⟨kl_im k14 i13, trivial⟩)
          · have := st.2
            simp only [List.length_cons] at hlen
            omega
  · rintro σ H4 ⟨s4, pl, left, fs, ys, x4, x5, x6, x7, x8, x9, rfl, hpl4, hl4, hys, hown, hlen, hfl⟩
    have hl0 : left = [] := List.eq_nil_of_length_eq_zero (by omega)
    subst hl0
    walk_at "go"
    refine i_sortedD hl4 hys (PySem.W.AllAlike.of grpD_alike) (PySem.W.Sortable.tuples fun b => ⟨_, _, rfl⟩) (fun z hz4 => ?_) (fun zs p6 H6 n6 s6 e6 i6 => ?_)
    · obtain ⟨g, _, rfl⟩ := List.mem_map.mp hz4
      exact grpD_depth g
    walk_at "go"
    exact q _ _ _ _ (s4.trans s6) e6 i6 (own_end hown)
  · rintro σ H4 ⟨s4, pl, fs, ys, x4, x5, x6, x7, x8, x9, rfl, hl4, hys, hp⟩
    walk_at "go"
    refine i_sortedD hl4 hys (PySem.W.AllAlike.of grpD_alike) (PySem.W.Sortable.tuples fun b => ⟨_, _, rfl⟩) (fun z hz4 => ?_) (fun zs p6 H6 n6 s6 e6 i6 => ?_)
    · obtain ⟨g, _, rfl⟩ := List.mem_map.mp hz4
      exact grpD_depth g
    walk_at "go"
    exact q _ _ _ _ (s4.trans s6) e6 i6 hp

theorem sc_L_pieces : FnScope N_L_pieces ["_law_sums_here", "_law_way_here"] (defScope s_L_pieces) := ⟨rfl, rfl, rfl, by decide +kernel, rfl, by decide +kernel, by decide +kernel⟩
theorem ok_L_pieces {P : Program} {w : World} {K : PySem.W.Frag} {mg : Str → Option Value} {base : Heap} {C : CA} {f : Addr} {fd : FuncData} (T : CT K C) (TT : CTT K C) (B : Bi mg C) (F : Fun K "_law_pieces" "_law_pieces" s_L_pieces f fd)  : FnOk P w K mg base CX0 1 f fd ["_law_sums_here", "_law_way_here"] (sp_L_pieces K C) := by
  refine F.ok sc_L_pieces (fun vs H Q E h => ?_) (fun cdv A outer s H vs Q E hr h => ⟨t_L_pieces K C, ?_, rd_L_pieces h⟩)
  · obtain ⟨_, _, _, _, rfl, _⟩ := h
    rfl
  · exact (pss_cons (ps_set (i := 2) sc_L_pieces.nd rfl (Or.inl rfl) (pe_listRg rfl rfl B.b_list (prg_1 rfl B.b_range (pe_callB call_len (by rfl) B.b_len bt_len (pa_cons (pe_ix ix_tup (pv 0) pe_int (fun _ _ => rfl)) pa_nil))))) (pss_cons (ps_set (i := 3) sc_L_pieces.nd rfl (Or.inl rfl) (pe_lst pa_nil)) (pss_cons (ps_for PassesOwn.never rfl (pi_range1 rfl B.b_range (pa_cons (pe_callB call_len (by rfl) B.b_len bt_len (pa_cons (pe_ix ix_tup (pv 0) pe_int (fun _ _ => rfl)) pa_nil)) pa_nil)) (pg_name (i := 4) sc_L_pieces.nd rfl (Or.inl rfl)) (pss_cons (ps_if (pt_cmpR op_eq (pe_callB call_len (by rfl) B.b_len bt_len (pa_cons (pv 2) pa_nil)) pe_int (nomark _)) (pss_one ps_break) pss_nil) (pss_cons (ps_set (i := 5) sc_L_pieces.nd rfl (Or.inr rfl) (pe_lst (pa_cons (pe_ix ix_list (pv 2) pe_int (fun _ _ => rfl)) pa_nil))) (pss_cons (ps_set (i := 6) sc_L_pieces.nd rfl (Or.inl rfl) (pe_lst pa_nil)) (pss_cons (ps_for PassesOwn.never rfl (pi_range1 rfl B.b_range (pa_cons (pe_op op_add (pe_callB call_len (by rfl) B.b_len bt_len (pa_cons (pv 1) pa_nil)) pe_int) pa_nil)) (pg_name (i := 7) sc_L_pieces.nd rfl (Or.inl rfl)) (pss_one (ps_for PassesOwn.never rfl (pi_tup (pv 1)) (pg_tup rfl (pgs_cons (pg_name (i := 8) sc_L_pieces.nd rfl (Or.inl rfl)) (pgs_cons (pg_name (i := 9) sc_L_pieces.nd rfl (Or.inl rfl)) pgs_nil))) (pss_cons (ps_if (PW.pt (pw_and (pt_cmpR op_in_seq (pv 8) (pv 5) (by rfl)) (pw_and1 (pt_cmpR op_notIn_seq (pv 9) (pv 6) (by rfl))))) (pss_one (ps_expr (pe_bm PySem.F.plainAttrs_list PySem.F.slot_list_append PySem.F.type_list_append mt_append (pv 6) (pa_cons (pv 9) pa_nil)))) pss_nil) (pss_one (ps_if (PW.pt (pw_and (pt_cmpR op_in_seq (pv 9) (pv 6) (by rfl)) (pw_and1 (pt_cmpR op_notIn_seq (pv 8) (pv 5) (by rfl))))) (pss_one (ps_expr (pe_bm PySem.F.plainAttrs_list PySem.F.slot_list_append PySem.F.type_list_append mt_append (pv 5) (pa_cons (pv 8) pa_nil)))) pss_nil)))))) (pss_cons (ps_setLc (i := 2) (own := [("_law_ower", 8)]) (g := (gName 8)) (tt := (tTest (tOp (rIn K true) (tVar 8) (tVar 5)))) rfl sc_L_pieces.nd rfl rfl (sw_true rfl rfl rfl (by decide +kernel)) (pi_list (pv 2)) (blkOk_by (own := [("_law_ower", 8)]) (N := N_L_pieces) (sc := defScope s_L_pieces) (by decide +kernel)) (fun _ _ _ _ _ => (pg_name (i := 8) sc_L_pieces.nd rfl (Or.inl rfl))) (fun _ _ _ _ _ => (pts_one (pt_cmpR op_notIn_seq (pv 8) (pv 5) (by rfl)))) (fun _ _ _ _ _ => (pv 8))) (pss_one (ps_expr (pe_bm PySem.F.plainAttrs_list PySem.F.slot_list_append PySem.F.type_list_append mt_append (pv 3) (pa_cons (pe_tup (pa_cons (pe_callTy call_tuple_of (by rfl) B.b_tuple bt_tuple (pa_cons (pe_callB cr_sortedI (by rfl) B.b_sorted bt_sorted (pa_cons (pv 5) pa_nil)) pa_nil)) (pa_cons (pe_callTy call_tuple_of (by rfl) B.b_tuple bt_tuple (pa_cons (pe_callB cr_sortedI (by rfl) B.b_sorted bt_sorted (pa_cons (pv 6) pa_nil)) pa_nil)) pa_nil))) pa_nil)))))))))) (pss_one (ps_ret (pe_callB (cr_sortedD hr.units) (by rfl) B.b_sorted bt_sorted (pa_cons (pv 3) pa_nil)))))))

/-! ### law -/
abbrev s_law : Stmt := top 58
def sp_law (K : PySem.W.Frag) (C : CA) : Sp := fun vs H Q _ => ∃ (a : Addr) (ns : List Int), vs = [.ref a] ∧ SqL K H a (ns.map V.int) ∧ ns.length ≤ 63 ∧ ∀ H', Q (.bl true) H'

@[reducible] def N_law : List Str := ["_law_script", "_law_hand_here", "_law_turn", "_law_sums_here", "_law_evening", "_law_way_here", "_law_due", "_law_told", "_law_group"]
def t_law (K : PySem.W.Frag) (C : CA) : TS :=
  (tSeq (tAsg (tCall (sp_L_hand K C) [] E0 (tCons (tVar 0) tNil)) (gName 1)) (tSeq (tFor (iRng1 (tCons (tC (.int 4)) tNil)) (gName 2) (tSeq (tAsg (tCall (sp_L_sums K C) [] E0 (tCons (tVar 1) (tCons (tC (.int 6)) (tCons (tOp (rIxL K) (tLst (tCons (tC (.int 4)) (tCons (tC (.int 9)) (tCons (tC (.int 60)) tNil)))) (tCall (sp_L_draw K C) [] E0 (tCons (tVar 1) (tCons (tC (.int 3)) tNil)))) tNil)))) (gName 3)) (tSeq (tAsg (tCall (sp_L_made K C) [] E0 (tCons (tVar 3) tNil)) (gName 4)) (tSeq (tAsg (tOp (rIxT K) (tCall (sp_L_way K C) [] E0 (tCons (tVar 1) (tCons (tVar 3) tNil))) (tC (.int 0))) (gName 5)) (tSeq (tAsg (tCall (sp_L_pieces K C) [] E0 (tCons (tVar 3) (tCons (tVar 5) tNil))) (gName 6)) (tSeq (tAsg (tCall (sp_pieces K C) [] E0 (tCons (tVar 4) (tCons (tVar 5) tNil))) (gName 7)) (tSeq (tIfS (tOr (tTest (tOp (rNeD K) (tCall (sp_doubles K C) [] E0 (tCons (tVar 4) (tCons (tVar 5) tNil))) (tCall (sp_L_doubles K C) [] E0 (tCons (tVar 3) (tCons (tVar 5) tNil))))) (tOr (tTest (tOp (rNeD K) (tVar 7) (tVar 6))) (tNot (tB (tCB (rIsi K) (tCons (tVar 7) (tCons (tC (.ty "list")) tNil))))))) (tRet (tC (.bl false))) tNext) (tSeq (tIfS (tTest (tOp oGt (tCB (cLen K) (tCons (tLc (iList K (tVar 7)) (gName 8) (tTest (tOp rNotB (tCall (sp_is_even K C) [] E0 (tCons (tVar 4) (tCons (tVar 8) tNil))) (tC (.bl true)))) (tVar 8) [8]) tNil)) (tC (.int 0)))) (tRet (tC (.bl false))) tNext) (tSeq (tDrop (tBM K "list" rAppend (tVar 7) (tCons (tC .non) tNil))) (tIfS (tTest (tOp (rNeD K) (tCall (sp_pieces K C) [] E0 (tCons (tVar 4) (tCons (tVar 5) tNil))) (tVar 6))) (tRet (tC (.bl false))) tNext)))))))))) (tRet (tC (.bl true)))))

theorem num_posR {q : Rat} : 0 < q.num ↔ 0 < q := by
  rw [Rat.lt_iff]
  have e1 : (0 : Rat).num = 0 := rfl
  have e2 : (0 : Rat).den = 1 := rfl
  rw [e1, e2]
  constructor <;> intro h <;> simpa using h
theorem kit_ll : kitB "list" "list" = some true := by decide +kernel
theorem i_isi_ll {K : PySem.W.Frag} {H : Hp} {Q : VK} {a : Addr} {xs : List V} (h : H a = some (.lst xs)) (q : Q (.bl true) H) : rIsi K [.ref a, .ty "list"] H Q := i_isiB (.base (.lst h)) kit_ll q
theorem Drawn.mono {a b : Nat} {o d : List Rat} (h : Drawn a o d) (l : a ≤ b) : Drawn b o d := by
  obtain ⟨h1, h2, h3, h4, h5⟩ := h
  exact ⟨h1, by omega, h3, by omega, h5⟩
theorem rd_law {K : PySem.W.Frag} {C : CA} {vs : List V} {H : Hp} {Q : VK} {E : XK} (h : sp_law K C vs H Q E) : t_law K C { nx := fun _ H' => Q .non H', rt := Q } (start N_law vs) H := by
  obtain ⟨a, ns, rfl, hs, hn, q⟩ := h
  unfold t_law
  walk_at "go"
  refine ⟨a, ns, rfl, hs, hn, fun m c H1 s1 hm1 => ?_⟩
  walk_at "go"
  refine forR_of (n := 4) (fun i σ H' => Hand H' m c ∧ ∃ x2 x3 x4 x5 x6 x7 x8 : Option V, σ = [some (.ref a), some (.ref m), x2, x3, x4, x5, x6, x7, x8]) (fun _ _ => False) rfl (by decide)
    ⟨hm1, _, _, _, _, _, _, _, rfl⟩ ?_ ?_ (fun _ _ h => h.elim)
  · rintro i σ H2 N B hi ⟨hm2, x2, x3, x4, x5, x6, x7, x8, rfl⟩ hN hB
    walk_at "go"
    rename_i p0 G0 n0 t0 e0
    refine ⟨m, c, 3, rfl, sm_hand t0 hm2, by decide, by decide, fun d0 H3 d00 d01 kl3 hm3 => ?_⟩
    have p0m : p0 ≠ m := (hand_ne n0 hm2).1.symm
    obtain ⟨bv, hbv, ev⟩ := atI_lt (xs := [V.int 4, V.int 9, V.int 60]) d00 d01
    have hside : ∃ k : Nat, bv = .int (k : Nat) ∧ 1 ≤ k ∧ k ≤ 60 := by
      simp only [List.mem_cons, List.not_mem_nil, or_false] at hbv
      rcases hbv with rfl | rfl | rfl
      · exact ⟨4, rfl, by decide, by decide⟩
      · exact ⟨9, rfl, by decide, by decide⟩
      · exact ⟨60, rfl, by decide, by decide⟩
    obtain ⟨k, rfl, k1, k2⟩ := hside
    refine i_ixL (kl3.keep _ _ p0m e0) ev ?_
    clear t0 e0 n0 kl3 ev hbv
    walk_at "go"
    refine ⟨m, c, 6, k, rfl, hm3, by decide, by decide, k1, by omega, fun w1 va vb p o d H4 kl4 hm4 hw hp hva hvb D => ?_⟩
    subst hw
    have D' := D.mono (show 6 ≤ 100 by decide)
    obtain ⟨M, hs⟩ := D'.stOk (by decide)
    have hob : Bd 8000 (o ++ d) := D.2.2.2.2.2.2.2.bd
    have hbs : Bs (o ++ d) := D.2.2.2.2.2.2.2
    have no : o ≠ [] := by rintro rfl; have := D.1; simp at this
    have nd : d ≠ [] := by rintro rfl; have := D.2.2.1; simp at this
    have o6 := D.2.1
    have d6 := D.2.2.2.1
    have dpos := D.2.2.2.2.2.2.1
    have hlo := hs.lo
    have hld := hs.ld
    have hst : Im H4 (.ref p) (stD (o, d)) := Im.tup hp (by simp only [ImL]; exact ⟨hva, hvb, trivial⟩)
    clear kl4
    walk_at "go"
    refine ⟨.ref p, o, d, rfl, hst, D', fun ev H5 s5 hev => ?_⟩
    have hm5 := sm_hand s5 hm4
    walk_at "go"
    refine ⟨m, c, .ref p, (o, d), M, rfl, hm5, sm_im s5 hst, hs, fun w5 t1 t2 t3 ps H6 kl6 hm6 hr hl ho e6 i61 i62 i63 => ?_⟩
    have z := over_zero (hs.run hr) ho
    have hst6 : Im H6 (.ref p) (stD (o, d)) := kl_im kl6 (sm_im s5 hst)
    have hev6 : EvAt C H6 ev o d := kl_ev kl6 hev
    have hps := row_in hr
    have hcov := way_cover (s := (o, d)) z.2 fun q hq => num_posR.mp (dpos q hq)
    have lw : ∀ {g}, IsPc o.length d.length ps g → g.1.length ≤ 1000 ∧ g.2.length ≤ 1000 := fun {g} hg => by
      obtain ⟨⟨i, hi, a1, a2⟩, b1, b2⟩ := hg
      have := asc_len b1 fun j hj => ((a1 j).mp hj).1
      have := asc_len b2 fun j hj => ((a2 j).mp hj).1
      omega
    walk_at "go"
    refine ⟨.ref p, t1, (o, d), ps, rfl, hst6, i61, hps, by omega, by omega, fun a7 xs7 gs7 H7 s7 e7 i7 P7 => ?_⟩
    walk_at "go"
    refine ⟨ev, t1, o, d, ps, rfl, sm_ev s7 hev6, no, nd, hob, sm_im s7 i61, by omega, hr, z.1, by omega, hcov, fun a8 xs8 gs8 H8 n8 s8 e8 i8 P8 l8 => ?_⟩
    have eg : (gs8.map grpD).mergeSort (PySem.W.dataLe false id) = (gs7.map grpD).mergeSort (PySem.W.dataLe false id) := grp_sort (P8.perm P7)
    walk_at "go"
    refine ⟨ev, t1, o, d, ps, rfl, sm_ev s8 (sm_ev s7 hev6), no, nd, hob, sm_im s8 (sm_im s7 i61), by omega, hr, z.1, fun v9 H9 s9 i9 => ?_⟩
    walk_at "go"
    refine ⟨.ref p, t1, (o, d), ps, M, rfl, sm_im s9 (sm_im s8 (sm_im s7 hst6)), sm_im s9 (sm_im s8 (sm_im s7 i61)), hs, hr, by omega, fun v10 H10 s10 i10 => ?_⟩
    refine i_neD (sm_im s10 i9) i10 (natsD_shaped _) (natsD_shaped _) ?_
    have s810 : Same H8 H10 := s9.trans s10
    have s610 : Same H6 H10 := s7.trans (s8.trans s810)
    have er : PyData.eqv (natsD (dblR (o, d) 0 ps)) (natsD (dblR (o, d) 0 ps)) = true := SeqAt.eqv_refl _ (natsD_can _).1
    rw [er]
    walk_at "go"
    have i7' : ImL H10 xs7 ((gs7.map grpD).mergeSort (PySem.W.dataLe false id)) := sm_iml s10 (sm_iml s9 (sm_iml s8 i7))
    have i8' : ImL H10 xs8 ((gs7.map grpD).mergeSort (PySem.W.dataLe false id)) := by rw [← eg]; exact sm_iml s10 (sm_iml s9 i8)
    have e7' := s10 _ _ (s9 _ _ (s8 _ _ e7))
    have e8' := s10 _ _ (s9 _ _ e8)
    refine i_neL e8' i8' e7' i7' (sort_shaped _) ⟨_, rfl, ?_⟩
    walk_at "go"
    refine i_isi_ll e8' ⟨_, rfl, ?_⟩
    walk_at "go"
    refine lcFl_none e8' (fun j x H11 N' M' hx s11 hM => ?_) (fun L H11 nL s11 e11 => ?_)
    · obtain ⟨e, he, hi'⟩ := i8'.get hx
      obtain ⟨g, hg, rfl⟩ := List.mem_map.mp (List.mem_mergeSort.mp (List.mem_of_getElem? he))
      have hpc := (P7.2 g).mp hg
      walk_at "go"
      refine ⟨rfl, ?_⟩
      walk_at "go"
      refine ⟨ev, x, o, d, grpT g.1 g.2, _, rfl, sm_ev s11 (sm_ev s610 hev6), grpD_th (sm_im s11 hi'), ⟨by simp, fun u hu => ?_⟩, hbs, fun k H12 s12 hk => ?_⟩
      · simp only [List.mem_cons, List.not_mem_nil, or_false] at hu
        have := lw hpc
        rcases hu with rfl | rfl <;> simp only [Th.len, List.length_map] <;> omega
      have : k = true := hk.mpr (pc_even hr hps z.1 z.2 hpc)
      subst this
      walk_at "go"
      exact hM _ s12
    walk_at "go"
    refine ite_d (fun h => absurd h (by simp)) (fun _ => ?_)
    walk_at "go"
    have e8s := s11 _ _ e8'
    have l8' : xs8.length ≤ 64 := by rw [i8.length, List.length_mergeSort, List.length_map]; exact l8
    refine i_append e8s (small1000 (by omega)) (fun H12 k12 e12 => ?_)
    have n7 : a8 ≠ a7 := ne_fresh n8 e7
    have s611 : Same H6 H11 := s610.trans s11
    have s711 : Same H7 H11 := (s8.trans s810).trans s11
    have hm12 : Hand H12 m c := kl_hand k12 n8 (sm_hand s7 hm6) (sm_hand s611 hm6)
    have e7s := k12.keep _ _ n7.symm (s11 _ _ e7')
    have i7s : ImL H12 xs7 ((gs7.map grpD).mergeSort (PySem.W.dataLe false id)) := kl_iml k12 (sm_iml s11 i7')
    walk_at "go"
    refine ⟨ev, t1, o, d, ps, rfl, kl_ev k12 (sm_ev s611 hev6), no, nd, hob, kl_im k12 (sm_im s611 i61), by omega, hr, z.1, by omega, hcov, fun a13 xs13 gs13 H13 n13 s13 e13 i13 P13 l13 => ?_⟩
    have eg2 : (gs13.map grpD).mergeSort (PySem.W.dataLe false id) = (gs7.map grpD).mergeSort (PySem.W.dataLe false id) := grp_sort (P13.perm P7)
    rw [eg2] at i13
    walk_at "go"
    refine i_neL e13 i13 (s13 _ _ e7s) (sm_iml s13 i7s) (sort_shaped _) ⟨_, rfl, ?_⟩
    walk_at "go"
    exact hN _ _ ⟨sm_hand s13 hm12, _, _, _, _, _, _, _, rfl⟩
  · rintro σ H9 ⟨hm9, x2, x3, x4, x5, x6, x7, x8, rfl⟩
    walk_at "go"
    exact q _

theorem sc_law : FnScope N_law ["_law_script"] (defScope s_law) := ⟨rfl, rfl, rfl, by decide +kernel, rfl, by decide +kernel, by decide +kernel⟩
theorem ok_law {P : Program} {w : World} {K : PySem.W.Frag} {mg : Str → Option Value} {base : Heap} {C : CA} {f : Addr} {fd : FuncData} (T : CT K C) (TT : CTT K C) (B : Bi mg C) (F : Fun K "law" "law" s_law f fd) (D_doubles : Okd P w K mg base 7 "doubles" ["evening", "way"] (sp_doubles K C)) (D_pieces : Okd P w K mg base 7 "pieces" ["evening", "way"] (sp_pieces K C)) (D_is_even : Okd P w K mg base 5 "is_even" ["evening", "thing"] (sp_is_even K C)) (D_L_hand : Okd P w K mg base 1 "_law_hand" ["_law_script"] (sp_L_hand K C)) (D_L_draw : Okd P w K mg base 1 "_law_draw" ["_law_hand_here", "_law_many"] (sp_L_draw K C)) (D_L_sums : Okd P w K mg base 4 "_law_sums" ["_law_hand_here", "_law_side", "_law_most"] (sp_L_sums K C)) (D_L_made : Okd P w K mg base 7 "_law_made" ["_law_sums_here"] (sp_L_made K C)) (D_L_way : Okd P w K mg base 6 "_law_way" ["_law_hand_here", "_law_sums_here"] (sp_L_way K C)) (D_L_doubles : Okd P w K mg base 5 "_law_doubles" ["_law_sums_here", "_law_way_here"] (sp_L_doubles K C)) (D_L_pieces : Okd P w K mg base 1 "_law_pieces" ["_law_sums_here", "_law_way_here"] (sp_L_pieces K C)) : FnOk P w K mg base CX0 8 f fd ["_law_script"] (sp_law K C) := by
  refine F.ok sc_law (fun vs H Q E h => ?_) (fun cdv A outer s H vs Q E hr h => ⟨t_law K C, ?_, rd_law h⟩)
  · obtain ⟨_, _, rfl, _⟩ := h
    rfl
  · exact (pss_cons (ps_set (i := 1) sc_law.nd rfl (Or.inl rfl) (pe_callD D_L_hand (hr.mono (by decide)) (pa_cons (pv 0) pa_nil))) (pss_cons (ps_for PassesOwn.never rfl (pi_range1 rfl B.b_range (pa_cons pe_int pa_nil)) (pg_name (i := 2) sc_law.nd rfl (Or.inl rfl)) (pss_cons (ps_set (i := 3) sc_law.nd rfl (Or.inl rfl) (pe_callD D_L_sums (hr.mono (by decide)) (pa_cons (pv 1) (pa_cons pe_int (pa_cons (pe_ix ix_list (pe_lst (pa_cons pe_int (pa_cons pe_int (pa_cons pe_int pa_nil)))) (pe_callD D_L_draw (hr.mono (by decide)) (pa_cons (pv 1) (pa_cons pe_int pa_nil))) (fun _ _ => rfl)) pa_nil))))) (pss_cons (ps_set (i := 4) sc_law.nd rfl (Or.inr rfl) (pe_callD D_L_made (hr.mono (by decide)) (pa_cons (pv 3) pa_nil))) (pss_cons (ps_set (i := 5) sc_law.nd rfl (Or.inl rfl) (pe_ix ix_tup (pe_callD D_L_way (hr.mono (by decide)) (pa_cons (pv 1) (pa_cons (pv 3) pa_nil))) pe_int (fun _ _ => rfl))) (pss_cons (ps_set (i := 6) sc_law.nd rfl (Or.inl rfl) (pe_callD D_L_pieces (hr.mono (by decide)) (pa_cons (pv 3) (pa_cons (pv 5) pa_nil)))) (pss_cons (ps_set (i := 7) sc_law.nd rfl (Or.inl rfl) (pe_callD D_pieces (hr.mono (by decide)) (pa_cons (pv 4) (pa_cons (pv 5) pa_nil)))) (pss_cons (ps_if (PW.pt (pw_or (pt_cmpR (op_neD hr.units) (pe_callD D_doubles (hr.mono (by decide)) (pa_cons (pv 4) (pa_cons (pv 5) pa_nil))) (pe_callD D_L_doubles (hr.mono (by decide)) (pa_cons (pv 3) (pa_cons (pv 5) pa_nil))) (nomark _)) (pw_or (pt_cmpR (op_neD hr.units) (pv 7) (pv 6) (nomark _)) (pw_or1 (pt_not (pt_val (pe_callB call_isi (by rfl) B.b_isinstance bt_isinstance (pa_cons (pv 7) (pa_cons (pe_bltn (v := .ty "list") (by rfl) B.b_list bt_list rfl) pa_nil))))))))) (pss_one (ps_ret pe_bl)) pss_nil) (pss_cons (ps_if (pt_cmpR op_gt (pe_callB call_len (by rfl) B.b_len bt_len (pa_cons (pe_lc (own := [("_law_group", 8)]) (g := (gName 8)) (tt := (tTest (tOp rNotB (tCall (sp_is_even K C) [] E0 (tCons (tVar 4) (tCons (tVar 8) tNil))) (tC (.bl true))))) rfl sc_law.nd (pi_list (pv 7)) (blkOk_by (own := [("_law_group", 8)]) (N := N_law) (sc := defScope s_law) (by decide +kernel)) (fun _ _ _ _ _ => (pg_name (i := 8) sc_law.nd rfl (Or.inl rfl))) (fun _ _ _ _ _ => (pts_one (pt_cmpR op_notBl (pe_callD D_is_even (hr.mono (by decide)) (pa_cons (pv 4) (pa_cons (pv 8) pa_nil))) pe_bl (nomark _)))) (fun _ _ _ _ _ => (pv 8))) pa_nil)) pe_int (nomark _)) (pss_one (ps_ret pe_bl)) pss_nil) (pss_cons (ps_expr (pe_bm PySem.F.plainAttrs_list PySem.F.slot_list_append PySem.F.type_list_append mt_append (pv 7) (pa_cons pe_non pa_nil))) (pss_one (ps_if (pt_cmpR (op_neD hr.units) (pe_callD D_pieces (hr.mono (by decide)) (pa_cons (pv 4) (pa_cons (pv 5) pa_nil))) (pv 6) (nomark _)) (pss_one (ps_ret pe_bl)) pss_nil))))))))))) (pss_one (ps_ret pe_bl))))

def sp_top (K : PySem.W.Frag) : Sp := fun vs H Q _ => ∃ (a : Addr) (ns : List Int), vs = [.ref a] ∧ SqL K H a (ns.map V.int) ∧ ns.length ≤ 63 ∧ ∀ H', Q (.bl true) H'
theorem all_mk {l : PySem.W.OpenLaw} {w : World} {K : PySem.W.Frag} {h : Heap} {mg : Str → Option Value} {fa cTally cEvening  : Addr} {u_MOST_SUMS : Value} {f_Tally_pay : Addr} {od_Tally_pay an_Tally_pay : Option Addr} {oc_Tally_pay kV_Tally_pay doc_Tally_pay pm_Tally_pay cdv_Tally_pay ct_Tally_pay : Value} {osl_Tally_pay : Array (Option Value)} {f_is_integer : Addr} {od_is_integer an_is_integer : Option Addr} {oc_is_integer kV_is_integer doc_is_integer pm_is_integer cdv_is_integer ct_is_integer : Value} {osl_is_integer : Array (Option Value)} {f_is_number_below : Addr} {od_is_number_below an_is_number_below : Option Addr} {oc_is_number_below kV_is_number_below doc_is_number_below pm_is_number_below cdv_is_number_below ct_is_number_below : Value} {osl_is_number_below : Array (Option Value)} {f_is_two_people : Addr} {od_is_two_people an_is_two_people : Option Addr} {oc_is_two_people kV_is_two_people doc_is_two_people pm_is_two_people cdv_is_two_people ct_is_two_people : Value} {osl_is_two_people : Array (Option Value)} {f_Tally_allows : Addr} {od_Tally_allows an_Tally_allows : Option Addr} {oc_Tally_allows kV_Tally_allows doc_Tally_allows pm_Tally_allows cdv_Tally_allows ct_Tally_allows : Value} {osl_Tally_allows : Array (Option Value)} {f_paid_units : Addr} {od_paid_units an_paid_units : Option Addr} {oc_paid_units kV_paid_units doc_paid_units pm_paid_units cdv_paid_units ct_paid_units : Value} {osl_paid_units : Array (Option Value)} {f_common_bottom : Addr} {od_common_bottom an_common_bottom : Option Addr} {oc_common_bottom kV_common_bottom doc_common_bottom pm_common_bottom cdv_common_bottom ct_common_bottom : Value} {osl_common_bottom : Array (Option Value)} {f_in_units : Addr} {od_in_units an_in_units : Option Addr} {oc_in_units kV_in_units doc_in_units pm_in_units cdv_in_units ct_in_units : Value} {osl_in_units : Array (Option Value)} {f_Tallyu_initu : Addr} {od_Tallyu_initu an_Tallyu_initu : Option Addr} {oc_Tallyu_initu kV_Tallyu_initu doc_Tallyu_initu pm_Tallyu_initu cdv_Tallyu_initu ct_Tallyu_initu : Value} {osl_Tallyu_initu : Array (Option Value)} {f_Tally_is_over : Addr} {od_Tally_is_over an_Tally_is_over : Option Addr} {oc_Tally_is_over kV_Tally_is_over doc_Tally_is_over pm_Tally_is_over cdv_Tally_is_over ct_Tally_is_over : Value} {osl_Tally_is_over : Array (Option Value)} {f_is_way : Addr} {od_is_way an_is_way : Option Addr} {oc_is_way kV_is_way doc_is_way pm_is_way cdv_is_way ct_is_way : Value} {osl_is_way : Array (Option Value)} {f_doubles : Addr} {od_doubles an_doubles : Option Addr} {oc_doubles kV_doubles doc_doubles pm_doubles cdv_doubles ct_doubles : Value} {osl_doubles : Array (Option Value)} {f_hanging_marks : Addr} {od_hanging_marks an_hanging_marks : Option Addr} {oc_hanging_marks kV_hanging_marks doc_hanging_marks pm_hanging_marks cdv_hanging_marks ct_hanging_marks : Value} {osl_hanging_marks : Array (Option Value)} {f_q_marked : Addr} {od_q_marked an_q_marked : Option Addr} {oc_q_marked kV_q_marked doc_q_marked pm_q_marked cdv_q_marked ct_q_marked : Value} {osl_q_marked : Array (Option Value)} {f_pieces : Addr} {od_pieces an_pieces : Option Addr} {oc_pieces kV_pieces doc_pieces pm_pieces cdv_pieces ct_pieces : Value} {osl_pieces : Array (Option Value)} {f_lowest : Addr} {od_lowest an_lowest : Option Addr} {oc_lowest kV_lowest doc_lowest pm_lowest cdv_lowest ct_lowest : Value} {osl_lowest : Array (Option Value)} {f_added : Addr} {od_added an_added : Option Addr} {oc_added kV_added doc_added pm_added cdv_added ct_added : Value} {osl_added : Array (Option Value)} {f_is_ascending : Addr} {od_is_ascending an_is_ascending : Option Addr} {oc_is_ascending kV_is_ascending doc_is_ascending pm_is_ascending cdv_is_ascending ct_is_ascending : Value} {osl_is_ascending : Array (Option Value)} {f_is_lot : Addr} {od_is_lot an_is_lot : Option Addr} {oc_is_lot kV_is_lot doc_is_lot pm_is_lot cdv_is_lot ct_is_lot : Value} {osl_is_lot : Array (Option Value)} {f_is_group : Addr} {od_is_group an_is_group : Option Addr} {oc_is_group kV_is_group doc_is_group pm_is_group cdv_is_group ct_is_group : Value} {osl_is_group : Array (Option Value)} {f_q_sums_of : Addr} {od_q_sums_of an_q_sums_of : Option Addr} {oc_q_sums_of kV_q_sums_of doc_q_sums_of pm_q_sums_of cdv_q_sums_of ct_q_sums_of : Value} {osl_q_sums_of : Array (Option Value)} {f_is_even : Addr} {od_is_even an_is_even : Option Addr} {oc_is_even kV_is_even doc_is_even pm_is_even cdv_is_even ct_is_even : Value} {osl_is_even : Array (Option Value)} {f_L_hand : Addr} {od_L_hand an_L_hand : Option Addr} {oc_L_hand kV_L_hand doc_L_hand pm_L_hand cdv_L_hand ct_L_hand : Value} {osl_L_hand : Array (Option Value)} {f_L_draw : Addr} {od_L_draw an_L_draw : Option Addr} {oc_L_draw kV_L_draw doc_L_draw pm_L_draw cdv_L_draw ct_L_draw : Value} {osl_L_draw : Array (Option Value)} {f_L_common : Addr} {od_L_common an_L_common : Option Addr} {oc_L_common kV_L_common doc_L_common pm_L_common cdv_L_common ct_L_common : Value} {osl_L_common : Array (Option Value)} {f_L_fraction : Addr} {od_L_fraction an_L_fraction : Option Addr} {oc_L_fraction kV_L_fraction doc_L_fraction pm_L_fraction cdv_L_fraction ct_L_fraction : Value} {osl_L_fraction : Array (Option Value)} {f_L_times : Addr} {od_L_times an_L_times : Option Addr} {oc_L_times kV_L_times doc_L_times pm_L_times cdv_L_times ct_L_times : Value} {osl_L_times : Array (Option Value)} {f_L_cut : Addr} {od_L_cut an_L_cut : Option Addr} {oc_L_cut kV_L_cut doc_L_cut pm_L_cut cdv_L_cut ct_L_cut : Value} {osl_L_cut : Array (Option Value)} {f_L_numbers : Addr} {od_L_numbers an_L_numbers : Option Addr} {oc_L_numbers kV_L_numbers doc_L_numbers pm_L_numbers cdv_L_numbers ct_L_numbers : Value} {osl_L_numbers : Array (Option Value)} {f_L_unit : Addr} {od_L_unit an_L_unit : Option Addr} {oc_L_unit kV_L_unit doc_L_unit pm_L_unit cdv_L_unit ct_L_unit : Value} {osl_L_unit : Array (Option Value)} {f_L_sums : Addr} {od_L_sums an_L_sums : Option Addr} {oc_L_sums kV_L_sums doc_L_sums pm_L_sums cdv_L_sums ct_L_sums : Value} {osl_L_sums : Array (Option Value)} {f_is_fraction : Addr} {od_is_fraction an_is_fraction : Option Addr} {oc_is_fraction kV_is_fraction doc_is_fraction pm_is_fraction cdv_is_fraction ct_is_fraction : Value} {osl_is_fraction : Array (Option Value)} {f_is_amount : Addr} {od_is_amount an_is_amount : Option Addr} {oc_is_amount kV_is_amount doc_is_amount pm_is_amount cdv_is_amount ct_is_amount : Value} {osl_is_amount : Array (Option Value)} {f_q_is_side : Addr} {od_q_is_side an_q_is_side : Option Addr} {oc_q_is_side kV_q_is_side doc_q_is_side pm_q_is_side cdv_q_is_side ct_q_is_side : Value} {osl_q_is_side : Array (Option Value)} {f_Eveningu_initu : Addr} {od_Eveningu_initu an_Eveningu_initu : Option Addr} {oc_Eveningu_initu kV_Eveningu_initu doc_Eveningu_initu pm_Eveningu_initu cdv_Eveningu_initu ct_Eveningu_initu : Value} {osl_Eveningu_initu : Array (Option Value)} {f_L_made : Addr} {od_L_made an_L_made : Option Addr} {oc_L_made kV_L_made doc_L_made pm_L_made cdv_L_made ct_L_made : Value} {osl_L_made : Array (Option Value)} {f_L_less : Addr} {od_L_less an_L_less : Option Addr} {oc_L_less kV_L_less doc_L_less pm_L_less cdv_L_less ct_L_less : Value} {osl_L_less : Array (Option Value)} {f_L_is_below : Addr} {od_L_is_below an_L_is_below : Option Addr} {oc_L_is_below kV_L_is_below doc_L_is_below pm_L_is_below cdv_L_is_below ct_L_is_below : Value} {osl_L_is_below : Array (Option Value)} {f_L_go : Addr} {od_L_go an_L_go : Option Addr} {oc_L_go kV_L_go doc_L_go pm_L_go cdv_L_go ct_L_go : Value} {osl_L_go : Array (Option Value)} {f_L_pairs : Addr} {od_L_pairs an_L_pairs : Option Addr} {oc_L_pairs kV_L_pairs doc_L_pairs pm_L_pairs cdv_L_pairs ct_L_pairs : Value} {osl_L_pairs : Array (Option Value)} {f_L_row : Addr} {od_L_row an_L_row : Option Addr} {oc_L_row kV_L_row doc_L_row pm_L_row cdv_L_row ct_L_row : Value} {osl_L_row : Array (Option Value)} {f_L_way : Addr} {od_L_way an_L_way : Option Addr} {oc_L_way kV_L_way doc_L_way pm_L_way cdv_L_way ct_L_way : Value} {osl_L_way : Array (Option Value)} {f_L_doubles : Addr} {od_L_doubles an_L_doubles : Option Addr} {oc_L_doubles kV_L_doubles doc_L_doubles pm_L_doubles cdv_L_doubles ct_L_doubles : Value} {osl_L_doubles : Array (Option Value)} {f_L_pieces : Addr} {od_L_pieces an_L_pieces : Option Addr} {oc_L_pieces kV_L_pieces doc_L_pieces pm_L_pieces cdv_L_pieces ct_L_pieces : Value} {osl_L_pieces : Array (Option Value)} {f_law : Addr} {od_law an_law : Option Addr} {oc_law kV_law doc_law pm_law cdv_law ct_law : Value} {osl_law : Array (Option Value)} (X : K.In h) (G : h.Ns mainGlobals mg) (hfa : mg "law" = some (.ref fa))
    (h_Tally : PySem.W.nsIn K mainGlobals "Tally" = some (some (.ref cTally)))
    (pg_Tally : PySem.W.plainGet K cTally Str.empty = true)
    (hd_Tally : PySem.W.hasDictIn K cTally = true)
    (po_Tally : PySem.W.plainOver K cTally = true)
    (sa_Tally : PySem.W.findIn K (.ref cTally) "__setattr__" = some (some (.builtin "object.__setattr__")))
    (mk_Tally : PySem.W.makesIn K cTally = true)
    (kc_Tally : PySem.W.keepIn K (.ref cTally) = true)
    (h_Evening : PySem.W.nsIn K mainGlobals "Evening" = some (some (.ref cEvening)))
    (pg_Evening : PySem.W.plainGet K cEvening Str.empty = true)
    (hd_Evening : PySem.W.hasDictIn K cEvening = true)
    (po_Evening : PySem.W.plainOver K cEvening = true)
    (sa_Evening : PySem.W.findIn K (.ref cEvening) "__setattr__" = some (some (.builtin "object.__setattr__")))
    (mk_Evening : PySem.W.makesIn K cEvening = true)
    (kc_Evening : PySem.W.keepIn K (.ref cEvening) = true)
    (na_nO : PySem.W.findIn K (.ref cEvening) "owed" = some none)
    (na_nD : PySem.W.findIn K (.ref cEvening) "due" = some none)
    (na_tB : PySem.W.findIn K (.ref cTally) "bottom" = some none)
    (na_tO : PySem.W.findIn K (.ref cTally) "owing" = some none)
    (na_tA : PySem.W.findIn K (.ref cTally) "awaiting" = some none)
    (z_abs : PySem.W.nsIn K mainGlobals "abs" = some none)
    (z_all : PySem.W.nsIn K mainGlobals "all" = some none)
    (z_any : PySem.W.nsIn K mainGlobals "any" = some none)
    (z_bool : PySem.W.nsIn K mainGlobals "bool" = some none)
    (z_enumerate : PySem.W.nsIn K mainGlobals "enumerate" = some none)
    (z_int : PySem.W.nsIn K mainGlobals "int" = some none)
    (z_isinstance : PySem.W.nsIn K mainGlobals "isinstance" = some none)
    (z_len : PySem.W.nsIn K mainGlobals "len" = some none)
    (z_list : PySem.W.nsIn K mainGlobals "list" = some none)
    (z_max : PySem.W.nsIn K mainGlobals "max" = some none)
    (z_min : PySem.W.nsIn K mainGlobals "min" = some none)
    (z_range : PySem.W.nsIn K mainGlobals "range" = some none)
    (z_set : PySem.W.nsIn K mainGlobals "set" = some none)
    (z_sorted : PySem.W.nsIn K mainGlobals "sorted" = some none)
    (z_sum : PySem.W.nsIn K mainGlobals "sum" = some none)
    (z_tuple : PySem.W.nsIn K mainGlobals "tuple" = some none)
    (z_MOST_SUMS : PySem.W.nsIn K mainGlobals "MOST_SUMS" = some (some u_MOST_SUMS)) (r_MOST_SUMS : RelV (.int 100) u_MOST_SUMS)
    (z_gcd : PySem.W.nsIn K mainGlobals "gcd" = some (some (.builtin "math.gcd")))
    (z_lcm : PySem.W.nsIn K mainGlobals "lcm" = some (some (.builtin "math.lcm")))
    (a_Tally_pay : PySem.W.findIn K (.ref cTally) "pay" = some (some (.ref f_Tally_pay))) (i_Tally_pay : PySem.W.isFn K (.ref f_Tally_pay) = true)
    (l_Tally_pay : K.lookup f_Tally_pay = some ⟨oc_Tally_pay, od_Tally_pay, .func (PySem.W.fnOf "pay" "Tally.pay" (defArgs s_Tally_pay) (defBody s_Tally_pay) (defScope s_Tally_pay) .none kV_Tally_pay doc_Tally_pay pm_Tally_pay an_Tally_pay cdv_Tally_pay ct_Tally_pay), osl_Tally_pay⟩) (c_Tally_pay : PySem.W.codeIn K cdv_Tally_pay "Tally.pay" = true) (k_Tally_pay : PySem.W.keepIn K (.ref f_Tally_pay) = true)
    (a_is_integer : PySem.W.nsIn K mainGlobals "is_integer" = some (some (.ref f_is_integer)))
    (l_is_integer : K.lookup f_is_integer = some ⟨oc_is_integer, od_is_integer, .func (PySem.W.fnOf "is_integer" "is_integer" (defArgs s_is_integer) (defBody s_is_integer) (defScope s_is_integer) .none kV_is_integer doc_is_integer pm_is_integer an_is_integer cdv_is_integer ct_is_integer), osl_is_integer⟩) (c_is_integer : PySem.W.codeIn K cdv_is_integer "is_integer" = true) (k_is_integer : PySem.W.keepIn K (.ref f_is_integer) = true)
    (a_is_number_below : PySem.W.nsIn K mainGlobals "is_number_below" = some (some (.ref f_is_number_below)))
    (l_is_number_below : K.lookup f_is_number_below = some ⟨oc_is_number_below, od_is_number_below, .func (PySem.W.fnOf "is_number_below" "is_number_below" (defArgs s_is_number_below) (defBody s_is_number_below) (defScope s_is_number_below) .none kV_is_number_below doc_is_number_below pm_is_number_below an_is_number_below cdv_is_number_below ct_is_number_below), osl_is_number_below⟩) (c_is_number_below : PySem.W.codeIn K cdv_is_number_below "is_number_below" = true) (k_is_number_below : PySem.W.keepIn K (.ref f_is_number_below) = true)
    (a_is_two_people : PySem.W.nsIn K mainGlobals "is_two_people" = some (some (.ref f_is_two_people)))
    (l_is_two_people : K.lookup f_is_two_people = some ⟨oc_is_two_people, od_is_two_people, .func (PySem.W.fnOf "is_two_people" "is_two_people" (defArgs s_is_two_people) (defBody s_is_two_people) (defScope s_is_two_people) .none kV_is_two_people doc_is_two_people pm_is_two_people an_is_two_people cdv_is_two_people ct_is_two_people), osl_is_two_people⟩) (c_is_two_people : PySem.W.codeIn K cdv_is_two_people "is_two_people" = true) (k_is_two_people : PySem.W.keepIn K (.ref f_is_two_people) = true)
    (a_Tally_allows : PySem.W.findIn K (.ref cTally) "allows" = some (some (.ref f_Tally_allows))) (i_Tally_allows : PySem.W.isFn K (.ref f_Tally_allows) = true)
    (l_Tally_allows : K.lookup f_Tally_allows = some ⟨oc_Tally_allows, od_Tally_allows, .func (PySem.W.fnOf "allows" "Tally.allows" (defArgs s_Tally_allows) (defBody s_Tally_allows) (defScope s_Tally_allows) .none kV_Tally_allows doc_Tally_allows pm_Tally_allows an_Tally_allows cdv_Tally_allows ct_Tally_allows), osl_Tally_allows⟩) (c_Tally_allows : PySem.W.codeIn K cdv_Tally_allows "Tally.allows" = true) (k_Tally_allows : PySem.W.keepIn K (.ref f_Tally_allows) = true)
    (a_paid_units : PySem.W.nsIn K mainGlobals "paid_units" = some (some (.ref f_paid_units)))
    (l_paid_units : K.lookup f_paid_units = some ⟨oc_paid_units, od_paid_units, .func (PySem.W.fnOf "paid_units" "paid_units" (defArgs s_paid_units) (defBody s_paid_units) (defScope s_paid_units) .none kV_paid_units doc_paid_units pm_paid_units an_paid_units cdv_paid_units ct_paid_units), osl_paid_units⟩) (c_paid_units : PySem.W.codeIn K cdv_paid_units "paid_units" = true) (k_paid_units : PySem.W.keepIn K (.ref f_paid_units) = true)
    (a_common_bottom : PySem.W.nsIn K mainGlobals "common_bottom" = some (some (.ref f_common_bottom)))
    (l_common_bottom : K.lookup f_common_bottom = some ⟨oc_common_bottom, od_common_bottom, .func (PySem.W.fnOf "common_bottom" "common_bottom" (defArgs s_common_bottom) (defBody s_common_bottom) (defScope s_common_bottom) .none kV_common_bottom doc_common_bottom pm_common_bottom an_common_bottom cdv_common_bottom ct_common_bottom), osl_common_bottom⟩) (c_common_bottom : PySem.W.codeIn K cdv_common_bottom "common_bottom" = true) (k_common_bottom : PySem.W.keepIn K (.ref f_common_bottom) = true)
    (a_in_units : PySem.W.nsIn K mainGlobals "in_units" = some (some (.ref f_in_units)))
    (l_in_units : K.lookup f_in_units = some ⟨oc_in_units, od_in_units, .func (PySem.W.fnOf "in_units" "in_units" (defArgs s_in_units) (defBody s_in_units) (defScope s_in_units) .none kV_in_units doc_in_units pm_in_units an_in_units cdv_in_units ct_in_units), osl_in_units⟩) (c_in_units : PySem.W.codeIn K cdv_in_units "in_units" = true) (k_in_units : PySem.W.keepIn K (.ref f_in_units) = true)
    (a_Tallyu_initu : PySem.W.findIn K (.ref cTally) "__init__" = some (some (.ref f_Tallyu_initu))) (i_Tallyu_initu : PySem.W.isFn K (.ref f_Tallyu_initu) = true)
    (l_Tallyu_initu : K.lookup f_Tallyu_initu = some ⟨oc_Tallyu_initu, od_Tallyu_initu, .func (PySem.W.fnOf "__init__" "Tally.__init__" (defArgs s_Tallyu_initu) (defBody s_Tallyu_initu) (defScope s_Tallyu_initu) .none kV_Tallyu_initu doc_Tallyu_initu pm_Tallyu_initu an_Tallyu_initu cdv_Tallyu_initu ct_Tallyu_initu), osl_Tallyu_initu⟩) (c_Tallyu_initu : PySem.W.codeIn K cdv_Tallyu_initu "Tally.__init__" = true) (k_Tallyu_initu : PySem.W.keepIn K (.ref f_Tallyu_initu) = true)
    (a_Tally_is_over : PySem.W.findIn K (.ref cTally) "is_over" = some (some (.ref f_Tally_is_over))) (i_Tally_is_over : PySem.W.isFn K (.ref f_Tally_is_over) = true)
    (l_Tally_is_over : K.lookup f_Tally_is_over = some ⟨oc_Tally_is_over, od_Tally_is_over, .func (PySem.W.fnOf "is_over" "Tally.is_over" (defArgs s_Tally_is_over) (defBody s_Tally_is_over) (defScope s_Tally_is_over) .none kV_Tally_is_over doc_Tally_is_over pm_Tally_is_over an_Tally_is_over cdv_Tally_is_over ct_Tally_is_over), osl_Tally_is_over⟩) (c_Tally_is_over : PySem.W.codeIn K cdv_Tally_is_over "Tally.is_over" = true) (k_Tally_is_over : PySem.W.keepIn K (.ref f_Tally_is_over) = true)
    (a_is_way : PySem.W.nsIn K mainGlobals "is_way" = some (some (.ref f_is_way)))
    (l_is_way : K.lookup f_is_way = some ⟨oc_is_way, od_is_way, .func (PySem.W.fnOf "is_way" "is_way" (defArgs s_is_way) (defBody s_is_way) (defScope s_is_way) .none kV_is_way doc_is_way pm_is_way an_is_way cdv_is_way ct_is_way), osl_is_way⟩) (c_is_way : PySem.W.codeIn K cdv_is_way "is_way" = true) (k_is_way : PySem.W.keepIn K (.ref f_is_way) = true)
    (a_doubles : PySem.W.nsIn K mainGlobals "doubles" = some (some (.ref f_doubles)))
    (l_doubles : K.lookup f_doubles = some ⟨oc_doubles, od_doubles, .func (PySem.W.fnOf "doubles" "doubles" (defArgs s_doubles) (defBody s_doubles) (defScope s_doubles) .none kV_doubles doc_doubles pm_doubles an_doubles cdv_doubles ct_doubles), osl_doubles⟩) (c_doubles : PySem.W.codeIn K cdv_doubles "doubles" = true) (k_doubles : PySem.W.keepIn K (.ref f_doubles) = true)
    (a_hanging_marks : PySem.W.nsIn K mainGlobals "hanging_marks" = some (some (.ref f_hanging_marks)))
    (l_hanging_marks : K.lookup f_hanging_marks = some ⟨oc_hanging_marks, od_hanging_marks, .func (PySem.W.fnOf "hanging_marks" "hanging_marks" (defArgs s_hanging_marks) (defBody s_hanging_marks) (defScope s_hanging_marks) .none kV_hanging_marks doc_hanging_marks pm_hanging_marks an_hanging_marks cdv_hanging_marks ct_hanging_marks), osl_hanging_marks⟩) (c_hanging_marks : PySem.W.codeIn K cdv_hanging_marks "hanging_marks" = true) (k_hanging_marks : PySem.W.keepIn K (.ref f_hanging_marks) = true)
    (a_q_marked : PySem.W.nsIn K mainGlobals "_marked" = some (some (.ref f_q_marked)))
    (l_q_marked : K.lookup f_q_marked = some ⟨oc_q_marked, od_q_marked, .func (PySem.W.fnOf "_marked" "_marked" (defArgs s_q_marked) (defBody s_q_marked) (defScope s_q_marked) .none kV_q_marked doc_q_marked pm_q_marked an_q_marked cdv_q_marked ct_q_marked), osl_q_marked⟩) (c_q_marked : PySem.W.codeIn K cdv_q_marked "_marked" = true) (k_q_marked : PySem.W.keepIn K (.ref f_q_marked) = true)
    (a_pieces : PySem.W.nsIn K mainGlobals "pieces" = some (some (.ref f_pieces)))
    (l_pieces : K.lookup f_pieces = some ⟨oc_pieces, od_pieces, .func (PySem.W.fnOf "pieces" "pieces" (defArgs s_pieces) (defBody s_pieces) (defScope s_pieces) .none kV_pieces doc_pieces pm_pieces an_pieces cdv_pieces ct_pieces), osl_pieces⟩) (c_pieces : PySem.W.codeIn K cdv_pieces "pieces" = true) (k_pieces : PySem.W.keepIn K (.ref f_pieces) = true)
    (a_lowest : PySem.W.nsIn K mainGlobals "lowest" = some (some (.ref f_lowest)))
    (l_lowest : K.lookup f_lowest = some ⟨oc_lowest, od_lowest, .func (PySem.W.fnOf "lowest" "lowest" (defArgs s_lowest) (defBody s_lowest) (defScope s_lowest) .none kV_lowest doc_lowest pm_lowest an_lowest cdv_lowest ct_lowest), osl_lowest⟩) (c_lowest : PySem.W.codeIn K cdv_lowest "lowest" = true) (k_lowest : PySem.W.keepIn K (.ref f_lowest) = true)
    (a_added : PySem.W.nsIn K mainGlobals "added" = some (some (.ref f_added)))
    (l_added : K.lookup f_added = some ⟨oc_added, od_added, .func (PySem.W.fnOf "added" "added" (defArgs s_added) (defBody s_added) (defScope s_added) .none kV_added doc_added pm_added an_added cdv_added ct_added), osl_added⟩) (c_added : PySem.W.codeIn K cdv_added "added" = true) (k_added : PySem.W.keepIn K (.ref f_added) = true)
    (a_is_ascending : PySem.W.nsIn K mainGlobals "is_ascending" = some (some (.ref f_is_ascending)))
    (l_is_ascending : K.lookup f_is_ascending = some ⟨oc_is_ascending, od_is_ascending, .func (PySem.W.fnOf "is_ascending" "is_ascending" (defArgs s_is_ascending) (defBody s_is_ascending) (defScope s_is_ascending) .none kV_is_ascending doc_is_ascending pm_is_ascending an_is_ascending cdv_is_ascending ct_is_ascending), osl_is_ascending⟩) (c_is_ascending : PySem.W.codeIn K cdv_is_ascending "is_ascending" = true) (k_is_ascending : PySem.W.keepIn K (.ref f_is_ascending) = true)
    (a_is_lot : PySem.W.nsIn K mainGlobals "is_lot" = some (some (.ref f_is_lot)))
    (l_is_lot : K.lookup f_is_lot = some ⟨oc_is_lot, od_is_lot, .func (PySem.W.fnOf "is_lot" "is_lot" (defArgs s_is_lot) (defBody s_is_lot) (defScope s_is_lot) .none kV_is_lot doc_is_lot pm_is_lot an_is_lot cdv_is_lot ct_is_lot), osl_is_lot⟩) (c_is_lot : PySem.W.codeIn K cdv_is_lot "is_lot" = true) (k_is_lot : PySem.W.keepIn K (.ref f_is_lot) = true)
    (a_is_group : PySem.W.nsIn K mainGlobals "is_group" = some (some (.ref f_is_group)))
    (l_is_group : K.lookup f_is_group = some ⟨oc_is_group, od_is_group, .func (PySem.W.fnOf "is_group" "is_group" (defArgs s_is_group) (defBody s_is_group) (defScope s_is_group) .none kV_is_group doc_is_group pm_is_group an_is_group cdv_is_group ct_is_group), osl_is_group⟩) (c_is_group : PySem.W.codeIn K cdv_is_group "is_group" = true) (k_is_group : PySem.W.keepIn K (.ref f_is_group) = true)
    (a_q_sums_of : PySem.W.nsIn K mainGlobals "_sums_of" = some (some (.ref f_q_sums_of)))
    (l_q_sums_of : K.lookup f_q_sums_of = some ⟨oc_q_sums_of, od_q_sums_of, .func (PySem.W.fnOf "_sums_of" "_sums_of" (defArgs s_q_sums_of) (defBody s_q_sums_of) (defScope s_q_sums_of) .none kV_q_sums_of doc_q_sums_of pm_q_sums_of an_q_sums_of cdv_q_sums_of ct_q_sums_of), osl_q_sums_of⟩) (c_q_sums_of : PySem.W.codeIn K cdv_q_sums_of "_sums_of" = true) (k_q_sums_of : PySem.W.keepIn K (.ref f_q_sums_of) = true)
    (a_is_even : PySem.W.nsIn K mainGlobals "is_even" = some (some (.ref f_is_even)))
    (l_is_even : K.lookup f_is_even = some ⟨oc_is_even, od_is_even, .func (PySem.W.fnOf "is_even" "is_even" (defArgs s_is_even) (defBody s_is_even) (defScope s_is_even) .none kV_is_even doc_is_even pm_is_even an_is_even cdv_is_even ct_is_even), osl_is_even⟩) (c_is_even : PySem.W.codeIn K cdv_is_even "is_even" = true) (k_is_even : PySem.W.keepIn K (.ref f_is_even) = true)
    (a_L_hand : PySem.W.nsIn K mainGlobals "_law_hand" = some (some (.ref f_L_hand)))
    (l_L_hand : K.lookup f_L_hand = some ⟨oc_L_hand, od_L_hand, .func (PySem.W.fnOf "_law_hand" "_law_hand" (defArgs s_L_hand) (defBody s_L_hand) (defScope s_L_hand) .none kV_L_hand doc_L_hand pm_L_hand an_L_hand cdv_L_hand ct_L_hand), osl_L_hand⟩) (c_L_hand : PySem.W.codeIn K cdv_L_hand "_law_hand" = true) (k_L_hand : PySem.W.keepIn K (.ref f_L_hand) = true)
    (a_L_draw : PySem.W.nsIn K mainGlobals "_law_draw" = some (some (.ref f_L_draw)))
    (l_L_draw : K.lookup f_L_draw = some ⟨oc_L_draw, od_L_draw, .func (PySem.W.fnOf "_law_draw" "_law_draw" (defArgs s_L_draw) (defBody s_L_draw) (defScope s_L_draw) .none kV_L_draw doc_L_draw pm_L_draw an_L_draw cdv_L_draw ct_L_draw), osl_L_draw⟩) (c_L_draw : PySem.W.codeIn K cdv_L_draw "_law_draw" = true) (k_L_draw : PySem.W.keepIn K (.ref f_L_draw) = true)
    (a_L_common : PySem.W.nsIn K mainGlobals "_law_common" = some (some (.ref f_L_common)))
    (l_L_common : K.lookup f_L_common = some ⟨oc_L_common, od_L_common, .func (PySem.W.fnOf "_law_common" "_law_common" (defArgs s_L_common) (defBody s_L_common) (defScope s_L_common) .none kV_L_common doc_L_common pm_L_common an_L_common cdv_L_common ct_L_common), osl_L_common⟩) (c_L_common : PySem.W.codeIn K cdv_L_common "_law_common" = true) (k_L_common : PySem.W.keepIn K (.ref f_L_common) = true)
    (a_L_fraction : PySem.W.nsIn K mainGlobals "_law_fraction" = some (some (.ref f_L_fraction)))
    (l_L_fraction : K.lookup f_L_fraction = some ⟨oc_L_fraction, od_L_fraction, .func (PySem.W.fnOf "_law_fraction" "_law_fraction" (defArgs s_L_fraction) (defBody s_L_fraction) (defScope s_L_fraction) .none kV_L_fraction doc_L_fraction pm_L_fraction an_L_fraction cdv_L_fraction ct_L_fraction), osl_L_fraction⟩) (c_L_fraction : PySem.W.codeIn K cdv_L_fraction "_law_fraction" = true) (k_L_fraction : PySem.W.keepIn K (.ref f_L_fraction) = true)
    (a_L_times : PySem.W.nsIn K mainGlobals "_law_times" = some (some (.ref f_L_times)))
    (l_L_times : K.lookup f_L_times = some ⟨oc_L_times, od_L_times, .func (PySem.W.fnOf "_law_times" "_law_times" (defArgs s_L_times) (defBody s_L_times) (defScope s_L_times) .none kV_L_times doc_L_times pm_L_times an_L_times cdv_L_times ct_L_times), osl_L_times⟩) (c_L_times : PySem.W.codeIn K cdv_L_times "_law_times" = true) (k_L_times : PySem.W.keepIn K (.ref f_L_times) = true)
    (a_L_cut : PySem.W.nsIn K mainGlobals "_law_cut" = some (some (.ref f_L_cut)))
    (l_L_cut : K.lookup f_L_cut = some ⟨oc_L_cut, od_L_cut, .func (PySem.W.fnOf "_law_cut" "_law_cut" (defArgs s_L_cut) (defBody s_L_cut) (defScope s_L_cut) .none kV_L_cut doc_L_cut pm_L_cut an_L_cut cdv_L_cut ct_L_cut), osl_L_cut⟩) (c_L_cut : PySem.W.codeIn K cdv_L_cut "_law_cut" = true) (k_L_cut : PySem.W.keepIn K (.ref f_L_cut) = true)
    (a_L_numbers : PySem.W.nsIn K mainGlobals "_law_numbers" = some (some (.ref f_L_numbers)))
    (l_L_numbers : K.lookup f_L_numbers = some ⟨oc_L_numbers, od_L_numbers, .func (PySem.W.fnOf "_law_numbers" "_law_numbers" (defArgs s_L_numbers) (defBody s_L_numbers) (defScope s_L_numbers) .none kV_L_numbers doc_L_numbers pm_L_numbers an_L_numbers cdv_L_numbers ct_L_numbers), osl_L_numbers⟩) (c_L_numbers : PySem.W.codeIn K cdv_L_numbers "_law_numbers" = true) (k_L_numbers : PySem.W.keepIn K (.ref f_L_numbers) = true)
    (a_L_unit : PySem.W.nsIn K mainGlobals "_law_unit" = some (some (.ref f_L_unit)))
    (l_L_unit : K.lookup f_L_unit = some ⟨oc_L_unit, od_L_unit, .func (PySem.W.fnOf "_law_unit" "_law_unit" (defArgs s_L_unit) (defBody s_L_unit) (defScope s_L_unit) .none kV_L_unit doc_L_unit pm_L_unit an_L_unit cdv_L_unit ct_L_unit), osl_L_unit⟩) (c_L_unit : PySem.W.codeIn K cdv_L_unit "_law_unit" = true) (k_L_unit : PySem.W.keepIn K (.ref f_L_unit) = true)
    (a_L_sums : PySem.W.nsIn K mainGlobals "_law_sums" = some (some (.ref f_L_sums)))
    (l_L_sums : K.lookup f_L_sums = some ⟨oc_L_sums, od_L_sums, .func (PySem.W.fnOf "_law_sums" "_law_sums" (defArgs s_L_sums) (defBody s_L_sums) (defScope s_L_sums) .none kV_L_sums doc_L_sums pm_L_sums an_L_sums cdv_L_sums ct_L_sums), osl_L_sums⟩) (c_L_sums : PySem.W.codeIn K cdv_L_sums "_law_sums" = true) (k_L_sums : PySem.W.keepIn K (.ref f_L_sums) = true)
    (a_is_fraction : PySem.W.nsIn K mainGlobals "is_fraction" = some (some (.ref f_is_fraction)))
    (l_is_fraction : K.lookup f_is_fraction = some ⟨oc_is_fraction, od_is_fraction, .func (PySem.W.fnOf "is_fraction" "is_fraction" (defArgs s_is_fraction) (defBody s_is_fraction) (defScope s_is_fraction) .none kV_is_fraction doc_is_fraction pm_is_fraction an_is_fraction cdv_is_fraction ct_is_fraction), osl_is_fraction⟩) (c_is_fraction : PySem.W.codeIn K cdv_is_fraction "is_fraction" = true) (k_is_fraction : PySem.W.keepIn K (.ref f_is_fraction) = true)
    (a_is_amount : PySem.W.nsIn K mainGlobals "is_amount" = some (some (.ref f_is_amount)))
    (l_is_amount : K.lookup f_is_amount = some ⟨oc_is_amount, od_is_amount, .func (PySem.W.fnOf "is_amount" "is_amount" (defArgs s_is_amount) (defBody s_is_amount) (defScope s_is_amount) .none kV_is_amount doc_is_amount pm_is_amount an_is_amount cdv_is_amount ct_is_amount), osl_is_amount⟩) (c_is_amount : PySem.W.codeIn K cdv_is_amount "is_amount" = true) (k_is_amount : PySem.W.keepIn K (.ref f_is_amount) = true)
    (a_q_is_side : PySem.W.nsIn K mainGlobals "_is_side" = some (some (.ref f_q_is_side)))
    (l_q_is_side : K.lookup f_q_is_side = some ⟨oc_q_is_side, od_q_is_side, .func (PySem.W.fnOf "_is_side" "_is_side" (defArgs s_q_is_side) (defBody s_q_is_side) (defScope s_q_is_side) .none kV_q_is_side doc_q_is_side pm_q_is_side an_q_is_side cdv_q_is_side ct_q_is_side), osl_q_is_side⟩) (c_q_is_side : PySem.W.codeIn K cdv_q_is_side "_is_side" = true) (k_q_is_side : PySem.W.keepIn K (.ref f_q_is_side) = true)
    (a_Eveningu_initu : PySem.W.findIn K (.ref cEvening) "__init__" = some (some (.ref f_Eveningu_initu))) (i_Eveningu_initu : PySem.W.isFn K (.ref f_Eveningu_initu) = true)
    (l_Eveningu_initu : K.lookup f_Eveningu_initu = some ⟨oc_Eveningu_initu, od_Eveningu_initu, .func (PySem.W.fnOf "__init__" "Evening.__init__" (defArgs s_Eveningu_initu) (defBody s_Eveningu_initu) (defScope s_Eveningu_initu) .none kV_Eveningu_initu doc_Eveningu_initu pm_Eveningu_initu an_Eveningu_initu cdv_Eveningu_initu ct_Eveningu_initu), osl_Eveningu_initu⟩) (c_Eveningu_initu : PySem.W.codeIn K cdv_Eveningu_initu "Evening.__init__" = true) (k_Eveningu_initu : PySem.W.keepIn K (.ref f_Eveningu_initu) = true)
    (a_L_made : PySem.W.nsIn K mainGlobals "_law_made" = some (some (.ref f_L_made)))
    (l_L_made : K.lookup f_L_made = some ⟨oc_L_made, od_L_made, .func (PySem.W.fnOf "_law_made" "_law_made" (defArgs s_L_made) (defBody s_L_made) (defScope s_L_made) .none kV_L_made doc_L_made pm_L_made an_L_made cdv_L_made ct_L_made), osl_L_made⟩) (c_L_made : PySem.W.codeIn K cdv_L_made "_law_made" = true) (k_L_made : PySem.W.keepIn K (.ref f_L_made) = true)
    (a_L_less : PySem.W.nsIn K mainGlobals "_law_less" = some (some (.ref f_L_less)))
    (l_L_less : K.lookup f_L_less = some ⟨oc_L_less, od_L_less, .func (PySem.W.fnOf "_law_less" "_law_less" (defArgs s_L_less) (defBody s_L_less) (defScope s_L_less) .none kV_L_less doc_L_less pm_L_less an_L_less cdv_L_less ct_L_less), osl_L_less⟩) (c_L_less : PySem.W.codeIn K cdv_L_less "_law_less" = true) (k_L_less : PySem.W.keepIn K (.ref f_L_less) = true)
    (a_L_is_below : PySem.W.nsIn K mainGlobals "_law_is_below" = some (some (.ref f_L_is_below)))
    (l_L_is_below : K.lookup f_L_is_below = some ⟨oc_L_is_below, od_L_is_below, .func (PySem.W.fnOf "_law_is_below" "_law_is_below" (defArgs s_L_is_below) (defBody s_L_is_below) (defScope s_L_is_below) .none kV_L_is_below doc_L_is_below pm_L_is_below an_L_is_below cdv_L_is_below ct_L_is_below), osl_L_is_below⟩) (c_L_is_below : PySem.W.codeIn K cdv_L_is_below "_law_is_below" = true) (k_L_is_below : PySem.W.keepIn K (.ref f_L_is_below) = true)
    (a_L_go : PySem.W.nsIn K mainGlobals "_law_go" = some (some (.ref f_L_go)))
    (l_L_go : K.lookup f_L_go = some ⟨oc_L_go, od_L_go, .func (PySem.W.fnOf "_law_go" "_law_go" (defArgs s_L_go) (defBody s_L_go) (defScope s_L_go) .none kV_L_go doc_L_go pm_L_go an_L_go cdv_L_go ct_L_go), osl_L_go⟩) (c_L_go : PySem.W.codeIn K cdv_L_go "_law_go" = true) (k_L_go : PySem.W.keepIn K (.ref f_L_go) = true)
    (a_L_pairs : PySem.W.nsIn K mainGlobals "_law_pairs" = some (some (.ref f_L_pairs)))
    (l_L_pairs : K.lookup f_L_pairs = some ⟨oc_L_pairs, od_L_pairs, .func (PySem.W.fnOf "_law_pairs" "_law_pairs" (defArgs s_L_pairs) (defBody s_L_pairs) (defScope s_L_pairs) .none kV_L_pairs doc_L_pairs pm_L_pairs an_L_pairs cdv_L_pairs ct_L_pairs), osl_L_pairs⟩) (c_L_pairs : PySem.W.codeIn K cdv_L_pairs "_law_pairs" = true) (k_L_pairs : PySem.W.keepIn K (.ref f_L_pairs) = true)
    (a_L_row : PySem.W.nsIn K mainGlobals "_law_row" = some (some (.ref f_L_row)))
    (l_L_row : K.lookup f_L_row = some ⟨oc_L_row, od_L_row, .func (PySem.W.fnOf "_law_row" "_law_row" (defArgs s_L_row) (defBody s_L_row) (defScope s_L_row) .none kV_L_row doc_L_row pm_L_row an_L_row cdv_L_row ct_L_row), osl_L_row⟩) (c_L_row : PySem.W.codeIn K cdv_L_row "_law_row" = true) (k_L_row : PySem.W.keepIn K (.ref f_L_row) = true)
    (a_L_way : PySem.W.nsIn K mainGlobals "_law_way" = some (some (.ref f_L_way)))
    (l_L_way : K.lookup f_L_way = some ⟨oc_L_way, od_L_way, .func (PySem.W.fnOf "_law_way" "_law_way" (defArgs s_L_way) (defBody s_L_way) (defScope s_L_way) .none kV_L_way doc_L_way pm_L_way an_L_way cdv_L_way ct_L_way), osl_L_way⟩) (c_L_way : PySem.W.codeIn K cdv_L_way "_law_way" = true) (k_L_way : PySem.W.keepIn K (.ref f_L_way) = true)
    (a_L_doubles : PySem.W.nsIn K mainGlobals "_law_doubles" = some (some (.ref f_L_doubles)))
    (l_L_doubles : K.lookup f_L_doubles = some ⟨oc_L_doubles, od_L_doubles, .func (PySem.W.fnOf "_law_doubles" "_law_doubles" (defArgs s_L_doubles) (defBody s_L_doubles) (defScope s_L_doubles) .none kV_L_doubles doc_L_doubles pm_L_doubles an_L_doubles cdv_L_doubles ct_L_doubles), osl_L_doubles⟩) (c_L_doubles : PySem.W.codeIn K cdv_L_doubles "_law_doubles" = true) (k_L_doubles : PySem.W.keepIn K (.ref f_L_doubles) = true)
    (a_L_pieces : PySem.W.nsIn K mainGlobals "_law_pieces" = some (some (.ref f_L_pieces)))
    (l_L_pieces : K.lookup f_L_pieces = some ⟨oc_L_pieces, od_L_pieces, .func (PySem.W.fnOf "_law_pieces" "_law_pieces" (defArgs s_L_pieces) (defBody s_L_pieces) (defScope s_L_pieces) .none kV_L_pieces doc_L_pieces pm_L_pieces an_L_pieces cdv_L_pieces ct_L_pieces), osl_L_pieces⟩) (c_L_pieces : PySem.W.codeIn K cdv_L_pieces "_law_pieces" = true) (k_L_pieces : PySem.W.keepIn K (.ref f_L_pieces) = true)
    (a_law : PySem.W.nsIn K mainGlobals "law" = some (some (.ref f_law)))
    (l_law : K.lookup f_law = some ⟨oc_law, od_law, .func (PySem.W.fnOf "law" "law" (defArgs s_law) (defBody s_law) (defScope s_law) .none kV_law doc_law pm_law an_law cdv_law ct_law), osl_law⟩) (c_law : PySem.W.codeIn K cdv_law "law" = true) (k_law : PySem.W.keepIn K (.ref f_law) = true)
    : ∃ fd : FuncData, (∀ (s : Shared) (v : Value), BindsTo s fd ⟨[v], []⟩ [("_law_script", v)]) ∧ ∀ base : Heap, K.In base → base.Ns mainGlobals mg → FnOk l.prog w K mg base CX0 8 fa fd ["_law_script"] (sp_top K) := by
  have e := hfa.symm.trans (PySem.W.mg_of X G a_law)
  cases e
  have F := fun_mk (st := s_law) l_law c_law k_law
  have d_Tally_pay : MethAt K cTally "pay" "Tally.pay" s_Tally_pay := ⟨_, _, _, _, _, _, _, _, _, _, a_Tally_pay, i_Tally_pay, l_Tally_pay, c_Tally_pay, k_Tally_pay⟩
  have d_is_integer : DefAt K "is_integer" s_is_integer := ⟨_, _, _, _, _, _, _, _, _, _, a_is_integer, l_is_integer, c_is_integer, k_is_integer⟩
  have d_is_number_below : DefAt K "is_number_below" s_is_number_below := ⟨_, _, _, _, _, _, _, _, _, _, a_is_number_below, l_is_number_below, c_is_number_below, k_is_number_below⟩
  have d_is_two_people : DefAt K "is_two_people" s_is_two_people := ⟨_, _, _, _, _, _, _, _, _, _, a_is_two_people, l_is_two_people, c_is_two_people, k_is_two_people⟩
  have d_Tally_allows : MethAt K cTally "allows" "Tally.allows" s_Tally_allows := ⟨_, _, _, _, _, _, _, _, _, _, a_Tally_allows, i_Tally_allows, l_Tally_allows, c_Tally_allows, k_Tally_allows⟩
  have d_paid_units : DefAt K "paid_units" s_paid_units := ⟨_, _, _, _, _, _, _, _, _, _, a_paid_units, l_paid_units, c_paid_units, k_paid_units⟩
  have d_common_bottom : DefAt K "common_bottom" s_common_bottom := ⟨_, _, _, _, _, _, _, _, _, _, a_common_bottom, l_common_bottom, c_common_bottom, k_common_bottom⟩
  have d_in_units : DefAt K "in_units" s_in_units := ⟨_, _, _, _, _, _, _, _, _, _, a_in_units, l_in_units, c_in_units, k_in_units⟩
  have d_Tallyu_initu : MethAt K cTally "__init__" "Tally.__init__" s_Tallyu_initu := ⟨_, _, _, _, _, _, _, _, _, _, a_Tallyu_initu, i_Tallyu_initu, l_Tallyu_initu, c_Tallyu_initu, k_Tallyu_initu⟩
  have d_Tally_is_over : MethAt K cTally "is_over" "Tally.is_over" s_Tally_is_over := ⟨_, _, _, _, _, _, _, _, _, _, a_Tally_is_over, i_Tally_is_over, l_Tally_is_over, c_Tally_is_over, k_Tally_is_over⟩
  have d_is_way : DefAt K "is_way" s_is_way := ⟨_, _, _, _, _, _, _, _, _, _, a_is_way, l_is_way, c_is_way, k_is_way⟩
  have d_doubles : DefAt K "doubles" s_doubles := ⟨_, _, _, _, _, _, _, _, _, _, a_doubles, l_doubles, c_doubles, k_doubles⟩
  have d_hanging_marks : DefAt K "hanging_marks" s_hanging_marks := ⟨_, _, _, _, _, _, _, _, _, _, a_hanging_marks, l_hanging_marks, c_hanging_marks, k_hanging_marks⟩
  have d_q_marked : DefAt K "_marked" s_q_marked := ⟨_, _, _, _, _, _, _, _, _, _, a_q_marked, l_q_marked, c_q_marked, k_q_marked⟩
  have d_pieces : DefAt K "pieces" s_pieces := ⟨_, _, _, _, _, _, _, _, _, _, a_pieces, l_pieces, c_pieces, k_pieces⟩
  have d_lowest : DefAt K "lowest" s_lowest := ⟨_, _, _, _, _, _, _, _, _, _, a_lowest, l_lowest, c_lowest, k_lowest⟩
  have d_added : DefAt K "added" s_added := ⟨_, _, _, _, _, _, _, _, _, _, a_added, l_added, c_added, k_added⟩
  have d_is_ascending : DefAt K "is_ascending" s_is_ascending := ⟨_, _, _, _, _, _, _, _, _, _, a_is_ascending, l_is_ascending, c_is_ascending, k_is_ascending⟩
  have d_is_lot : DefAt K "is_lot" s_is_lot := ⟨_, _, _, _, _, _, _, _, _, _, a_is_lot, l_is_lot, c_is_lot, k_is_lot⟩
  have d_is_group : DefAt K "is_group" s_is_group := ⟨_, _, _, _, _, _, _, _, _, _, a_is_group, l_is_group, c_is_group, k_is_group⟩
  have d_q_sums_of : DefAt K "_sums_of" s_q_sums_of := ⟨_, _, _, _, _, _, _, _, _, _, a_q_sums_of, l_q_sums_of, c_q_sums_of, k_q_sums_of⟩
  have d_is_even : DefAt K "is_even" s_is_even := ⟨_, _, _, _, _, _, _, _, _, _, a_is_even, l_is_even, c_is_even, k_is_even⟩
  have d_L_hand : DefAt K "_law_hand" s_L_hand := ⟨_, _, _, _, _, _, _, _, _, _, a_L_hand, l_L_hand, c_L_hand, k_L_hand⟩
  have d_L_draw : DefAt K "_law_draw" s_L_draw := ⟨_, _, _, _, _, _, _, _, _, _, a_L_draw, l_L_draw, c_L_draw, k_L_draw⟩
  have d_L_common : DefAt K "_law_common" s_L_common := ⟨_, _, _, _, _, _, _, _, _, _, a_L_common, l_L_common, c_L_common, k_L_common⟩
  have d_L_fraction : DefAt K "_law_fraction" s_L_fraction := ⟨_, _, _, _, _, _, _, _, _, _, a_L_fraction, l_L_fraction, c_L_fraction, k_L_fraction⟩
  have d_L_times : DefAt K "_law_times" s_L_times := ⟨_, _, _, _, _, _, _, _, _, _, a_L_times, l_L_times, c_L_times, k_L_times⟩
  have d_L_cut : DefAt K "_law_cut" s_L_cut := ⟨_, _, _, _, _, _, _, _, _, _, a_L_cut, l_L_cut, c_L_cut, k_L_cut⟩
  have d_L_numbers : DefAt K "_law_numbers" s_L_numbers := ⟨_, _, _, _, _, _, _, _, _, _, a_L_numbers, l_L_numbers, c_L_numbers, k_L_numbers⟩
  have d_L_unit : DefAt K "_law_unit" s_L_unit := ⟨_, _, _, _, _, _, _, _, _, _, a_L_unit, l_L_unit, c_L_unit, k_L_unit⟩
  have d_L_sums : DefAt K "_law_sums" s_L_sums := ⟨_, _, _, _, _, _, _, _, _, _, a_L_sums, l_L_sums, c_L_sums, k_L_sums⟩
  have d_is_fraction : DefAt K "is_fraction" s_is_fraction := ⟨_, _, _, _, _, _, _, _, _, _, a_is_fraction, l_is_fraction, c_is_fraction, k_is_fraction⟩
  have d_is_amount : DefAt K "is_amount" s_is_amount := ⟨_, _, _, _, _, _, _, _, _, _, a_is_amount, l_is_amount, c_is_amount, k_is_amount⟩
  have d_q_is_side : DefAt K "_is_side" s_q_is_side := ⟨_, _, _, _, _, _, _, _, _, _, a_q_is_side, l_q_is_side, c_q_is_side, k_q_is_side⟩
  have d_Eveningu_initu : MethAt K cEvening "__init__" "Evening.__init__" s_Eveningu_initu := ⟨_, _, _, _, _, _, _, _, _, _, a_Eveningu_initu, i_Eveningu_initu, l_Eveningu_initu, c_Eveningu_initu, k_Eveningu_initu⟩
  have d_L_made : DefAt K "_law_made" s_L_made := ⟨_, _, _, _, _, _, _, _, _, _, a_L_made, l_L_made, c_L_made, k_L_made⟩
  have d_L_less : DefAt K "_law_less" s_L_less := ⟨_, _, _, _, _, _, _, _, _, _, a_L_less, l_L_less, c_L_less, k_L_less⟩
  have d_L_is_below : DefAt K "_law_is_below" s_L_is_below := ⟨_, _, _, _, _, _, _, _, _, _, a_L_is_below, l_L_is_below, c_L_is_below, k_L_is_below⟩
  have d_L_go : DefAt K "_law_go" s_L_go := ⟨_, _, _, _, _, _, _, _, _, _, a_L_go, l_L_go, c_L_go, k_L_go⟩
  have d_L_pairs : DefAt K "_law_pairs" s_L_pairs := ⟨_, _, _, _, _, _, _, _, _, _, a_L_pairs, l_L_pairs, c_L_pairs, k_L_pairs⟩
  have d_L_row : DefAt K "_law_row" s_L_row := ⟨_, _, _, _, _, _, _, _, _, _, a_L_row, l_L_row, c_L_row, k_L_row⟩
  have d_L_way : DefAt K "_law_way" s_L_way := ⟨_, _, _, _, _, _, _, _, _, _, a_L_way, l_L_way, c_L_way, k_L_way⟩
  have d_L_doubles : DefAt K "_law_doubles" s_L_doubles := ⟨_, _, _, _, _, _, _, _, _, _, a_L_doubles, l_L_doubles, c_L_doubles, k_L_doubles⟩
  have d_L_pieces : DefAt K "_law_pieces" s_L_pieces := ⟨_, _, _, _, _, _, _, _, _, _, a_L_pieces, l_L_pieces, c_L_pieces, k_L_pieces⟩
  have d_law : DefAt K "law" s_law := ⟨_, _, _, _, _, _, _, _, _, _, a_law, l_law, c_law, k_law⟩
  have cl_Tally : Cls K cTally := ⟨pg_Tally, hd_Tally, po_Tally, sa_Tally⟩
  have cl_Evening : Cls K cEvening := ⟨pg_Evening, hd_Evening, po_Evening, sa_Evening⟩
  have T : CT K (⟨cEvening, cTally, 0, 0, 0, 0⟩ : CA) := ⟨cl_Evening, na_nO, na_nD⟩
  have TT : CTT K (⟨cEvening, cTally, 0, 0, 0, 0⟩ : CA) := ⟨cl_Tally, na_tB, na_tO, na_tA⟩
  have B : Bi mg (⟨cEvening, cTally, 0, 0, 0, 0⟩ : CA) := ⟨PySem.W.mg_none_of X G z_abs, PySem.W.mg_none_of X G z_all, PySem.W.mg_none_of X G z_any, PySem.W.mg_none_of X G z_bool, PySem.W.mg_none_of X G z_enumerate, PySem.W.mg_none_of X G z_int, PySem.W.mg_none_of X G z_isinstance, PySem.W.mg_none_of X G z_len, PySem.W.mg_none_of X G z_list, PySem.W.mg_none_of X G z_max, PySem.W.mg_none_of X G z_min, PySem.W.mg_none_of X G z_range, PySem.W.mg_none_of X G z_set, PySem.W.mg_none_of X G z_sorted, PySem.W.mg_none_of X G z_sum, PySem.W.mg_none_of X G z_tuple, ⟨_, PySem.W.mg_of X G z_MOST_SUMS, r_MOST_SUMS⟩, PySem.W.mg_of X G z_gcd, PySem.W.mg_of X G z_lcm⟩
  refine ⟨PySem.W.fnOf "law" "law" (defArgs s_law) (defBody s_law) (defScope s_law) .none kV_law doc_law pm_law an_law cdv_law ct_law, fun s v => .of_eq rfl, fun base _ _ => ?_⟩
  have D_Tally_pay : Okf l.prog w K mg base 1 "pay" cTally ["self", "ower", "taker"] (sp_Tally_pay K (⟨cEvening, cTally, 0, 0, 0, 0⟩ : CA)) := d_Tally_pay.okf cl_Tally (fun _ _ _ _ _ _ us hl => match us, hl with | [_, _, _], _ => rfl) (fun f fd F => ok_Tally_pay T TT B F )
  have D_is_integer : Okd l.prog w K mg base 1 "is_integer" ["thing"] (sp_is_integer K (⟨cEvening, cTally, 0, 0, 0, 0⟩ : CA)) := d_is_integer.okd X G (fun _ _ _ _ _ _ us hl => match us, hl with | [_], _ => rfl) (fun f fd F => ok_is_integer T TT B F )
  have D_is_number_below : Okd l.prog w K mg base 2 "is_number_below" ["thing", "many"] (sp_is_number_below K (⟨cEvening, cTally, 0, 0, 0, 0⟩ : CA)) := d_is_number_below.okd X G (fun _ _ _ _ _ _ us hl => match us, hl with | [_, _], _ => rfl) (fun f fd F => ok_is_number_below T TT B F D_is_integer)
  have D_is_two_people : Okd l.prog w K mg base 3 "is_two_people" ["thing", "owers", "takers"] (sp_is_two_people K (⟨cEvening, cTally, 0, 0, 0, 0⟩ : CA)) := d_is_two_people.okd X G (fun _ _ _ _ _ _ us hl => match us, hl with | [_, _, _], _ => rfl) (fun f fd F => ok_is_two_people T TT B F D_is_number_below)
  have D_Tally_allows : Okf l.prog w K mg base 4 "allows" cTally ["self", "thing"] (sp_Tally_allows K (⟨cEvening, cTally, 0, 0, 0, 0⟩ : CA)) := d_Tally_allows.okf cl_Tally (fun _ _ _ _ _ _ us hl => match us, hl with | [_, _], _ => rfl) (fun f fd F => ok_Tally_allows T TT B F D_is_two_people)
  have D_paid_units : Okd l.prog w K mg base 5 "paid_units" ["tally", "thing"] (sp_paid_units K (⟨cEvening, cTally, 0, 0, 0, 0⟩ : CA)) := d_paid_units.okd X G (fun _ _ _ _ _ _ us hl => match us, hl with | [_, _], _ => rfl) (fun f fd F => ok_paid_units T TT B F D_Tally_allows D_Tally_pay)
  have D_common_bottom : Okd l.prog w K mg base 1 "common_bottom" ["fractions"] (sp_common_bottom K (⟨cEvening, cTally, 0, 0, 0, 0⟩ : CA)) := d_common_bottom.okd X G (fun _ _ _ _ _ _ us hl => match us, hl with | [_], _ => rfl) (fun f fd F => ok_common_bottom T TT B F )
  have D_in_units : Okd l.prog w K mg base 1 "in_units" ["fractions", "shared"] (sp_in_units K (⟨cEvening, cTally, 0, 0, 0, 0⟩ : CA)) := d_in_units.okd X G (fun _ _ _ _ _ _ us hl => match us, hl with | [_, _], _ => rfl) (fun f fd F => ok_in_units T TT B F )
  have D_Tallyu_initu : Okm l.prog w K mg base 2 "Tally" cTally ["self", "evening"] (sp_Tallyu_initu K (⟨cEvening, cTally, 0, 0, 0, 0⟩ : CA)) := d_Tallyu_initu.okm (PySem.W.mg_of X G h_Tally) mk_Tally kc_Tally (fun _ _ _ _ _ _ us hl => match us, hl with | [_, _], _ => rfl) (fun f fd F => ok_Tallyu_initu T TT B F D_common_bottom D_in_units)
  have D_Tally_is_over : Okf l.prog w K mg base 1 "is_over" cTally ["self"] (sp_Tally_is_over K (⟨cEvening, cTally, 0, 0, 0, 0⟩ : CA)) := d_Tally_is_over.okf cl_Tally (fun _ _ _ _ _ _ us hl => match us, hl with | [_], _ => rfl) (fun f fd F => ok_Tally_is_over T TT B F )
  have D_is_way : Okd l.prog w K mg base 6 "is_way" ["evening", "thing"] (sp_is_way K (⟨cEvening, cTally, 0, 0, 0, 0⟩ : CA)) := d_is_way.okd X G (fun _ _ _ _ _ _ us hl => match us, hl with | [_, _], _ => rfl) (fun f fd F => ok_is_way T TT B F D_paid_units D_Tallyu_initu D_Tally_is_over)
  have D_doubles : Okd l.prog w K mg base 7 "doubles" ["evening", "way"] (sp_doubles K (⟨cEvening, cTally, 0, 0, 0, 0⟩ : CA)) := d_doubles.okd X G (fun _ _ _ _ _ _ us hl => match us, hl with | [_, _], _ => rfl) (fun f fd F => ok_doubles T TT B F D_is_way D_Tallyu_initu D_Tally_pay)
  have D_hanging_marks : Okd l.prog w K mg base 1 "hanging_marks" ["owers", "takers", "pairs"] (sp_hanging_marks K (⟨cEvening, cTally, 0, 0, 0, 0⟩ : CA)) := d_hanging_marks.okd X G (fun _ _ _ _ _ _ us hl => match us, hl with | [_, _, _], _ => rfl) (fun f fd F => ok_hanging_marks T TT B F )
  have D_q_marked : Okd l.prog w K mg base 1 "_marked" ["marks", "owers", "wanted"] (sp_q_marked K (⟨cEvening, cTally, 0, 0, 0, 0⟩ : CA)) := d_q_marked.okd X G (fun _ _ _ _ _ _ us hl => match us, hl with | [_, _, _], _ => rfl) (fun f fd F => ok_q_marked T TT B F )
  have D_pieces : Okd l.prog w K mg base 7 "pieces" ["evening", "way"] (sp_pieces K (⟨cEvening, cTally, 0, 0, 0, 0⟩ : CA)) := d_pieces.okd X G (fun _ _ _ _ _ _ us hl => match us, hl with | [_, _], _ => rfl) (fun f fd F => ok_pieces T TT B F D_hanging_marks D_is_way D_q_marked)
  have D_lowest : Okd l.prog w K mg base 1 "lowest" ["top", "bottom"] (sp_lowest K (⟨cEvening, cTally, 0, 0, 0, 0⟩ : CA)) := d_lowest.okd X G (fun _ _ _ _ _ _ us hl => match us, hl with | [_, _], _ => rfl) (fun f fd F => ok_lowest T TT B F )
  have D_added : Okd l.prog w K mg base 2 "added" ["fractions"] (sp_added K (⟨cEvening, cTally, 0, 0, 0, 0⟩ : CA)) := d_added.okd X G (fun _ _ _ _ _ _ us hl => match us, hl with | [_], _ => rfl) (fun f fd F => ok_added T TT B F D_lowest D_common_bottom D_in_units)
  have D_is_ascending : Okd l.prog w K mg base 1 "is_ascending" ["items"] (sp_is_ascending K (⟨cEvening, cTally, 0, 0, 0, 0⟩ : CA)) := d_is_ascending.okd X G (fun _ _ _ _ _ _ us hl => match us, hl with | [_], _ => rfl) (fun f fd F => ok_is_ascending T TT B F )
  have D_is_lot : Okd l.prog w K mg base 3 "is_lot" ["thing", "many"] (sp_is_lot K (⟨cEvening, cTally, 0, 0, 0, 0⟩ : CA)) := d_is_lot.okd X G (fun _ _ _ _ _ _ us hl => match us, hl with | [_, _], _ => rfl) (fun f fd F => ok_is_lot T TT B F D_is_number_below D_is_ascending)
  have D_is_group : Okd l.prog w K mg base 4 "is_group" ["evening", "thing"] (sp_is_group K (⟨cEvening, cTally, 0, 0, 0, 0⟩ : CA)) := d_is_group.okd X G (fun _ _ _ _ _ _ us hl => match us, hl with | [_, _], _ => rfl) (fun f fd F => ok_is_group T TT B F D_is_lot)
  have D_q_sums_of : Okd l.prog w K mg base 1 "_sums_of" ["evening", "group"] (sp_q_sums_of K (⟨cEvening, cTally, 0, 0, 0, 0⟩ : CA)) := d_q_sums_of.okd X G (fun _ _ _ _ _ _ us hl => match us, hl with | [_, _], _ => rfl) (fun f fd F => ok_q_sums_of T TT B F )
  have D_is_even : Okd l.prog w K mg base 5 "is_even" ["evening", "thing"] (sp_is_even K (⟨cEvening, cTally, 0, 0, 0, 0⟩ : CA)) := d_is_even.okd X G (fun _ _ _ _ _ _ us hl => match us, hl with | [_, _], _ => rfl) (fun f fd F => ok_is_even T TT B F D_added D_is_group D_q_sums_of)
  have D_L_hand : Okd l.prog w K mg base 1 "_law_hand" ["_law_script"] (sp_L_hand K (⟨cEvening, cTally, 0, 0, 0, 0⟩ : CA)) := d_L_hand.okd X G (fun _ _ _ _ _ _ us hl => match us, hl with | [_], _ => rfl) (fun f fd F => ok_L_hand T TT B F )
  have D_L_draw : Okd l.prog w K mg base 1 "_law_draw" ["_law_hand_here", "_law_many"] (sp_L_draw K (⟨cEvening, cTally, 0, 0, 0, 0⟩ : CA)) := d_L_draw.okd X G (fun _ _ _ _ _ _ us hl => match us, hl with | [_, _], _ => rfl) (fun f fd F => ok_L_draw T TT B F )
  have D_L_common : Okd l.prog w K mg base 1 "_law_common" ["_law_one", "_law_other"] (sp_L_common K (⟨cEvening, cTally, 0, 0, 0, 0⟩ : CA)) := d_L_common.okd X G (fun _ _ _ _ _ _ us hl => match us, hl with | [_, _], _ => rfl) (fun f fd F => ok_L_common T TT B F )
  have D_L_fraction : Okd l.prog w K mg base 2 "_law_fraction" ["_law_top", "_law_bottom"] (sp_L_fraction K (⟨cEvening, cTally, 0, 0, 0, 0⟩ : CA)) := d_L_fraction.okd X G (fun _ _ _ _ _ _ us hl => match us, hl with | [_, _], _ => rfl) (fun f fd F => ok_L_fraction T TT B F D_L_common)
  have D_L_times : Okd l.prog w K mg base 3 "_law_times" ["_law_one", "_law_other"] (sp_L_times K (⟨cEvening, cTally, 0, 0, 0, 0⟩ : CA)) := d_L_times.okd X G (fun _ _ _ _ _ _ us hl => match us, hl with | [_, _], _ => rfl) (fun f fd F => ok_L_times T TT B F D_L_fraction)
  have D_L_cut : Okd l.prog w K mg base 2 "_law_cut" ["_law_hand_here", "_law_full", "_law_many"] (sp_L_cut K (⟨cEvening, cTally, 0, 0, 0, 0⟩ : CA)) := d_L_cut.okd X G (fun _ _ _ _ _ _ us hl => match us, hl with | [_, _, _], _ => rfl) (fun f fd F => ok_L_cut T TT B F D_L_draw)
  have D_L_numbers : Okd l.prog w K mg base 3 "_law_numbers" ["_law_hand_here", "_law_side", "_law_most"] (sp_L_numbers K (⟨cEvening, cTally, 0, 0, 0, 0⟩ : CA)) := d_L_numbers.okd X G (fun _ _ _ _ _ _ us hl => match us, hl with | [_, _, _], _ => rfl) (fun f fd F => ok_L_numbers T TT B F D_L_draw D_L_cut)
  have D_L_unit : Okd l.prog w K mg base 2 "_law_unit" ["_law_hand_here"] (sp_L_unit K (⟨cEvening, cTally, 0, 0, 0, 0⟩ : CA)) := d_L_unit.okd X G (fun _ _ _ _ _ _ us hl => match us, hl with | [_], _ => rfl) (fun f fd F => ok_L_unit T TT B F D_L_draw)
  have D_L_sums : Okd l.prog w K mg base 4 "_law_sums" ["_law_hand_here", "_law_side", "_law_most"] (sp_L_sums K (⟨cEvening, cTally, 0, 0, 0, 0⟩ : CA)) := d_L_sums.okd X G (fun _ _ _ _ _ _ us hl => match us, hl with | [_, _, _], _ => rfl) (fun f fd F => ok_L_sums T TT B F D_L_times D_L_numbers D_L_unit)
  have D_is_fraction : Okd l.prog w K mg base 2 "is_fraction" ["thing"] (sp_is_fraction K (⟨cEvening, cTally, 0, 0, 0, 0⟩ : CA)) := d_is_fraction.okd X G (fun _ _ _ _ _ _ us hl => match us, hl with | [_], _ => rfl) (fun f fd F => ok_is_fraction T TT B F D_is_integer)
  have D_is_amount : Okd l.prog w K mg base 3 "is_amount" ["thing"] (sp_is_amount K (⟨cEvening, cTally, 0, 0, 0, 0⟩ : CA)) := d_is_amount.okd X G (fun _ _ _ _ _ _ us hl => match us, hl with | [_], _ => rfl) (fun f fd F => ok_is_amount T TT B F D_is_fraction)
  have D_q_is_side : Okd l.prog w K mg base 4 "_is_side" ["thing"] (sp_q_is_side K (⟨cEvening, cTally, 0, 0, 0, 0⟩ : CA)) := d_q_is_side.okd X G (fun _ _ _ _ _ _ us hl => match us, hl with | [_], _ => rfl) (fun f fd F => ok_q_is_side T TT B F D_is_amount)
  have D_Eveningu_initu : Okm l.prog w K mg base 5 "Evening" cEvening ["self", "owed", "due"] (sp_Eveningu_initu K (⟨cEvening, cTally, 0, 0, 0, 0⟩ : CA)) := d_Eveningu_initu.okm (PySem.W.mg_of X G h_Evening) mk_Evening kc_Evening (fun _ _ _ _ _ _ us hl => match us, hl with | [_, _, _], _ => rfl) (fun f fd F => ok_Eveningu_initu T TT B F D_added D_q_is_side)
  have D_L_made : Okd l.prog w K mg base 7 "_law_made" ["_law_sums_here"] (sp_L_made K (⟨cEvening, cTally, 0, 0, 0, 0⟩ : CA)) := d_L_made.okd X G (fun _ _ _ _ _ _ us hl => match us, hl with | [_], _ => rfl) (fun f fd F => ok_L_made T TT B F D_Eveningu_initu)
  have D_L_less : Okd l.prog w K mg base 3 "_law_less" ["_law_one", "_law_other"] (sp_L_less K (⟨cEvening, cTally, 0, 0, 0, 0⟩ : CA)) := d_L_less.okd X G (fun _ _ _ _ _ _ us hl => match us, hl with | [_, _], _ => rfl) (fun f fd F => ok_L_less T TT B F D_L_fraction)
  have D_L_is_below : Okd l.prog w K mg base 1 "_law_is_below" ["_law_one", "_law_other"] (sp_L_is_below K (⟨cEvening, cTally, 0, 0, 0, 0⟩ : CA)) := d_L_is_below.okd X G (fun _ _ _ _ _ _ us hl => match us, hl with | [_, _], _ => rfl) (fun f fd F => ok_L_is_below T TT B F )
  have D_L_go : Okd l.prog w K mg base 4 "_law_go" ["_law_state", "_law_pair"] (sp_L_go K (⟨cEvening, cTally, 0, 0, 0, 0⟩ : CA)) := d_L_go.okd X G (fun _ _ _ _ _ _ us hl => match us, hl with | [_, _], _ => rfl) (fun f fd F => ok_L_go T TT B F D_L_less D_L_is_below)
  have D_L_pairs : Okd l.prog w K mg base 1 "_law_pairs" ["_law_state"] (sp_L_pairs K (⟨cEvening, cTally, 0, 0, 0, 0⟩ : CA)) := d_L_pairs.okd X G (fun _ _ _ _ _ _ us hl => match us, hl with | [_], _ => rfl) (fun f fd F => ok_L_pairs T TT B F )
  have D_L_row : Okd l.prog w K mg base 5 "_law_row" ["_law_hand_here", "_law_sums_here", "_law_most"] (sp_L_row K (⟨cEvening, cTally, 0, 0, 0, 0⟩ : CA)) := d_L_row.okd X G (fun _ _ _ _ _ _ us hl => match us, hl with | [_, _, _], _ => rfl) (fun f fd F => ok_L_row T TT B F D_L_draw D_L_go D_L_pairs)
  have D_L_way : Okd l.prog w K mg base 6 "_law_way" ["_law_hand_here", "_law_sums_here"] (sp_L_way K (⟨cEvening, cTally, 0, 0, 0, 0⟩ : CA)) := d_L_way.okd X G (fun _ _ _ _ _ _ us hl => match us, hl with | [_, _], _ => rfl) (fun f fd F => ok_L_way T TT B F D_L_row)
  have D_L_doubles : Okd l.prog w K mg base 5 "_law_doubles" ["_law_sums_here", "_law_way_here"] (sp_L_doubles K (⟨cEvening, cTally, 0, 0, 0, 0⟩ : CA)) := d_L_doubles.okd X G (fun _ _ _ _ _ _ us hl => match us, hl with | [_, _], _ => rfl) (fun f fd F => ok_L_doubles T TT B F D_L_go)
  have D_L_pieces : Okd l.prog w K mg base 1 "_law_pieces" ["_law_sums_here", "_law_way_here"] (sp_L_pieces K (⟨cEvening, cTally, 0, 0, 0, 0⟩ : CA)) := d_L_pieces.okd X G (fun _ _ _ _ _ _ us hl => match us, hl with | [_, _], _ => rfl) (fun f fd F => ok_L_pieces T TT B F )
  exact ok_law T TT B F D_doubles D_pieces D_is_even D_L_hand D_L_draw D_L_sums D_L_made D_L_way D_L_doubles D_L_pieces
theorem walk {l : PySem.W.OpenLaw} {q : Program} {loose : List Str} {XP : (Str → Option Value) → Heap → Prop} {YP : World → Heap → Prop} {d : DefRec} {K : Params → PySem.W.Frag} (hn : l.most = some 63) (hdf : d.params.defaults = [])
    (hY : ∀ (w : World) (h : Heap), YP w h → (K w.params).In h)
    (F : ∀ (w : World) (mg : Str → Option Value) (fa : Addr) (h : Heap), (K w.params).In h → h.Ns mainGlobals mg → mg d.name = some (.ref fa) →
      ∃ fd : FuncData, (∀ (s : Shared) (u : Value), BindsTo s fd ⟨[u], []⟩ [("_law_script", u)]) ∧ ∀ base : Heap, (K w.params).In base → base.Ns mainGlobals mg → FnOk l.prog w (K w.params) mg base CX0 8 fa fd ["_law_script"] (sp_top (K w.params))) :
    PySem.W.WalkO q loose XP YP l.row.toRowW d [] (fun f vs => PySem.call f vs) :=
  L2.walk_of (n := 63) (k := 8) (x := "_law_script") (CX := fun _ => CX0) (sp := fun w => sp_top (K w.params)) hn (by decide) hdf ⟨rfl, by decide, by decide⟩ hY F (fun _ _ a ns hl _ hS => ⟨a, ns, rfl, hS, hl, fun _ => rfl⟩) fun _ _ _ _ _ z => z
end QW

open PySem PySem.W PyProof.Rows in
set_option maxRecDepth 100000 in
set_option maxHeartbeats 0 in
theorem PySem.Challenge.cw_quitsways_k10_whole_doubles_and_pieces_holds : PySem.Challenge.rw_quitsways_k10_whole_doubles_and_pieces.Holds := by
  w_on; o_law; k_head; (case hw => w_witness2)
  k_fill
  refine QW.walk (l := PySem.Challenge.rw_quitsways_k10_whole_doubles_and_pieces) rfl rfl (fun w h Y => PySem.W.kIn_of Y) ?F
  case F =>
    intro w mg fa h KX G hmg
    refine' QW.all_mk KX G hmg ?h_Tally ?pg_Tally ?hd_Tally ?po_Tally ?sa_Tally ?mk_Tally ?kc_Tally ?h_Evening ?pg_Evening ?hd_Evening ?po_Evening ?sa_Evening ?mk_Evening ?kc_Evening ?na_nO ?na_nD ?na_tB ?na_tO ?na_tA ?z_abs ?z_all ?z_any ?z_bool ?z_enumerate ?z_int ?z_isinstance ?z_len ?z_list ?z_max ?z_min ?z_range ?z_set ?z_sorted ?z_sum ?z_tuple ?z_MOST_SUMS ?r_MOST_SUMS ?z_gcd ?z_lcm ?a_Tally_pay ?i_Tally_pay ?l_Tally_pay ?c_Tally_pay ?k_Tally_pay ?a_is_integer ?l_is_integer ?c_is_integer ?k_is_integer ?a_is_number_below ?l_is_number_below ?c_is_number_below ?k_is_number_below ?a_is_two_people ?l_is_two_people ?c_is_two_people ?k_is_two_people ?a_Tally_allows ?i_Tally_allows ?l_Tally_allows ?c_Tally_allows ?k_Tally_allows ?a_paid_units ?l_paid_units ?c_paid_units ?k_paid_units ?a_common_bottom ?l_common_bottom ?c_common_bottom ?k_common_bottom ?a_in_units ?l_in_units ?c_in_units ?k_in_units ?a_Tallyu_initu ?i_Tallyu_initu ?l_Tallyu_initu ?c_Tallyu_initu ?k_Tallyu_initu ?a_Tally_is_over ?i_Tally_is_over ?l_Tally_is_over ?c_Tally_is_over ?k_Tally_is_over ?a_is_way ?l_is_way ?c_is_way ?k_is_way ?a_doubles ?l_doubles ?c_doubles ?k_doubles ?a_hanging_marks ?l_hanging_marks ?c_hanging_marks ?k_hanging_marks ?a_q_marked ?l_q_marked ?c_q_marked ?k_q_marked ?a_pieces ?l_pieces ?c_pieces ?k_pieces ?a_lowest ?l_lowest ?c_lowest ?k_lowest ?a_added ?l_added ?c_added ?k_added ?a_is_ascending ?l_is_ascending ?c_is_ascending ?k_is_ascending ?a_is_lot ?l_is_lot ?c_is_lot ?k_is_lot ?a_is_group ?l_is_group ?c_is_group ?k_is_group ?a_q_sums_of ?l_q_sums_of ?c_q_sums_of ?k_q_sums_of ?a_is_even ?l_is_even ?c_is_even ?k_is_even ?a_L_hand ?l_L_hand ?c_L_hand ?k_L_hand ?a_L_draw ?l_L_draw ?c_L_draw ?k_L_draw ?a_L_common ?l_L_common ?c_L_common ?k_L_common ?a_L_fraction ?l_L_fraction ?c_L_fraction ?k_L_fraction ?a_L_times ?l_L_times ?c_L_times ?k_L_times ?a_L_cut ?l_L_cut ?c_L_cut ?k_L_cut ?a_L_numbers ?l_L_numbers ?c_L_numbers ?k_L_numbers ?a_L_unit ?l_L_unit ?c_L_unit ?k_L_unit ?a_L_sums ?l_L_sums ?c_L_sums ?k_L_sums ?a_is_fraction ?l_is_fraction ?c_is_fraction ?k_is_fraction ?a_is_amount ?l_is_amount ?c_is_amount ?k_is_amount ?a_q_is_side ?l_q_is_side ?c_q_is_side ?k_q_is_side ?a_Eveningu_initu ?i_Eveningu_initu ?l_Eveningu_initu ?c_Eveningu_initu ?k_Eveningu_initu ?a_L_made ?l_L_made ?c_L_made ?k_L_made ?a_L_less ?l_L_less ?c_L_less ?k_L_less ?a_L_is_below ?l_L_is_below ?c_L_is_below ?k_L_is_below ?a_L_go ?l_L_go ?c_L_go ?k_L_go ?a_L_pairs ?l_L_pairs ?c_L_pairs ?k_L_pairs ?a_L_row ?l_L_row ?c_L_row ?k_L_row ?a_L_way ?l_L_way ?c_L_way ?k_L_way ?a_L_doubles ?l_L_doubles ?c_L_doubles ?k_L_doubles ?a_L_pieces ?l_L_pieces ?c_L_pieces ?k_L_pieces ?a_law ?l_law ?c_law ?k_law
    (case h_Tally => k_is)
    (case pg_Tally => k_is)
    (case hd_Tally => k_is)
    (case po_Tally => k_is)
    (case sa_Tally => k_is)
    (case mk_Tally => k_is)
    (case kc_Tally => k_is)
    (case h_Evening => k_is)
    (case pg_Evening => k_is)
    (case hd_Evening => k_is)
    (case po_Evening => k_is)
    (case sa_Evening => k_is)
    (case mk_Evening => k_is)
    (case kc_Evening => k_is)
    (case na_nO => k_is)
    (case na_nD => k_is)
    (case na_tB => k_is)
    (case na_tO => k_is)
    (case na_tA => k_is)
    (case z_abs => k_is)
    (case z_all => k_is)
    (case z_any => k_is)
    (case z_bool => k_is)
    (case z_enumerate => k_is)
    (case z_int => k_is)
    (case z_isinstance => k_is)
    (case z_len => k_is)
    (case z_list => k_is)
    (case z_max => k_is)
    (case z_min => k_is)
    (case z_range => k_is)
    (case z_set => k_is)
    (case z_sorted => k_is)
    (case z_sum => k_is)
    (case z_tuple => k_is)
    (case z_MOST_SUMS => k_is)
    (case r_MOST_SUMS => exact ⟨_, rfl⟩)
    (case z_gcd => k_is)
    (case z_lcm => k_is)
    (case a_Tally_pay => k_is)
    (case i_Tally_pay => k_is)
    (case l_Tally_pay => k_is)
    (case c_Tally_pay => k_is)
    (case k_Tally_pay => k_is)
    (case a_is_integer => k_is)
    (case l_is_integer => k_is)
    (case c_is_integer => k_is)
    (case k_is_integer => k_is)
    (case a_is_number_below => k_is)
    (case l_is_number_below => k_is)
    (case c_is_number_below => k_is)
    (case k_is_number_below => k_is)
    (case a_is_two_people => k_is)
    (case l_is_two_people => k_is)
    (case c_is_two_people => k_is)
    (case k_is_two_people => k_is)
    (case a_Tally_allows => k_is)
    (case i_Tally_allows => k_is)
    (case l_Tally_allows => k_is)
    (case c_Tally_allows => k_is)
    (case k_Tally_allows => k_is)
    (case a_paid_units => k_is)
    (case l_paid_units => k_is)
    (case c_paid_units => k_is)
    (case k_paid_units => k_is)
    (case a_common_bottom => k_is)
    (case l_common_bottom => k_is)
    (case c_common_bottom => k_is)
    (case k_common_bottom => k_is)
    (case a_in_units => k_is)
    (case l_in_units => k_is)
    (case c_in_units => k_is)
    (case k_in_units => k_is)
    (case a_Tallyu_initu => k_is)
    (case i_Tallyu_initu => k_is)
    (case l_Tallyu_initu => k_is)
    (case c_Tallyu_initu => k_is)
    (case k_Tallyu_initu => k_is)
    (case a_Tally_is_over => k_is)
    (case i_Tally_is_over => k_is)
    (case l_Tally_is_over => k_is)
    (case c_Tally_is_over => k_is)
    (case k_Tally_is_over => k_is)
    (case a_is_way => k_is)
    (case l_is_way => k_is)
    (case c_is_way => k_is)
    (case k_is_way => k_is)
    (case a_doubles => k_is)
    (case l_doubles => k_is)
    (case c_doubles => k_is)
    (case k_doubles => k_is)
    (case a_hanging_marks => k_is)
    (case l_hanging_marks => k_is)
    (case c_hanging_marks => k_is)
    (case k_hanging_marks => k_is)
    (case a_q_marked => k_is)
    (case l_q_marked => k_is)
    (case c_q_marked => k_is)
    (case k_q_marked => k_is)
    (case a_pieces => k_is)
    (case l_pieces => k_is)
    (case c_pieces => k_is)
    (case k_pieces => k_is)
    (case a_lowest => k_is)
    (case l_lowest => k_is)
    (case c_lowest => k_is)
    (case k_lowest => k_is)
    (case a_added => k_is)
    (case l_added => k_is)
    (case c_added => k_is)
    (case k_added => k_is)
    (case a_is_ascending => k_is)
    (case l_is_ascending => k_is)
    (case c_is_ascending => k_is)
    (case k_is_ascending => k_is)
    (case a_is_lot => k_is)
    (case l_is_lot => k_is)
    (case c_is_lot => k_is)
    (case k_is_lot => k_is)
    (case a_is_group => k_is)
    (case l_is_group => k_is)
    (case c_is_group => k_is)
    (case k_is_group => k_is)
    (case a_q_sums_of => k_is)
    (case l_q_sums_of => k_is)
    (case c_q_sums_of => k_is)
    (case k_q_sums_of => k_is)
    (case a_is_even => k_is)
    (case l_is_even => k_is)
    (case c_is_even => k_is)
    (case k_is_even => k_is)
    (case a_L_hand => k_is)
    (case l_L_hand => k_is)
    (case c_L_hand => k_is)
    (case k_L_hand => k_is)
    (case a_L_draw => k_is)
    (case l_L_draw => k_is)
    (case c_L_draw => k_is)
    (case k_L_draw => k_is)
    (case a_L_common => k_is)
    (case l_L_common => k_is)
    (case c_L_common => k_is)
    (case k_L_common => k_is)
    (case a_L_fraction => k_is)
    (case l_L_fraction => k_is)
    (case c_L_fraction => k_is)
    (case k_L_fraction => k_is)
    (case a_L_times => k_is)
    (case l_L_times => k_is)
    (case c_L_times => k_is)
    (case k_L_times => k_is)
    (case a_L_cut => k_is)
    (case l_L_cut => k_is)
    (case c_L_cut => k_is)
    (case k_L_cut => k_is)
    (case a_L_numbers => k_is)
    (case l_L_numbers => k_is)
    (case c_L_numbers => k_is)
    (case k_L_numbers => k_is)
    (case a_L_unit => k_is)
    (case l_L_unit => k_is)
    (case c_L_unit => k_is)
    (case k_L_unit => k_is)
    (case a_L_sums => k_is)
    (case l_L_sums => k_is)
    (case c_L_sums => k_is)
    (case k_L_sums => k_is)
    (case a_is_fraction => k_is)
    (case l_is_fraction => k_is)
    (case c_is_fraction => k_is)
    (case k_is_fraction => k_is)
    (case a_is_amount => k_is)
    (case l_is_amount => k_is)
    (case c_is_amount => k_is)
    (case k_is_amount => k_is)
    (case a_q_is_side => k_is)
    (case l_q_is_side => k_is)
    (case c_q_is_side => k_is)
    (case k_q_is_side => k_is)
    (case a_Eveningu_initu => k_is)
    (case i_Eveningu_initu => k_is)
    (case l_Eveningu_initu => k_is)
    (case c_Eveningu_initu => k_is)
    (case k_Eveningu_initu => k_is)
    (case a_L_made => k_is)
    (case l_L_made => k_is)
    (case c_L_made => k_is)
    (case k_L_made => k_is)
    (case a_L_less => k_is)
    (case l_L_less => k_is)
    (case c_L_less => k_is)
    (case k_L_less => k_is)
    (case a_L_is_below => k_is)
    (case l_L_is_below => k_is)
    (case c_L_is_below => k_is)
    (case k_L_is_below => k_is)
    (case a_L_go => k_is)
    (case l_L_go => k_is)
    (case c_L_go => k_is)
    (case k_L_go => k_is)
    (case a_L_pairs => k_is)
    (case l_L_pairs => k_is)
    (case c_L_pairs => k_is)
    (case k_L_pairs => k_is)
    (case a_L_row => k_is)
    (case l_L_row => k_is)
    (case c_L_row => k_is)
    (case k_L_row => k_is)
    (case a_L_way => k_is)
    (case l_L_way => k_is)
    (case c_L_way => k_is)
    (case k_L_way => k_is)
    (case a_L_doubles => k_is)
    (case l_L_doubles => k_is)
    (case c_L_doubles => k_is)
    (case k_L_doubles => k_is)
    (case a_L_pieces => k_is)
    (case l_L_pieces => k_is)
    (case c_L_pieces => k_is)
    (case k_L_pieces => k_is)
    (case a_law => k_is)
    (case l_law => k_is)
    (case c_law => k_is)
    (case k_law => k_is)
