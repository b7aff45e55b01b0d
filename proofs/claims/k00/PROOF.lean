import PyProof.Rows.All
import Wide.All
import OpenK.AllK
import Wide.FinOn
import HandS.ForMost
import HandS.Gcd
import HandS.Wide
import HandS.WideBits
import HandS.IsInst
import HandS.Style
import HandS.TupAny
import HandS.Conv
import HandS.TupMul
import HandS.ExcInit
import HandS.ExcField
import HandS.TryMany
import HandS.TryOnly
import HandS.ExcOwn
import HandS.WordsExc
import PySem.Challenge.RW_quitsways_k00_evenings_judged
set_option Elab.async false
set_option linter.all false
set_option maxRecDepth 100000
set_option maxHeartbeats 4000000
set_option exponentiation.threshold 20000

namespace QW
open PySem L2

/-! ### what changes: nothing (Same), or one list (KL m) -/
structure KL (m : Addr) (H H' : Hp) : Prop where
  keep : ∀ b o, b ≠ m → H b = some o → H' b = some o
  tup : ∀ b xs, H b = some (.tup xs) → H' b = some (.tup xs)
  ins : ∀ b C dx fs, H b = some (.ins C dx fs) → H' b = some (.ins C dx fs)
  live : ∀ b, H' b = none → H b = none
  lst : ∀ b xs, H b = some (.lst xs) → ∃ ys, H' b = some (.lst ys)
  dk : ∀ b kvs, H b = some (.dK kvs) → H' b = some (.dK kvs)

theorem Same.kl {m : Addr} {H H' : Hp} (s : Same H H') : KL m H H' :=
  ⟨fun b o _ e => s b o e, fun b xs e => s b _ e, fun b C dx fs e => s b _ e, fun b e => s.free e, fun b xs e => ⟨xs, s b _ e⟩, fun b xs e => s b _ e⟩
theorem KL.refl {m : Addr} {H : Hp} : KL m H H := Same.kl (Same.refl H)
theorem KL.trans {m : Addr} {H H1 H2 : Hp} (a : KL m H H1) (b : KL m H1 H2) : KL m H H2 :=
  ⟨fun c o hc e => b.keep c o hc (a.keep c o hc e), fun c xs e => b.tup c xs (a.tup c xs e), fun c C dx fs e => b.ins c C dx fs (a.ins c C dx fs e), fun c e => a.live c (b.live c e), fun c xs e => by
    obtain ⟨ys, e1⟩ := a.lst c xs e
    exact b.lst c ys e1, fun c xs e => b.dk c xs (a.dk c xs e)⟩
theorem KL.same {m : Addr} {H H1 H2 : Hp} (a : KL m H H1) (s : Same H1 H2) : KL m H H2 := a.trans (Same.kl s)
/-- a list that is newer than H is changed -/
theorem KL.loc {m l : Addr} {H H1 H2 : Hp} (a : KL m H H1) (b : KL l H1 H2) (hl : H l = none) : KL m H H2 :=
  ⟨fun c o hc e => b.keep c o (ne_of_none e hl) (a.keep c o hc e), fun c xs e => b.tup c xs (a.tup c xs e), fun c C dx fs e => b.ins c C dx fs (a.ins c C dx fs e), fun c e => a.live c (b.live c e), fun c xs e => by
    obtain ⟨ys, e1⟩ := a.lst c xs e
    exact b.lst c ys e1, fun c xs e => b.dk c xs (a.dk c xs e)⟩
theorem same_loc {l : Addr} {H H1 H2 : Hp} (a : Same H H1) (b : KL l H1 H2) (hl : H l = none) : Same H H2 :=
  fun c o e => b.keep c o (ne_of_none e hl) (a c o e)
theorem same_upd {H : Hp} {p : Addr} {o : HO} (h : H p = none) : Same H (upd H p o) := fun b u e => by rw [upd_ne (ne_of_none e h)]; exact e
theorem kl_upd {H : Hp} {p : Addr} {xs : List V} {ys : List V} (h : H p = some (.lst xs)) : KL p H (upd H p (.lst ys)) := by
  refine ⟨fun b o hb e => by rw [upd_ne hb]; exact e, fun b zs e => ?_, fun b C dx fs e => ?_, fun b e => ?_, fun b zs e => ?_, fun b zs e => ?_⟩
  · rw [upd_ne (ne_of e h (by intro q; cases q))]; exact e
  · rw [upd_ne (ne_of e h (by intro q; cases q))]; exact e
  · by_cases hb : b = p
    · subst hb; rw [upd_same] at e; cases e
    · rw [upd_ne hb] at e; exact e
  · by_cases hb : b = p
    · subst hb; exact ⟨ys, upd_same⟩
    · exact ⟨zs, by rw [upd_ne hb]; exact e⟩
  · rw [upd_ne (ne_of e h (by intro q; cases q))]; exact e
theorem Same.free' {H H' : Hp} {l : Addr} (s : Same H H') (h : H' l = none) : H l = none := s.free h
theorem KL.free {m : Addr} {H H' : Hp} {l : Addr} (s : KL m H H') (h : H' l = none) : H l = none := s.live l h
/-- a new object -/
theorem new_obj {H : Hp} {o : HO} {Q : V → Hp → Prop} (q : ∀ p H', H p = none → Same H H' → H' p = some o → Q (.ref p) H') : ∀ p, H p = none → Q (.ref p) (upd H p o) :=
  fun p hp => q p _ hp (same_upd hp) upd_same
theorem ne_fresh {H : Hp} {a b : Addr} {o : HO} (h : H a = none) (h' : H b = some o) : a ≠ b := fun e => by rw [e, h'] at h; cases h
theorem ne_fresh' {H : Hp} {a b : Addr} {o : HO} (h : H b = none) (h' : H a = some o) : a ≠ b := fun e => by rw [← e, h'] at h; cases h

/-! ### immutable data -/
mutual
def Im (H : Hp) : V → PyData → Prop
  | v, .none => v = .non
  | v, .bool b => v = .bl b
  | v, .int i => v = .int i
  | v, .str x => v = .str x
  | v, .tuple ds => ∃ a vs, v = .ref a ∧ H a = some (.tup vs) ∧ ImL H vs ds
  | _, .list _ => False
  | _, .dict _ => False
def ImL (H : Hp) : List V → List PyData → Prop
  | [], [] => True
  | v :: vs, d :: ds => Im H v d ∧ ImL H vs ds
  | [], _ :: _ => False
  | _ :: _, [] => False
end
mutual
theorem Im.mono {H H' : Hp} (t : ∀ b xs, H b = some (.tup xs) → H' b = some (.tup xs)) : ∀ {v : V} (d : PyData), Im H v d → Im H' v d
  | _, .none, h => by simpa [Im] using h
  | _, .bool _, h => by simpa [Im] using h
  | _, .int _, h => by simpa [Im] using h
  | _, .str _, h => by simpa [Im] using h
  | _, .tuple ds, h => by
    simp only [Im] at h ⊢
    obtain ⟨a, vs, e, ha, hl⟩ := h
    exact ⟨a, vs, e, t _ _ ha, ImL.mono t ds hl⟩
  | _, .list _, h => by simp [Im] at h
  | _, .dict _, h => by simp [Im] at h
theorem ImL.mono {H H' : Hp} (t : ∀ b xs, H b = some (.tup xs) → H' b = some (.tup xs)) : ∀ {vs : List V} (ds : List PyData), ImL H vs ds → ImL H' vs ds
  | [], [], _ => by simp [ImL]
  | v :: vs, d :: ds, h => by
    simp only [ImL] at h ⊢
    exact ⟨Im.mono t d h.1, ImL.mono t ds h.2⟩
  | [], _ :: _, h => by simp [ImL] at h
  | _ :: _, [], h => by simp [ImL] at h
end
mutual
theorem Im.dp {K : PySem.W.Frag} {H : Hp} : ∀ {v : V} (d : PyData), Im H v d → Dp K H v d
  | _, .none, h => by simp only [Im] at h; subst h; exact .non
  | _, .bool _, h => by simp only [Im] at h; subst h; exact .bl _
  | _, .int _, h => by simp only [Im] at h; subst h; exact .int _
  | _, .str _, h => by simp only [Im] at h; subst h; exact .str _
  | _, .tuple ds, h => by
    simp only [Im] at h
    obtain ⟨a, vs, e, ha, hl⟩ := h
    subst e
    exact .tup (SqT.of ha) (ImL.dp ds hl)
  | _, .list _, h => by simp [Im] at h
  | _, .dict _, h => by simp [Im] at h
theorem ImL.dp {K : PySem.W.Frag} {H : Hp} : ∀ {vs : List V} (ds : List PyData), ImL H vs ds → DpAll K H vs ds
  | [], [], _ => .nil
  | v :: vs, d :: ds, h => by
    simp only [ImL] at h
    exact .cons (Im.dp d h.1) (ImL.dp ds h.2)
  | [], _ :: _, h => by simp [ImL] at h
  | _ :: _, [], h => by simp [ImL] at h
end
theorem ImL.length {H : Hp} : ∀ {vs : List V} {ds : List PyData}, ImL H vs ds → vs.length = ds.length
  | [], [], _ => rfl
  | v :: vs, d :: ds, h => by
    simp only [ImL] at h
    simp [ImL.length h.2]
  | [], _ :: _, h => by simp [ImL] at h
  | _ :: _, [], h => by simp [ImL] at h
theorem ImL.get {H : Hp} : ∀ {vs : List V} {ds : List PyData} {i : Nat} {v : V}, ImL H vs ds → vs[i]? = some v → ∃ d, ds[i]? = some d ∧ Im H v d
  | [], [], _, _, _, e => by simp at e
  | v :: vs, d :: ds, 0, w, h, e => by
    simp only [ImL] at h
    simp at e
    subst e
    exact ⟨d, rfl, h.1⟩
  | v :: vs, d :: ds, i + 1, w, h, e => by
    simp only [ImL] at h
    obtain ⟨x, h1, h2⟩ := ImL.get (i := i) h.2 (by simpa using e)
    exact ⟨x, by simpa using h1, h2⟩
  | [], _ :: _, _, _, h, _ => by simp [ImL] at h
  | _ :: _, [], _, _, h, _ => by simp [ImL] at h
theorem ImL.get' {H : Hp} {vs : List V} {ds : List PyData} {i : Nat} {d : PyData} (h : ImL H vs ds) (e : ds[i]? = some d) : ∃ v, vs[i]? = some v ∧ Im H v d := by
  have hl := h.length
  have hi : i < ds.length := by
    rcases Nat.lt_or_ge i ds.length with h1 | h1
    · exact h1
    · rw [List.getElem?_eq_none h1] at e; cases e
  have hv : vs[i]? = some vs[i] := List.getElem?_eq_getElem (by omega)
  obtain ⟨d', h1, h2⟩ := h.get hv
  rw [e] at h1
  cases h1
  exact ⟨_, hv, h2⟩
theorem ImL.append {H : Hp} : ∀ {vs : List V} {ds : List PyData} {ws : List V} {es : List PyData}, ImL H vs ds → ImL H ws es → ImL H (vs ++ ws) (ds ++ es)
  | [], [], _, _, _, q => q
  | v :: vs, d :: ds, _, _, h, q => by
    simp only [ImL] at h
    simp only [List.cons_append, ImL]
    exact ⟨h.1, ImL.append h.2 q⟩
  | [], _ :: _, _, _, h, _ => by simp [ImL] at h
  | _ :: _, [], _, _, h, _ => by simp [ImL] at h
theorem ImL.take {H : Hp} : ∀ {vs : List V} {ds : List PyData} (n : Nat), ImL H vs ds → ImL H (vs.take n) (ds.take n)
  | _, _, 0, _ => by simp [ImL]
  | [], [], n + 1, h => by simp [ImL]
  | v :: vs, d :: ds, n + 1, h => by
    simp only [ImL] at h
    simp only [List.take_succ_cons, ImL]
    exact ⟨h.1, ImL.take n h.2⟩
  | [], _ :: _, _ + 1, h => by simp [ImL] at h
  | _ :: _, [], _ + 1, h => by simp [ImL] at h
theorem ImL.drop {H : Hp} : ∀ {vs : List V} {ds : List PyData} (n : Nat), ImL H vs ds → ImL H (vs.drop n) (ds.drop n)
  | _, _, 0, h => h
  | [], [], n + 1, h => by simp [ImL]
  | v :: vs, d :: ds, n + 1, h => by
    simp only [ImL] at h
    simp only [List.drop_succ_cons]
    exact ImL.drop n h.2
  | [], _ :: _, _ + 1, h => by simp [ImL] at h
  | _ :: _, [], _ + 1, h => by simp [ImL] at h
theorem ImL.ints {H : Hp} : ∀ (ns : List Int), ImL H (ns.map V.int) (ns.map PyData.int)
  | [] => by simp [ImL]
  | n :: ns => by simp only [List.map_cons, ImL, Im]; exact ⟨trivial, ImL.ints ns⟩
theorem Im.tup {H : Hp} {a : Addr} {vs : List V} {ds : List PyData} (h : H a = some (.tup vs)) (l : ImL H vs ds) : Im H (.ref a) (.tuple ds) := by
  simp only [Im]; exact ⟨a, vs, rfl, h, l⟩
theorem Im.int' {H : Hp} {i : Int} : Im H (.int i) (.int i) := by simp [Im]

/-! ### keeping: transport along Same and KL -/
section
variable {m l : Addr} {H H' : Hp}
theorem sm_at {o : HO} {b : Addr} (s : Same H H') (h : H b = some o) : H' b = some o := s b o h
theorem kl_at {o : HO} {b : Addr} (s : KL m H H') (n : b ≠ m) (h : H b = some o) : H' b = some o := s.keep b o n h
theorem kl_tup {b : Addr} {xs : List V} (s : KL m H H') (h : H b = some (.tup xs)) : H' b = some (.tup xs) := s.tup b xs h
theorem kl_ins {b C dx : Addr} {fs : List (Str × V)} (s : KL m H H') (h : H b = some (.ins C dx fs)) : H' b = some (.ins C dx fs) := s.ins b C dx fs h
theorem sm_im {v : V} {d : PyData} (s : Same H H') (h : Im H v d) : Im H' v d := Im.mono (fun b xs e => s b _ e) d h
theorem kl_im {v : V} {d : PyData} (s : KL m H H') (h : Im H v d) : Im H' v d := Im.mono s.tup d h
theorem sm_iml {v : List V} {d : List PyData} (s : Same H H') (h : ImL H v d) : ImL H' v d := ImL.mono (fun b xs e => s b _ e) d h
theorem kl_iml {v : List V} {d : List PyData} (s : KL m H H') (h : ImL H v d) : ImL H' v d := ImL.mono s.tup d h
theorem sm_sql {K : PySem.W.Frag} {a : Addr} {xs : List V} (s : Same H H') (h : SqL K H a xs) : SqL K H' a xs := s.seq h
theorem kl_sql {K : PySem.W.Frag} {a : Addr} {xs : List V} (s : KL m H H') (n : a ≠ m) (h : SqL K H a xs) : SqL K H' a xs := by
  rcases h with (h | ⟨o, h⟩) | h
  · exact .inl (.inl (s.keep _ _ n h))
  · exact .inl (.inr ⟨o, s.keep _ _ n h⟩)
  · exact .inr h
end

/-! ### the law's hand: a list that draws change -/
def Hand (H : Hp) (m c : Addr) : Prop := ∃ (i h s k : Int) (cells : List Int), H m = some (.lst [.ref c, .int i, .int h, .int s, .int k]) ∧ H c = some (.lst (cells.map V.int)) ∧ c ≠ m ∧ 0 ≤ i
theorem sm_hand {m c : Addr} {H H' : Hp} (s : Same H H') (h : Hand H m c) : Hand H' m c := by
  obtain ⟨i, x, y, z, cells, e, q, n, i0⟩ := h
  exact ⟨i, x, y, z, cells, s _ _ e, s _ _ q, n, i0⟩
theorem hand_ne {H : Hp} {m c l : Addr} (h : H l = none) (hd : Hand H m c) : m ≠ l ∧ c ≠ l := by
  obtain ⟨i, x, y, z, cells, e, q, n, i0⟩ := hd
  exact ⟨ne_fresh' h e, ne_fresh' h q⟩
theorem kl_hand {m c l : Addr} {H0 H H' : Hp} (s : KL l H H') (h0 : H0 l = none) (hd : Hand H0 m c) (h : Hand H m c) : Hand H' m c := by
  obtain ⟨n1, n2⟩ := hand_ne h0 hd
  obtain ⟨i, x, y, z, cells, e, q, n, i0⟩ := h
  exact ⟨i, x, y, z, cells, s.keep _ _ n1 e, s.keep _ _ n2 q, n, i0⟩
end QW

namespace QW
open PySem L2

/-! ### readings, one lemma a construct -/
abbrev oAdd : R2 := rI0 fun i j => .int (i + j)
abbrev oSub : R2 := rI0 fun i j => .int (i - j)
abbrev oMul : R2 := rI IntMulOk fun i j => .int (i * j)
theorem op_mulA {X : Cx} : OpR X (binaryOp .Mult) oMul := opI fun _ _ _ _ _ _ _ hc q => PyProof.Rows.mul_int q hc
theorem mul_wide {i j : Int} {a b : Nat} (ha : i.natAbs < 2 ^ a) (hb : j.natAbs < 2 ^ b) (h : a + b ≤ 134217728) : IntMulOk i j := (mulx_ok ha hb h).ok
abbrev oDiv : R2 := rI CDivW fun i j => .int (i / j)
abbrev oMod : R2 := rI (fun _ j => 0 < j) fun i j => .int (i % j)
abbrev oPow : R2 := rI CPow fun i j => .int (i ^ j.toNat)
abbrev oShl : R2 := rI CPow fun i j => .int (i * 2 ^ j.toNat)
abbrev oAnd : R2 := rI0 fun i j => .int (Builtin.bitAnd i j)
abbrev oLt : R2 := rI0 fun i j => .bl (decide (i < j))
abbrev oLe : R2 := rI0 fun i j => .bl (decide (i ≤ j))
abbrev oGt : R2 := rI0 fun i j => .bl (decide (j < i))
abbrev oGe : R2 := rI0 fun i j => .bl (decide (j ≤ i))
abbrev oIsN : R2 := fun x y H Q => y = .non ∧ Q (.bl (decide (x = .non))) H
abbrev oNotN : R2 := fun x y H Q => y = .non ∧ Q (.bl (!decide (x = .non))) H
abbrev uNeg : V → Hp → VK → Prop := rU fun i => .int (-i)
abbrev cLen (K : PySem.W.Frag) : List V → Hp → VK → Prop := fun xs H Q => ∃ x n, xs = [x] ∧ LenV K x H n ∧ Q (V.int (n : Nat)) H
abbrev cAbs : List V → Hp → VK → Prop := fun xs H Q => ∃ i, xs = [.int i] ∧ Q (.int (if i < 0 then -i else i)) H
abbrev cMax2 : List V → Hp → VK → Prop := fun xs H Q => ∃ i j, xs = [.int i, .int j] ∧ Q (.int (if j > i then j else i)) H
abbrev cMin2 : List V → Hp → VK → Prop := fun xs H Q => ∃ i j, xs = [.int i, .int j] ∧ Q (.int (if j < i then j else i)) H
abbrev cInt1 : List V → Hp → VK → Prop := fun xs H Q => (∃ i, xs = [.int i] ∧ Q (.int i) H) ∨ ∃ k, xs = [.bl k] ∧ Q (.int (if k then 1 else 0)) H
abbrev cTup (K : PySem.W.Frag) : List V → Hp → VK → Prop := fun xs H Q => ∃ p ys, xs = [.ref p] ∧ ((SqL K H p ys ∧ ∀ l, H l = none → Q (.ref l) (upd H l (.tup ys))) ∨ (SqT K H p ys ∧ Q (.ref p) H))
abbrev cList (K : PySem.W.Frag) : List V → Hp → VK → Prop := fun xs H Q => ∃ p ys, xs = [.ref p] ∧ (SqL K H p ys ∨ SqT K H p ys) ∧ ∀ l, H l = none → Q (.ref l) (upd H l (.lst ys))
def rLcm : List V → Hp → VK → Prop := fun vs H Q => ∃ a b : Int, vs = [.int a, .int b] ∧ 0 < a ∧ 0 < b ∧ a.natAbs.log2 < 13000 ∧ b.natAbs.log2 < 13000 ∧ Q (.int ((Nat.lcm a.natAbs b.natAbs : Nat) : Int)) H

section
variable {K : PySem.W.Frag} {D : Ends} {σ : St} {H : Hp} {Q : VK}
theorem i_seq {t u : TS} (h : t { D with nx := u D } σ H) : tSeq t u D σ H := h
theorem i_cut {t u : TS} (R : St → Hp → Prop) (h1 : ∀ N : St → Hp → Prop, (∀ σ H, R σ H → N σ H) → t { D with nx := N } σ H) (h2 : ∀ σ H, R σ H → u D σ H) : tSeq t u D σ H := h1 (u D) h2
theorem i_set {te : TE} {i : Nat} (h : te σ H (fun x H1 => D.nx (σ.set i (some x)) H1)) : tAsg te (gName i) D σ H := h
theorem i_asg {te : TE} {g : TG} (h : te σ H (fun x H1 => g x σ H1 D.nx)) : tAsg te g D σ H := h
theorem i_drop {te : TE} (h : te σ H fun _ H1 => D.nx σ H1) : tDrop te D σ H := h
theorem i_ret {te : TE} (h : te σ H D.rt) : tRet te D σ H := h
theorem i_next (h : D.nx σ H) : tNext D σ H := h
theorem i_break (h : D.bk σ H) : tBreak D σ H := h
theorem i_cont (h : D.ct σ H) : tCont D σ H := h
theorem i_ifS {c : TT} {t u : TS} (h : c σ H fun b H1 => if b = true then t D σ H1 else u D σ H1) : tIfS c t u D σ H := h
theorem i_var {i : Nat} {v : V} (h : σ[i]? = some (some v)) (q : Q v H) : tVar i σ H Q := ⟨v, h, q⟩
theorem i_c {v : V} (q : Q v H) : tC v σ H Q := q
theorem i_op {r : R2} {ta tb : TE} (h : ta σ H fun x H1 => tb σ H1 fun y H2 => r x y H2 Q) : tOp r ta tb σ H Q := h
theorem i_un {r : V → Hp → VK → Prop} {ta : TE} (h : ta σ H fun x H1 => r x H1 Q) : tUn r ta σ H Q := h
theorem i_rI0 {g : Int → Int → V} {i j : Int} (q : Q (g i j) H) : rI0 g (.int i) (.int j) H Q := ⟨i, j, rfl, rfl, q⟩
theorem i_rI {C : Int → Int → Prop} {g : Int → Int → V} {i j : Int} (c : C i j) (q : Q (g i j) H) : rI C g (.int i) (.int j) H Q := ⟨i, j, rfl, rfl, c, q⟩
theorem i_rU {g : Int → V} {i : Int} (q : Q (g i) H) : rU g (.int i) H Q := ⟨i, rfl, q⟩
theorem i_eq {x y : V} (hs : scal x y = true) (q : Q (.bl (decide (x = y))) H) : rEq x y H Q := ⟨hs, q⟩
theorem i_ne {x y : V} (hs : scal x y = true) (q : Q (.bl (!decide (x = y))) H) : rNe x y H Q := ⟨hs, q⟩
theorem i_eqD {x y : V} {d e : PyData} (h1 : Im H x d) (h2 : Im H y e) (s1 : SeqAt.shaped d = true) (s2 : SeqAt.shaped e = true) (q : Q (.bl (PyData.eqv d e)) H) : rEqD K x y H Q := ⟨d, e, Im.dp d h1, Im.dp e h2, s1, s2, q⟩
theorem i_neD {x y : V} {d e : PyData} (h1 : Im H x d) (h2 : Im H y e) (s1 : SeqAt.shaped d = true) (s2 : SeqAt.shaped e = true) (q : Q (.bl (!PyData.eqv d e)) H) : rNeD K x y H Q := ⟨d, e, Im.dp d h1, Im.dp e h2, s1, s2, q⟩
theorem i_test {te : TE} {QB : Bool → Hp → Prop} (h : te σ H fun x H' => ∃ k, x = .bl k ∧ QB k H') : tTest te σ H QB := h
theorem i_b {te : TE} {QB : Bool → Hp → Prop} (h : te σ H fun x H1 => ∃ c, x = .bl c ∧ QB c H1) : tB te σ H QB := h
theorem i_bk {QB : Bool → Prop} {k : Bool} (h : QB k) : ∃ c, V.bl k = V.bl c ∧ QB c := ⟨k, rfl, h⟩
theorem i_and {t u : TT} {QB : Bool → Hp → Prop} (h : t σ H fun c H1 => if c = true then u σ H1 QB else QB false H1) : tAnd t u σ H QB := h
theorem i_or {t u : TT} {QB : Bool → Hp → Prop} (h : t σ H fun c H1 => if c = true then QB true H1 else u σ H1 QB) : tOr t u σ H QB := h
theorem i_not {t : TT} {QB : Bool → Hp → Prop} (h : t σ H fun c H1 => QB (!c) H1) : tNot t σ H QB := h
theorem i_andV {ta tb : TE} (h : ta σ H fun x H1 => ∃ c, x = .bl c ∧ if c = true then tb σ H1 Q else Q (.bl false) H1) : tAndV ta tb σ H Q := h
theorem i_orV {ta tb : TE} (h : ta σ H fun x H1 => ∃ c, x = .bl c ∧ if c = true then Q (.bl true) H1 else tb σ H1 Q) : tOrV ta tb σ H Q := h
theorem i_notV {ta : TE} (h : ta σ H fun x H1 => ∃ c, x = .bl c ∧ Q (.bl (!c)) H1) : tNotV ta σ H Q := h
theorem i_ifE {t : TT} {ta tb : TE} (h : t σ H fun c H1 => if c = true then ta σ H1 Q else tb σ H1 Q) : tIf t ta tb σ H Q := h
theorem i_chain {r r' : R2} {ta tb tc : TE} (h : ta σ H fun x H1 => tb σ H1 fun y H2 => r x y H2 fun z H3 => ∃ k, z = .bl k ∧ (if k = true then tc σ H3 fun w' H4 => r' y w' H4 Q else Q (.bl false) H3)) : tChain r r' ta tb tc σ H Q := h
theorem i_nil {QA : List V → Hp → Prop} (q : QA [] H) : tNil σ H QA := q
theorem i_cons {ta : TE} {tr : TA} {QA : List V → Hp → Prop} (h : ta σ H fun x H1 => tr σ H1 fun xs H2 => QA (x :: xs) H2) : tCons ta tr σ H QA := h
def NewO (n : Nat) (H : Hp) (o : HO) (Q : VK) : Prop := n ≤ sizeLine ∧ ∀ p, H p = none → Q (.ref p) (upd H p o)
theorem i_newO {o : HO} {n : Nat} (hn : n ≤ sizeLine) (q : ∀ p H', H p = none → Same H H' → H' p = some o → Q (.ref p) H') : NewO n H o Q := ⟨hn, new_obj q⟩
theorem i_tupE {t : TA} (h : t σ H fun xs H1 => NewO xs.length H1 (.tup xs) Q) : tTup t σ H Q := h
theorem i_lstE {t : TA} (h : t σ H fun xs H1 => NewO xs.length H1 (.lst xs) Q) : tLst t σ H Q := h
theorem i_new {o : HO} {n : Nat} (hn : n ≤ sizeLine) (q : ∀ p H', H p = none → Same H H' → H' p = some o → Q (.ref p) H') : n ≤ sizeLine ∧ ∀ p, H p = none → Q (.ref p) (upd H p o) := ⟨hn, new_obj q⟩
theorem i_call {sp : Sp} {t : TA} {E : XK} (h : t σ H fun vs H1 => sp vs H1 Q E) (mono : ∀ {H : Hp} {QA QA' : List V → Hp → Prop}, (∀ xs H, QA xs H → QA' xs H) → t σ H QA → t σ H QA') : tCall sp [] E t σ H Q :=
  mono (fun xs H1 q => by rw [List.append_nil]; exact q) h
theorem i_callE {sp : Sp} {t : TA} {E : XK} (h : t σ H fun vs H1 => sp (vs ++ []) H1 Q E) : tCall sp [] E t σ H Q := h
def MakeO (Cc : Addr) (sp : Sp) (vs : List V) (H1 : Hp) (Q : VK) (E : XK) : Prop := ∀ x dx, H1 x = none → H1 dx = none → dx ≠ x → sp (.ref x :: (vs ++ [])) (upd (upd H1 dx (.own x)) x (.ins Cc dx [])) (fun v H2 => v = .non ∧ Q (.ref x) H2) E
theorem i_make {Cc : Addr} {sp : Sp} {t : TA} {E : XK} (h : t σ H fun vs H1 => MakeO Cc sp vs H1 Q E) : tMake Cc sp [] E t σ H Q := h
theorem makeO_of {Cc : Addr} {sp : Sp} {vs : List V} {E : XK} (h : ∀ x dx H', H x = none → Same H H' → H' x = some (.ins Cc dx []) → sp (.ref x :: (vs ++ [])) H' (fun v H2 => v = .non ∧ Q (.ref x) H2) E) : MakeO Cc sp vs H Q E :=
  fun x dx nx nd ne => h x dx _ nx (fun b u hb => by rw [upd_ne (ne_of_none hb nx), upd_ne (ne_of_none hb nd)]; exact hb) upd_same
theorem i_cb {r : List V → Hp → VK → Prop} {t : TA} (h : t σ H fun vs H1 => r vs H1 Q) : tCB r t σ H Q := h
theorem i_len {p : Addr} {xs : List V} (h : H p = some (.lst xs)) (q : Q (.int (xs.length : Nat)) H) : cLen K [.ref p] H Q := ⟨_, _, rfl, .inl ⟨xs, SqL.of h, rfl⟩, q⟩
theorem i_lenT {p : Addr} {xs : List V} (h : H p = some (.tup xs)) (q : Q (.int (xs.length : Nat)) H) : cLen K [.ref p] H Q := ⟨_, _, rfl, .inr ⟨xs, SqT.of h, rfl⟩, q⟩
theorem i_abs {i : Int} (q : Q (.int (i.natAbs : Nat)) H) : cAbs [.int i] H Q := ⟨i, rfl, by
  have e : (if i < 0 then -i else i) = (i.natAbs : Nat) := by split <;> omega
  rw [e]; exact q⟩
theorem i_int1 {i : Int} (q : Q (.int i) H) : cInt1 [.int i] H Q := .inl ⟨i, rfl, q⟩
theorem i_max2 {i j : Int} (q : Q (.int (max i j)) H) : cMax2 [.int i, .int j] H Q := ⟨i, j, rfl, by
  have e : (if j > i then j else i) = max i j := by rw [Int.max_def]; split <;> split <;> omega
  rw [e]; exact q⟩
theorem i_min2 {i j : Int} (q : Q (.int (min i j)) H) : cMin2 [.int i, .int j] H Q := ⟨i, j, rfl, by
  have e : (if j < i then j else i) = min i j := by rw [Int.min_def]; split <;> split <;> omega
  rw [e]; exact q⟩
theorem i_ctupL {p : Addr} {ys : List V} (h : H p = some (.lst ys)) (q : ∀ l H', H l = none → Same H H' → H' l = some (.tup ys) → Q (.ref l) H') : cTup K [.ref p] H Q := ⟨p, ys, rfl, .inl ⟨SqL.of h, new_obj q⟩⟩
theorem i_ixL {p : Addr} {xs : List V} {i : Int} {v : V} (h : H p = some (.lst xs)) (e : atI xs i = some v) (q : Q v H) : rIxL K (.ref p) (.int i) H Q := ⟨p, xs, i, v, rfl, rfl, SqL.of h, e, q⟩
theorem atI_i {xs : List V} {i : Int} (h0 : 0 ≤ i) (h1 : i < (xs.length : Nat)) : ∃ v, xs[i.toNat]? = some v ∧ atI xs i = some v := by
  have hl : i.toNat < xs.length := by omega
  refine ⟨xs[i.toNat], List.getElem?_eq_getElem hl, ?_⟩
  unfold atI ixN
  rw [if_pos h0, if_pos h1]
  exact List.getElem?_eq_getElem hl
theorem atI_ints {ns : List Int} {i : Int} (h0 : 0 ≤ i) (h1 : i < (ns.length : Nat)) : ∃ n, ns[i.toNat]? = some n ∧ atI (ns.map V.int) i = some (.int n) := by
  obtain ⟨v, e1, e2⟩ := atI_i (xs := ns.map V.int) h0 (by rw [List.length_map]; exact h1)
  rw [List.getElem?_map] at e1
  cases q : ns[i.toNat]? with
  | none => rw [q] at e1; cases e1
  | some n => rw [q] at e1; cases e1; exact ⟨n, rfl, e2⟩
theorem i_ixT {p : Addr} {xs : List V} {i : Int} {v : V} (h : H p = some (.tup xs)) (e : atI xs i = some v) (q : Q v H) : rIxT K (.ref p) (.int i) H Q := ⟨p, xs, i, v, rfl, rfl, SqT.of h, e, q⟩
theorem i_setL {p : Addr} {xs : List V} {k : Int} {j : Nat} {v : V} {QH : Hp → Prop} (h : H p = some (.lst xs)) (e : ixN xs.length k = some j) (q : ∀ H', KL p H H' → H' p = some (.lst (xs.set j v)) → QH H') : rSetL (.ref p) (.int k) v H QH :=
  ⟨p, xs, k, j, rfl, rfl, h, e, q _ (kl_upd h) upd_same⟩
theorem i_gsub {to ti : TE} {t : TSet} {v : V} {QG : St → Hp → Prop} (h : to σ H fun o H1 => ti σ H1 fun i H2 => t o i v H2 fun H3 => QG σ H3) : gSub to ti t v σ H QG := h
theorem i_gname {i : Nat} {v : V} {QG : St → Hp → Prop} (h : QG (σ.set i (some v)) H) : gName i v σ H QG := h
theorem i_gtup2 {a : Addr} {x y : V} {i j : Nat} {QG : St → Hp → Prop} (h : H a = some (.tup [x, y])) (q : QG ((σ.set i (some x)).set j (some y)) H) : gTup K 2 (gCons (gName i) (gCons (gName j) gNil)) (.ref a) σ H QG :=
  ⟨a, [x, y], rfl, SqT.of h, rfl, x, [y], rfl, y, [], rfl, rfl, q⟩
theorem i_append {l : Addr} {xs : List V} {y : V} (h : H l = some (.lst xs)) (n : xs.length < sizeLine) (q : ∀ H', KL l H H' → H' l = some (.lst (xs ++ [y])) → Q .non H') : rAppend (.ref l) [y] H Q :=
  ⟨l, xs, y, rfl, rfl, h, n, q _ (kl_upd h) upd_same⟩
theorem i_bm {T : String} {r : V → List V → Hp → VK → Prop} {to : TE} {t : TA} (h : to σ H fun x H1 => tyV K T x H1 ∧ t σ H1 fun xs H2 => r x xs H2 Q) : tBM K T r to t σ H Q := h
theorem i_tyL {l : Addr} {xs : List V} {P : Prop} (h : H l = some (.lst xs)) (q : P) : tyV K "list" (.ref l) H ∧ P := ⟨.inl ⟨rfl, _, SqL.of h⟩, q⟩
theorem i_cat {l b : Addr} {xs zs : List V} (h : H l = some (.lst xs)) (h' : H b = some (.lst zs)) (n : xs.length + zs.length ≤ sizeLine) (q : ∀ p H', H p = none → Same H H' → H' p = some (.lst (xs ++ zs)) → Q (.ref p) H') : rCat (.ref l) (.ref b) H Q :=
  ⟨l, b, xs, zs, rfl, rfl, h, h', n, new_obj q⟩
theorem i_sl {r : V → Option Int → Option Int → Hp → VK → Prop} {te : TE} {tl th : TO} (h : te σ H fun x H1 => tl σ H1 fun l H2 => th σ H2 fun u H3 => r x l u H3 Q) : tSl r te tl th σ H Q := h
theorem i_noPart {QO : Option Int → Hp → Prop} (q : QO none H) : tNoPart σ H QO := q
theorem i_part {t : TE} {QO : Option Int → Hp → Prop} (h : t σ H fun x H1 => ∃ i, x = .int i ∧ QO (some i) H1) : tPart t σ H QO := h
theorem i_partI {QO : Int → Prop} {i : Int} (q : QO i) : ∃ j, V.int i = .int j ∧ QO j := ⟨i, rfl, q⟩
theorem i_slL {a : Addr} {xs : List V} {lo hi : Option Int} (h : H a = some (.lst xs)) (q : ∀ p H', H p = none → Same H H' → H' p = some (.lst (cutV xs lo hi)) → Q (.ref p) H') : rSlL K (.ref a) lo hi H Q := ⟨a, xs, rfl, SqL.of h, new_obj q⟩
def RevO (K : PySem.W.Frag) (x : V) (H1 : Hp) (Q : VK) : Prop := ∃ a xs, x = .ref a ∧ SqL K H1 a xs ∧ ∀ p, H1 p = none → Q (.ref p) (upd H1 p (.lst xs.reverse))
theorem i_revL {te : TE} (h : te σ H fun x H1 => RevO K x H1 Q) : tRevL K te σ H Q := h
theorem i_revL' {a : Addr} {xs : List V} (h : H a = some (.lst xs)) (q : ∀ p H', H p = none → Same H H' → H' p = some (.lst xs.reverse) → Q (.ref p) H') : RevO K (.ref a) H Q := ⟨a, xs, rfl, SqL.of h, new_obj q⟩
theorem i_gcd {a b : Int} (q : Q (.int ((Nat.gcd a.natAbs b.natAbs : Nat) : Int)) H) : rGcd [.int a, .int b] H Q := ⟨a, b, rfl, q⟩
theorem i_fld {ta : TE} {f : Str} (h : ta σ H fun x H1 => ∃ a C dx fs v, x = .ref a ∧ H1 a = some (.ins C dx fs) ∧ Cls K C ∧ NoAttr K C f ∧ fs.lookup f = some v ∧ Q v H1) : tFld K ta f σ H Q := h
theorem i_fld' {P : V → Prop} {a C dx : Addr} {fs : List (Str × V)} {v : V} {f : Str} (h : H a = some (.ins C dx fs)) (c : Cls K C) (n : NoAttr K C f) (e : fs.lookup f = some v) (q : P v) : ∃ b C dx fs v, V.ref a = .ref b ∧ H b = some (.ins C dx fs) ∧ Cls K C ∧ NoAttr K C f ∧ fs.lookup f = some v ∧ P v := ⟨a, C, dx, fs, v, rfl, h, c, n, e, q⟩
theorem i_rsum {a : Addr} {ns : List Int} (h : H a = some (.lst (ns.map V.int))) (q : Q (.int ns.sum) H) : rSum K [.ref a] H Q := ⟨a, ns, rfl, SqL.of h, q⟩
theorem i_rall {a : Addr} {bs : List Bool} (h : H a = some (.lst (bs.map V.bl))) (q : Q (.bl (bs.all id)) H) : rAll K [.ref a] H Q := ⟨a, bs, rfl, SqL.of h, q⟩
theorem ite_d {c : Prop} [Decidable c] {A B : Prop} (h1 : c → A) (h2 : ¬ c → B) : if decide c = true then A else B := by
  by_cases h : c
  · rw [decide_eq_true h]; exact iteT (h1 h)
  · rw [decide_eq_false h]; exact iteF (h2 h)
theorem ite_nd {c : Prop} [Decidable c] {A B : Prop} (h1 : ¬ c → A) (h2 : c → B) : if (!decide c) = true then A else B := by
  by_cases h : c
  · rw [decide_eq_true h]; exact iteF (h2 h)
  · rw [decide_eq_false h]; exact iteT (h1 h)
theorem ite_nT {A B : Prop} (h : B) : if (!true) = true then A else B := iteF h
theorem ite_nF {A B : Prop} (h : A) : if (!false) = true then A else B := iteT h
theorem ite_b {c : Bool} {A B : Prop} (h1 : c = true → A) (h2 : c = false → B) : if c = true then A else B := by
  cases c
  · exact iteF (h2 rfl)
  · exact iteT (h1 rfl)
theorem ite_nb {c : Bool} {A B : Prop} (h1 : c = false → A) (h2 : c = true → B) : if (!c) = true then A else B := by
  cases c
  · exact iteT (h1 rfl)
  · exact iteF (h2 rfl)
end

/-! ### loops -/
section
variable {K : PySem.W.Frag} {D : Ends} {σ : St} {H : Hp} {Q : VK}
def ForR (g : TG) (tb : TS) (D : Ends) (σ : St) (vs : List V) (H1 : Hp) : Prop := ∃ j : Int, vs = [.int j] ∧ -(2 ^ 62) ≤ j ∧ j < 2 ^ 62 ∧ ∃ W : Nat → Nat → St → Hp → Prop, (∃ m, W 0 m σ H1) ∧ ∀ i m σ H, W i m σ H →
  ((Itr 0 j.toNat).stop i H ∧ D.nx σ H) ∨ ((Itr 0 j.toNat).go i H ∧ ∃ N : St → Hp → Prop, (∀ σ' H', N σ' H' → ∃ m', m' < m ∧ W (i + 1) m' σ' H') ∧ ∀ x H', (Itr 0 j.toNat).yld i H x H' → g x σ H' fun σ2 H2 => tb { D with nx := N, ct := N, bk := D.nx } σ2 H2)
theorem i_forR {ta : TA} {g : TG} {tb : TS} (h : ta σ H fun vs H1 => ForR g tb D σ vs H1) : tFor (iRng1 ta) g tb D σ H := h
theorem forR_of {k : Nat} {tb : TS} {j : Int} {n : Nat} (Pv : Nat → St → Hp → Prop) (Bk : St → Hp → Prop) (hj : j = (n : Nat)) (hn : n < 4000000000) (h0 : Pv 0 σ H)
    (hs : ∀ (i : Nat) (σ : St) (H : Hp) (N B : St → Hp → Prop), i < n → Pv i σ H → (∀ σ H, Pv (i + 1) σ H → N σ H) → (∀ σ H, Bk σ H → B σ H) → tb { D with nx := N, ct := N, bk := B } (σ.set k (some (.int (i : Nat)))) H)
    (hd : ∀ σ H, Pv n σ H → D.nx σ H) (hb : ∀ σ H, Bk σ H → D.nx σ H) : ForR (gName k) tb D σ [.int j] H := by
  subst hj
  refine ⟨_, rfl, by omega, by omega, ?_⟩
  rw [Int.toNat_natCast]
  refine for_range (lo := 0) (n := n) Pv h0 (fun i σ H hi p => ?_) hd
  have h := hs i σ H (Pv (i + 1)) D.nx hi p (fun _ _ q => q) hb
  have e : (0 : Int) + ((i : Nat) : Int) = (i : Nat) := by omega
  rw [e]
  exact h
def ForT (K : PySem.W.Frag) (g : TG) (tb : TS) (D : Ends) (σ : St) (x : V) (H1 : Hp) : Prop := ∃ a, x = .ref a ∧ (∃ xs, SqT K H1 a xs) ∧ ∃ W : Nat → Nat → St → Hp → Prop, (∃ m, W 0 m σ H1) ∧ ∀ i m σ H, W i m σ H →
  ((Itt K a).stop i H ∧ D.nx σ H) ∨ ((Itt K a).go i H ∧ ∃ N : St → Hp → Prop, (∀ σ' H', N σ' H' → ∃ m', m' < m ∧ W (i + 1) m' σ' H') ∧ ∀ x H', (Itt K a).yld i H x H' → g x σ H' fun σ2 H2 => tb { D with nx := N, ct := N, bk := D.nx } σ2 H2)
theorem i_forT {tl : TE} {g : TG} {tb : TS} (h : tl σ H fun x H1 => ForT K g tb D σ x H1) : tFor (iTup K tl) g tb D σ H := h
theorem forT_of {g : TG} {tb : TS} {a : Addr} {xs : List V} (ha : H a = some (.tup xs)) (Pv : Nat → St → Hp → Prop) (Bk : St → Hp → Prop) (h0 : Pv 0 σ H) (hl : ∀ i σ H', Pv i σ H' → ∀ b ys, H b = some (.tup ys) → H' b = some (.tup ys))
    (hs : ∀ (i : Nat) (x : V) (σ : St) (H : Hp) (N B : St → Hp → Prop), xs[i]? = some x → Pv i σ H → (∀ σ H, Pv (i + 1) σ H → N σ H) → (∀ σ H, Bk σ H → B σ H) → g x σ H fun σ2 H2 => tb { D with nx := N, ct := N, bk := B } σ2 H2)
    (hd : ∀ σ H, Pv xs.length σ H → D.nx σ H) (hb : ∀ σ H, Bk σ H → D.nx σ H) : ForT K g tb D σ (.ref a) H :=
  ⟨a, rfl, ⟨xs, SqT.of ha⟩, for_tup (K := K) (a := a) (xs := xs) Pv h0 (fun i σ H' _ p => SqT.of (hl i σ H' p a xs ha)) (fun i x σ H hi p => hs i x σ H (Pv (i + 1)) D.nx hi p (fun _ _ q => q) hb) hd⟩
/-! ### comprehensions -/
def LcT (K : PySem.W.Frag) (g : TG) (te : TE) (vs : List Nat) (σ : St) (Q : VK) (x : V) (H1 : Hp) : Prop := ∃ a, x = .ref a ∧ (∃ xs, SqT K H1 a xs) ∧ ∀ D, H1 D = none → ∃ W : Nat → Nat → Hp → Prop, (∃ m, W 0 m (upd H1 D (.lst []))) ∧ ∀ i m H, W i m H →
  ((Itt K a).stop i H ∧ Q (.ref D) H) ∨ ((Itt K a).go i H ∧ ∃ Nx : Hp → Prop, (∀ H', Nx H' → ∃ m', m' < m ∧ W (i + 1) m' H') ∧ ∀ x H', (Itt K a).yld i H x H' → g x (wipe σ vs) H' fun σ2 H2 => wipe σ2 vs = wipe σ vs ∧ tYes σ2 H2 fun b H3 =>
    if b = true then te σ2 H3 fun y H4 => ∃ acc, H4 D = some (.lst acc) ∧ acc.length < sizeLine ∧ Nx (upd H4 D (.lst (acc ++ [y]))) else Nx H3)
theorem i_lcT {tl te : TE} {g : TG} {vs : List Nat} (h : tl σ H fun x H1 => LcT K g te vs σ Q x H1) : tLc (iTup K tl) g tYes te vs σ H Q := h
def LcL (K : PySem.W.Frag) (g : TG) (te : TE) (vs : List Nat) (σ : St) (Q : VK) (x : V) (H1 : Hp) : Prop := ∃ a, x = .ref a ∧ (∃ xs, SqL K H1 a xs) ∧ ∀ D, H1 D = none → ∃ W : Nat → Nat → Hp → Prop, (∃ m, W 0 m (upd H1 D (.lst []))) ∧ ∀ i m H, W i m H →
  ((Itl K a).stop i H ∧ Q (.ref D) H) ∨ ((Itl K a).go i H ∧ ∃ Nx : Hp → Prop, (∀ H', Nx H' → ∃ m', m' < m ∧ W (i + 1) m' H') ∧ ∀ x H', (Itl K a).yld i H x H' → g x (wipe σ vs) H' fun σ2 H2 => wipe σ2 vs = wipe σ vs ∧ tYes σ2 H2 fun b H3 =>
    if b = true then te σ2 H3 fun y H4 => ∃ acc, H4 D = some (.lst acc) ∧ acc.length < sizeLine ∧ Nx (upd H4 D (.lst (acc ++ [y]))) else Nx H3)
theorem i_lcL {tl te : TE} {g : TG} {vs : List Nat} (h : tl σ H fun x H1 => LcL K g te vs σ Q x H1) : tLc (iList K tl) g tYes te vs σ H Q := h
/-- what holds between two turns of a comprehension over data -/
def LcI (H : Hp) (Dl : Addr) (es : List PyData) (F : PyData → PyData) (i : Nat) (H1 : Hp) : Prop :=
  (∀ b o, H b = some o → H1 b = some o) ∧ ∃ ys, H1 Dl = some (.lst ys) ∧ ImL H1 ys ((es.take i).map F)
theorem lcI_0 {H : Hp} {Dl : Addr} {es : List PyData} {F : PyData → PyData} (hD : H Dl = none) : LcI H Dl es F 0 (upd H Dl (.lst [])) :=
  ⟨same_upd hD, [], upd_same, by simp [ImL]⟩
theorem lcI_turn {H : Hp} {Dl : Addr} {es : List PyData} {F : PyData → PyData} {i : Nat} {H1 H3 : Hp} {e : PyData} {y : V} (hD : H Dl = none) (hs : es.length < sizeLine) (he : es[i]? = some e) (p : LcI H Dl es F i H1) (s : Same H1 H3) (hy : Im H3 y (F e)) :
    ∃ acc, H3 Dl = some (.lst acc) ∧ acc.length < sizeLine ∧ LcI H Dl es F (i + 1) (upd H3 Dl (.lst (acc ++ [y]))) := by
  obtain ⟨k, ys, h1, h2⟩ := p
  have hl := h2.length
  refine ⟨ys, s _ _ h1, ?_, ?_, ys ++ [y], upd_same, ?_⟩
  · rw [hl, List.length_map, List.length_take]
    omega
  · exact same_loc (Same.trans k s) (kl_upd (s _ _ h1)) hD
  · have kl := kl_upd (ys := ys ++ [y]) (s _ _ h1)
    have e1 : (es.take (i + 1)).map F = (es.take i).map F ++ [F e] := by
      rw [List.take_add_one, he]; simp
    rw [e1]
    exact ImL.append (kl_iml kl (sm_iml s h2)) (by simp only [ImL]; exact ⟨kl_im kl hy, trivial⟩)
theorem lcT_of {g : TG} {te : TE} {vs : List Nat} {a : Addr} {xs : List V} {es : List PyData} (F : PyData → PyData) (ha : H a = some (.tup xs)) (hl : ImL H xs es) (hz : es.length < sizeLine)
    (turn : ∀ (e : PyData) (x : V) (H1 : Hp) (N : V → Hp → Prop), e ∈ es → Same H H1 → Im H1 x e → (∀ y H3, Same H1 H3 → Im H3 y (F e) → N y H3) → g x (wipe σ vs) H1 fun σ2 H2 => wipe σ2 vs = wipe σ vs ∧ te σ2 H2 N)
    (done : ∀ D H1 ys, H D = none → Same H H1 → H1 D = some (.lst ys) → ImL H1 ys (es.map F) → Q (.ref D) H1) : LcT K g te vs σ Q (.ref a) H := by
  refine ⟨a, rfl, ⟨xs, SqT.of ha⟩, fun Dl hD => ?_⟩
  refine lc_tup (K := K) (a := a) (xs := xs) (tt := tYes) (LcI H Dl es F) (lcI_0 hD) (fun i H' _ p => SqT.of (p.1 _ _ ha)) (fun i x H' hx p => ?_) (fun H' p => ?_)
  · obtain ⟨e, he, hi⟩ := hl.get hx
    exact turn e x H' _ (List.mem_of_getElem? he) p.1 (Im.mono (fun b ys q => p.1 b _ q) e hi) (fun y H3 s hy => lcI_turn hD hz he p s hy)
  · obtain ⟨k, ys, h1, h2⟩ := p
    rw [List.take_of_length_le (by rw [hl.length]; exact Nat.le_refl _)] at h2
    exact done Dl H' ys hD k h1 h2
theorem lcL_of {g : TG} {te : TE} {vs : List Nat} {a : Addr} {xs : List V} {es : List PyData} (F : PyData → PyData) (ha : SqL K H a xs) (hl : ImL H xs es) (hz : es.length < sizeLine)
    (turn : ∀ (e : PyData) (x : V) (H1 : Hp) (N : V → Hp → Prop), e ∈ es → Same H H1 → Im H1 x e → (∀ y H3, Same H1 H3 → Im H3 y (F e) → N y H3) → g x (wipe σ vs) H1 fun σ2 H2 => wipe σ2 vs = wipe σ vs ∧ te σ2 H2 N)
    (done : ∀ D H1 ys, H D = none → Same H H1 → H1 D = some (.lst ys) → ImL H1 ys (es.map F) → Q (.ref D) H1) : LcL K g te vs σ Q (.ref a) H := by
  refine ⟨a, rfl, ⟨xs, ha⟩, fun Dl hD => ?_⟩
  refine lc_list (K := K) (a := a) (xs := xs) (tt := tYes) (LcI H Dl es F) (lcI_0 hD) (fun i H' _ p => Same.seq p.1 ha) (fun i x H' hx p => ?_) (fun H' p => ?_)
  · obtain ⟨e, he, hi⟩ := hl.get hx
    exact turn e x H' _ (List.mem_of_getElem? he) p.1 (Im.mono (fun b ys q => p.1 b _ q) e hi) (fun y H3 s hy => lcI_turn hD hz he p s hy)
  · obtain ⟨k, ys, h1, h2⟩ := p
    rw [List.take_of_length_le (by rw [hl.length]; exact Nat.le_refl _)] at h2
    exact done Dl H' ys hD k h1 h2
theorem i_slLq {a : Addr} {xs : List V} {lo hi : Option Int} (h : SqL K H a xs) (q : ∀ p H', H p = none → Same H H' → H' p = some (.lst (cutV xs lo hi)) → Q (.ref p) H') : rSlL K (.ref a) lo hi H Q := ⟨a, xs, rfl, h, new_obj q⟩
theorem cutV_map (ns : List Int) (lo hi : Option Int) : ∃ ms : List Int, cutV (ns.map V.int) lo hi = ms.map V.int ∧ ms.length ≤ ns.length := by
  refine ⟨(ns.drop (HT.sIx (ns.map V.int).length 0 lo)).take (HT.sIx (ns.map V.int).length (ns.map V.int).length hi - HT.sIx (ns.map V.int).length 0 lo), ?_, ?_⟩
  · unfold cutV
    rw [List.map_take, List.map_drop]
  · rw [List.length_take, List.length_drop]
    omega
end

/-! ### calls -/
structure Okd (P : Program) (w : World) (K : PySem.W.Frag) (mg : Str → Option Value) (base : Heap) (k : Nat) (x : Str) (ps : List Str) (sp : Sp) : Prop where
  ex : ∃ f fd, FnOk P w K mg base CX0 k f fd ps sp ∧ mg x = some (.ref f) ∧ PySem.W.keepIn K (.ref f) = true ∧ Binds K fd ps []
section
variable {X : Cx} {x : Str} {p pos : Pos} {e : Expr} {es : List Expr} {t : TA} {k : Nat} {ps : List Str} {sp : Sp}
theorem pe_callD (Dd : Okd X.prog X.w X.K X.mg X.base k x ps sp) (hr : Room k X.A) (ha : PA X (e :: es) t) (hg : Gl X x := by rfl) (hdb : (x == ("__debug__" : Str)) = false := by decide)
    (he : starEach (e :: es) X.env = (false, eval e X.env) :: starEach es X.env := by rfl) (hpl : (backTo pos (starEach es X.env)).any (·.1) = false := by rfl) : PE X (.Call (.Name x p) (e :: es) [] pos) (tCall sp [] E0 t) := by
  obtain ⟨f, fd, F, h1, h2, h3⟩ := Dd.ex
  exact pe_call F hr hg h1 h2 h3 .nil pass0 ha hdb he hpl
end

/-! ### math.lcm of positive numbers -/
theorem log2_div (n : Nat) (h : n.log2 < 13001) : ¬ n.log2 / 30 + 1 > 450 := by omega
theorem max_log2 {a b c : Nat} (ha : a.log2 < c) (hb : b.log2 < c) : (max a b).log2 < c := by
  rcases Nat.le_total a b with h | h
  · rw [Nat.max_eq_right h]; exact hb
  · rw [Nat.max_eq_left h]; exact ha
theorem log2_mul_lt {a b i j : Nat} (ha : a.log2 < i) (hb : b.log2 < j) (h0 : a ≠ 0) (h1 : b ≠ 0) : (a * b).log2 < i + j := by
  have x : a < 2 ^ i := (Nat.log2_lt h0).mp ha
  have y : b < 2 ^ j := (Nat.log2_lt h1).mp hb
  refine (Nat.log2_lt (Nat.mul_ne_zero h0 h1)).mpr ?_
  rw [Nat.pow_add]
  exact Nat.mul_lt_mul'' x y
theorem log2_le {a b : Nat} (h : a ≤ b) (h0 : a ≠ 0) : a.log2 ≤ b.log2 := by
  have hb : b ≠ 0 := by omega
  have y : b < 2 ^ (b.log2 + 1) := (Nat.log2_lt hb).mp (Nat.lt_succ_self _)
  have z : a.log2 < b.log2 + 1 := (Nat.log2_lt h0).mpr (Nat.lt_of_le_of_lt h y)
  omega
section
variable {X : Cx}
theorem cr_lcm : CallR X (.builtin "math.lcm") rLcm := by
  intro pins s σ H vs us Q I r h
  obtain ⟨a, b, rfl, ha, hb, la, lb, q⟩ := h
  obtain ⟨t, u, rfl⟩ := Vals.int2 r
  have e1 : Nat.lcm 1 a.natAbs = a.natAbs := by simp [Nat.lcm]
  have na : a.natAbs ≠ 0 := by omega
  have nb : b.natAbs ≠ 0 := by omega
  have hle : a.natAbs.lcm b.natAbs ≤ a.natAbs * b.natAbs := Nat.le_of_dvd (Nat.mul_pos (by omega) (by omega)) ⟨a.natAbs.gcd b.natAbs, by rw [Nat.mul_comm (Nat.lcm _ _)]; exact (Nat.gcd_mul_lcm _ _).symm⟩
  have hpos : a.natAbs.lcm b.natAbs ≠ 0 := Nat.pos_iff_ne_zero.mp (Nat.lcm_pos (by omega) (by omega))
  have hl : (a.natAbs.lcm b.natAbs).log2 < 26001 := Nat.lt_of_le_of_lt (log2_le hle hpos) (Nat.lt_of_lt_of_le (log2_mul_lt la lb na nb) (by decide))
  have hm : (max a.natAbs b.natAbs).log2 < 13000 := max_log2 la lb
  have hm1 : (max 1 a.natAbs).log2 < 13000 := max_log2 (by decide) la
  have hz : ((((Nat.lcm 1 a.natAbs).lcm b.natAbs : Nat) : Int)).natAbs.log2 < bitsLine := by
    rw [e1, Int.natAbs_natCast, show bitsLine = 134217728 by decide]
    omega
  have g := PySem.W.mg_run_lcm a t b u (by omega) (by omega) hz
  rw [e1] at g
  exact call_function_meets PySem.W.MGF.kind_lcm PySem.W.MGF.plain_lcm PySem.W.MGF.entry_lcm (PySem.W.MGF.args_lcm _ _) g.meets ⟨.int _, H, I.tok _, ⟨_, rfl⟩, q⟩
end
theorem i_lcm {H : Hp} {Q : VK} {a b : Int} (ha : 0 < a) (hb : 0 < b) (la : a.natAbs.log2 < 13000) (lb : b.natAbs.log2 < 13000) (q : Q (.int ((Nat.lcm a.natAbs b.natAbs : Nat) : Int)) H) : rLcm [.int a, .int b] H Q := ⟨a, b, rfl, ha, hb, la, lb, q⟩
/-! ### answers -/
/-- a value that is d, all that stood stands -/
def Ret (H : Hp) (Q : VK) (d : PyData) : Prop := ∀ v H', Same H H' → Im H' v d → Q v H'
/-- the same, the hand at m drawn from -/
def RetM (m c : Addr) (H : Hp) (Q : VK) (d : PyData) : Prop := ∀ v H', KL m H H' → Hand H' m c → Im H' v d → Q v H'
theorem Ret.tup {H : Hp} {Q : VK} {ds : List PyData} {vs : List V} (r : Ret H Q (.tuple ds)) (H1 : Hp) (s : Same H H1) (l : ImL H1 vs ds) : ∀ p H', H1 p = none → Same H1 H' → H' p = some (.tup vs) → Q (.ref p) H' :=
  fun p H' _ s' e => r _ _ (s.trans s') (Im.tup e (sm_iml s' l))
theorem Ret.int {H : Hp} {Q : VK} {i : Int} (r : Ret H Q (.int i)) (H1 : Hp) (s : Same H H1) : Q (.int i) H1 := r _ _ s Im.int'
/-- shaped data -/
def Fl : PyData → Bool
  | .int _ => true
  | _ => false
theorem canAll_of {ds : List PyData} : (∀ d ∈ ds, d.canLay0 = true) → PyData.canLayAll0 ds = true := by
  induction ds with
  | nil => intro _; rfl
  | cons d ds ih =>
    intro h
    simp only [PyData.canLayAll0, Bool.and_eq_true]
    exact ⟨h d List.mem_cons_self, ih fun e he => h e (List.mem_cons_of_mem _ he)⟩
theorem depthAll_of {ds : List PyData} {n : Nat} : (∀ d ∈ ds, d.depth ≤ n) → PyData.depthAll ds ≤ n := by
  induction ds with
  | nil => intro _; exact Nat.zero_le _
  | cons d ds ih =>
    intro h
    simp only [PyData.depthAll]
    exact Nat.max_le.mpr ⟨h d List.mem_cons_self, ih fun e he => h e (List.mem_cons_of_mem _ he)⟩
theorem shaped_tup {ds : List PyData} {n : Nat} (hn : n < 64) (h : ∀ d ∈ ds, d.canLay0 = true ∧ d.depth ≤ n) : SeqAt.shaped (.tuple ds) = true := by
  unfold SeqAt.shaped
  have h1 := canAll_of fun d hd => (h d hd).1
  have h2 := depthAll_of fun d hd => (h d hd).2
  rw [Bool.and_eq_true]
  exact ⟨by simp only [PyData.canLay0]; exact h1, decide_eq_true (by simp only [PyData.depth]; omega)⟩
theorem Im.tup_at' {H : Hp} {v : V} {ds : List PyData} (h : Im H v (.tuple ds)) : ∃ a vs, v = .ref a ∧ H a = some (.tup vs) ∧ ImL H vs ds := by
  simpa only [Im] using h
/-- tuples put together, neither empty -/
theorem i_catT {K : PySem.W.Frag} {H : Hp} {Q : VK} {x y : V} {ds es : List PyData} (h1 : Im H x (.tuple ds)) (h2 : Im H y (.tuple es)) (n1 : ds ≠ []) (n2 : es ≠ []) (hz : ds.length + es.length ≤ sizeLine)
    (q : Ret H Q (.tuple (ds ++ es))) : rCatA K x y H Q := by
  obtain ⟨a, xs, rfl, ha, la⟩ := h1.tup_at'
  obtain ⟨b, ys, rfl, hb, lb⟩ := h2.tup_at'
  have e1 := la.length
  have e2 := lb.length
  refine ⟨a, b, xs, ys, rfl, rfl, SqT.of ha, SqT.of hb, by omega, fun z => ?_, fun _ z => ?_, fun _ _ => new_obj fun p H' hp s e => ?_⟩
  · subst z; exact absurd (List.eq_nil_of_length_eq_zero e1.symm) n1
  · subst z; exact absurd (List.eq_nil_of_length_eq_zero e2.symm) n2
  · exact q _ _ s (Im.tup e (sm_iml s (ImL.append la lb)))
theorem i_isiB {K : PySem.W.Frag} {H : Hp} {Q : VK} {x : V} {t n : String} {b : Bool} (ty : TyX K H x (.type t)) (h : kitB t n = some b) (q : Q (.bl b) H) : rIsi K [x, .ty n] H Q := ⟨x, .ty n, .type t, .type n, b, rfl, .ty n, ty, kit_ty h, q⟩
theorem kit_ii : kitB "int" "int" = some true := by decide +kernel
theorem kit_ib : kitB "int" "bool" = some false := by decide +kernel
theorem kit_tt : kitB "tuple" "tuple" = some true := by decide +kernel
theorem i_isi_ii {K : PySem.W.Frag} {H : Hp} {Q : VK} {i : Int} (q : Q (.bl true) H) : rIsi K [.int i, .ty "int"] H Q := i_isiB (.base (.int i)) kit_ii q
theorem i_isi_ib {K : PySem.W.Frag} {H : Hp} {Q : VK} {i : Int} (q : Q (.bl false) H) : rIsi K [.int i, .ty "bool"] H Q := i_isiB (.base (.int i)) kit_ib q
theorem i_isi_tt {K : PySem.W.Frag} {H : Hp} {Q : VK} {a : Addr} {xs : List V} (h : H a = some (.tup xs)) (q : Q (.bl true) H) : rIsi K [.ref a, .ty "tuple"] H Q := i_isiB (.base (.tup h)) kit_tt q
/-- list slices -/
theorem cutV_from {xs : List V} {i : Int} (h0 : 0 ≤ i) (h1 : i ≤ (xs.length : Nat)) : cutV xs (some i) none = xs.drop i.toNat := by
  have e : HT.sIx xs.length 0 (some i) = i.toNat := by
    obtain ⟨k, rfl⟩ : ∃ k : Nat, i = (k : Nat) := ⟨i.toNat, by omega⟩
    rw [HT.sIx_nat]
    omega
  have e2 : HT.sIx xs.length xs.length none = xs.length := rfl
  unfold cutV
  rw [e, e2]
  exact List.take_of_length_le (by rw [List.length_drop]; exact Nat.le_refl _)
theorem cutV_to {xs : List V} {i : Int} (h0 : 0 ≤ i) (h1 : i ≤ (xs.length : Nat)) : cutV xs none (some i) = xs.take i.toNat := by
  have e : HT.sIx xs.length xs.length (some i) = i.toNat := by
    obtain ⟨k, rfl⟩ : ∃ k : Nat, i = (k : Nat) := ⟨i.toNat, by omega⟩
    rw [HT.sIx_nat]
    omega
  have e2 : HT.sIx xs.length 0 none = 0 := rfl
  unfold cutV
  rw [e, e2, List.drop_zero]
  rfl
/-! ### fractions as data -/
def fr (q : Rat) : PyData := .tuple [.int q.num, .int (q.den : Nat)]
theorem fr_can (q : Rat) : (fr q).canLay0 = true ∧ (fr q).depth ≤ 1 := ⟨rfl, by simp [fr, PyData.depth, PyData.depthAll]⟩
theorem fr_shaped (q : Rat) : SeqAt.shaped (fr q) = true := by
  unfold SeqAt.shaped
  rw [(fr_can q).1]
  have := (fr_can q).2
  simp only [Bool.true_and, decide_eq_true_eq]
  omega
theorem frs_shaped (qs : List Rat) : SeqAt.shaped (.tuple (qs.map fr)) = true := shaped_tup (n := 1) (by decide) fun d hd => by
  obtain ⟨q, _, rfl⟩ := List.mem_map.mp hd
  exact fr_can q
theorem rat_ext {a b : Rat} (h1 : a.num = b.num) (h2 : a.den = b.den) : a = b := by
  cases a; cases b; simp_all
theorem eqv_fr (a b : Rat) : PyData.eqv (fr a) (fr b) = decide (a = b) := by
  simp only [fr, PyData.eqv, PyData.eqvAll, Bool.and_true]
  by_cases h : a = b
  · subst h; simp
  · rw [decide_eq_false h]
    by_cases h1 : a.num = b.num
    · by_cases h2 : (a.den : Int) = (b.den : Int)
      · exact absurd (rat_ext h1 (by omega)) h
      · simp [h1, h2]
    · simp [h1]
theorem eqvAll_frs : ∀ (as bs : List Rat), PyData.eqvAll (as.map fr) (bs.map fr) = decide (as = bs)
  | [], [] => by simp [PyData.eqvAll]
  | a :: as, b :: bs => by
    simp only [List.map_cons, PyData.eqvAll, eqv_fr, eqvAll_frs as bs]
    by_cases h : a = b <;> by_cases h2 : as = bs <;> simp [h, h2]
  | [], _ :: _ => by simp [PyData.eqvAll]
  | _ :: _, [] => by simp [PyData.eqvAll]
theorem eqv_frs (as bs : List Rat) : PyData.eqv (.tuple (as.map fr)) (.tuple (bs.map fr)) = decide (as = bs) := by
  simp only [PyData.eqv]; exact eqvAll_frs as bs
theorem Im.fr_at {H : Hp} {v : V} {q : Rat} (h : Im H v (fr q)) : ∃ a, v = .ref a ∧ H a = some (.tup [.int q.num, .int (q.den : Nat)]) := by
  simp only [fr, Im] at h
  obtain ⟨a, vs, e, ha, hl⟩ := h
  match vs, hl with
  | [x, y], hl =>
    simp only [ImL, Im] at hl
    obtain ⟨rfl, rfl, _⟩ := hl
    exact ⟨a, e, ha⟩
theorem Im.fr_of {H : Hp} {a : Addr} {q : Rat} (h : H a = some (.tup [.int q.num, .int (q.den : Nat)])) : Im H (.ref a) (fr q) := by
  simp only [fr, Im, ImL]; exact ⟨a, _, rfl, h, rfl, rfl, trivial⟩
theorem Im.tup_at {H : Hp} {v : V} {ds : List PyData} (h : Im H v (.tuple ds)) : ∃ a vs, v = .ref a ∧ H a = some (.tup vs) ∧ ImL H vs ds := by
  simpa only [Im] using h
end QW
namespace QW
open PySem L2
/-! ### what the top has written, def by def -/
def DefAt (K : PySem.W.Frag) (x : Str) (st : Stmt) : Prop := ∃ (f : Addr) (oc : Value) (od : Option Addr) (kV doc pm : Value) (an : Option Addr) (cdv ct : Value) (osl : Array (Option Value)),
  PySem.W.nsIn K mainGlobals x = some (some (.ref f)) ∧ K.lookup f = some ⟨oc, od, .func (PySem.W.fnOf x x (defArgs st) (defBody st) (defScope st) .none kV doc pm an cdv ct), osl⟩ ∧ PySem.W.codeIn K cdv x = true ∧ PySem.W.keepIn K (.ref f) = true
/-- a method m (by its long name q) of the class at Cc -/
def MethAt (K : PySem.W.Frag) (Cc : Addr) (m q : Str) (st : Stmt) : Prop := ∃ (f : Addr) (oc : Value) (od : Option Addr) (kV doc pm : Value) (an : Option Addr) (cdv ct : Value) (osl : Array (Option Value)),
  PySem.W.findIn K (.ref Cc) m = some (some (.ref f)) ∧ PySem.W.isFn K (.ref f) = true ∧ K.lookup f = some ⟨oc, od, .func (PySem.W.fnOf m q (defArgs st) (defBody st) (defScope st) .none kV doc pm an cdv ct), osl⟩ ∧ PySem.W.codeIn K cdv q = true ∧ PySem.W.keepIn K (.ref f) = true
/-- how the arguments of a def without defaults bind -/
def BindsBy (x q : Str) (st : Stmt) (ps : List Str) : Prop := ∀ (kV doc pm : Value) (an : Option Addr) (cdv ct : Value) (us : List Value), us.length = ps.length →
  bindArgs (PySem.W.fnOf x q (defArgs st) (defBody st) (defScope st) .none kV doc pm an cdv ct) ⟨us, []⟩ = pure (ps.zip us)
section
variable {P : Program} {w : World} {K : PySem.W.Frag} {mg : Str → Option Value} {base h : Heap} {k : Nat} {x q : Str} {ps : List Str} {sp : Sp} {st : Stmt} {Cc : Addr}
theorem DefAt.okd (D : DefAt K x st) (X : K.In h) (G : h.Ns mainGlobals mg) (hb : BindsBy x x st ps) (ok : ∀ f fd, Fun K x x st f fd → FnOk P w K mg base CX0 k f fd ps sp) : Okd P w K mg base k x ps sp := by
  obtain ⟨f, oc, od, kV, doc, pm, an, cdv, ct, osl, a, l, c, kp⟩ := D
  have F := fun_mk (st := st) l c kp
  exact ⟨⟨f, _, ok _ _ F, PySem.W.mg_of X G a, kp, F.binds hb⟩⟩
structure Okm (P : Program) (w : World) (K : PySem.W.Frag) (mg : Str → Option Value) (base : Heap) (k : Nat) (x : Str) (Cc : Addr) (ps : List Str) (sp : Sp) : Prop where
  ex : ∃ f fd, Mk K Cc f ∧ FnOk P w K mg base CX0 k f fd ps sp ∧ mg x = some (.ref Cc) ∧ Binds K fd ps []
theorem MethAt.okm (D : MethAt K Cc "__init__" q st) (hm : mg x = some (.ref Cc)) (mk : PySem.W.makesIn K Cc = true) (kc : PySem.W.keepIn K (.ref Cc) = true) (hb : BindsBy "__init__" q st ps) (ok : ∀ f fd, Fun K "__init__" q st f fd → FnOk P w K mg base CX0 k f fd ps sp) :
    Okm P w K mg base k x Cc ps sp := by
  obtain ⟨f, oc, od, kV, doc, pm, an, cdv, ct, osl, a, i, l, c, kp⟩ := D
  have F := fun_mk (st := st) l c kp
  exact ⟨⟨f, _, ⟨mk, a, i, kc⟩, ok _ _ F, hm, F.binds hb⟩⟩
structure Okf (P : Program) (w : World) (K : PySem.W.Frag) (mg : Str → Option Value) (base : Heap) (k : Nat) (m : Str) (Cc : Addr) (ps : List Str) (sp : Sp) : Prop where
  ex : ∃ f fd, Meth K Cc m f ∧ FnOk P w K mg base CX0 k f fd ps sp ∧ Binds K fd ps []
  cl : Cls K Cc
theorem MethAt.okf {m : Str} (D : MethAt K Cc m q st) (cl : Cls K Cc) (hb : BindsBy m q st ps) (ok : ∀ f fd, Fun K m q st f fd → FnOk P w K mg base CX0 k f fd ps sp) :
    Okf P w K mg base k m Cc ps sp := by
  obtain ⟨f, oc, od, kV, doc, pm, an, cdv, ct, osl, a, i, l, c, kp⟩ := D
  have F := fun_mk (st := st) l c kp
  exact ⟨⟨f, _, ⟨a, i, kp⟩, ok _ _ F, F.binds hb⟩, cl⟩
end
section
variable {X : Cx} {x m : Str} {p pos apos : Pos} {o e : Expr} {es : List Expr} {to : TE} {t : TA} {k : Nat} {Cc : Addr} {ps : List Str} {sp : Sp}
theorem pe_makeD (Dd : Okm X.prog X.w X.K X.mg X.base k x Cc ps sp) (hr : Room (k + 1) X.A) (ha : PA X (e :: es) t) (hg : Gl X x := by rfl) (hdb : (x == ("__debug__" : Str)) = false := by decide)
    (he : starEach (e :: es) X.env = (false, eval e X.env) :: starEach es X.env := by rfl) (hpl : (backTo pos (starEach es X.env)).any (·.1) = false := by rfl) : PE X (.Call (.Name x p) (e :: es) [] pos) (tMake Cc sp [] E0 t) := by
  obtain ⟨f, fd, M, F, h1, h3⟩ := Dd.ex
  exact pe_make M F hr hg h1 h3 .nil pass0 ha hdb he hpl
end
/-! ### the built-ins by their names -/
theorem bt_len : bootBuiltins "len" = some (.builtin "len") := PySem.boot_len
theorem bt_abs : bootBuiltins "abs" = some (.builtin "abs") := PyProof.Rows.boot_abs
theorem bt_max : bootBuiltins "max" = some (.builtin "max") := PyProof.Rows.boot_max
theorem bt_min : bootBuiltins "min" = some (.builtin "min") := PyProof.Rows.boot_min
theorem bt_sum : bootBuiltins "sum" = some (.builtin "sum") := PyProof.Rows.boot_sum
theorem bt_all : bootBuiltins "all" = some (.builtin "all") := PyProof.Rows.boot_all
theorem bt_isinstance : bootBuiltins "isinstance" = some (.builtin "isinstance") := PyProof.Rows.boot_isinstance
theorem bt_int : bootBuiltins "int" = some (.type "int") := PyProof.Rows.boot_int
theorem bt_bool : bootBuiltins "bool" = some (.type "bool") := PyProof.Rows.boot_bool
theorem bt_tuple : bootBuiltins "tuple" = some (.type "tuple") := PyProof.Rows.boot_tuple
theorem bt_range : bootBuiltins "range" = some (.type "range") := PyProof.Rows.boot_range
end QW

namespace QW
open PySem L2
/-! ### fractions -/
theorem low_num (n : Int) (d : Nat) (h : 0 < d) : (mkRat n d).num = n / ((n.natAbs.gcd d : Nat) : Int) := by
  rw [Rat.num_mkRat, if_neg (by omega), Nat.gcd_comm]
theorem low_den (n : Int) (d : Nat) (h : 0 < d) : (((mkRat n d).den : Nat) : Int) = (d : Int) / ((n.natAbs.gcd d : Nat) : Int) := by
  rw [Rat.den_mkRat, if_neg (by omega), Nat.gcd_comm]
  exact Int.natCast_ediv _ _
theorem gcd_le (n : Int) (d : Nat) (h : 0 < d) : 0 < n.natAbs.gcd d ∧ n.natAbs.gcd d ≤ d :=
  ⟨Nat.gcd_pos_of_pos_right _ h, Nat.le_of_dvd h (Nat.gcd_dvd_right _ _)⟩
theorem log2_lt_of_le {a b k : Nat} (h : a ≤ b) (hb : b.log2 < k) (hk : 0 < k) : a.log2 < k := by
  by_cases h0 : a = 0
  · subst h0; simpa using hk
  · exact Nat.lt_of_le_of_lt (log2_le h h0) hb
theorem div_ok {i : Int} {d : Nat} (h : 0 < d) (hk : d.log2 < 9000) : CDivW i (d : Int) := ⟨by omega, by rw [Int.natAbs_natCast]; exact hk⟩
theorem log2_of_lt {a k : Nat} (h : a < 2 ^ k) (hk : 0 < k) : a.log2 < k := by
  by_cases h0 : a = 0
  · subst h0; simpa using hk
  · exact (Nat.log2_lt h0).mpr h
/-- a common multiple of the bottoms -/
def ComM (qs : List Rat) (M : Nat) : Prop := 0 < M ∧ ∀ q ∈ qs, q.den ∣ M
/-- sums by a common bottom -/
theorem units_sum (L : Nat) (hL : 0 < L) : ∀ qs : List Rat, (∀ q ∈ qs, q.den ∣ L) → mkRat ((qs.map fun q => q.num * ((L : Int) / (q.den : Int))).sum) L = qs.sum
  | [], _ => by simp
  | q :: qs, h => by
    have ih := units_sum L hL qs fun x hx => h x (List.mem_cons_of_mem _ hx)
    obtain ⟨k, hk⟩ := h q List.mem_cons_self
    rw [List.map_cons, List.sum_cons, List.sum_cons, ← ih]
    have hd : q.den ≠ 0 := q.den_nz
    have e : (L : Int) / (q.den : Int) = (k : Int) := by
      rw [hk]; push_cast; exact Int.mul_ediv_cancel_left _ (by omega)
    rw [e]
    have hk0 : k ≠ 0 := by rintro rfl; omega
    have e1 : mkRat (q.num * k) L = q := by
      rw [hk, Int.mul_comm, Nat.mul_comm, Rat.mkRat_mul_left hk0, Rat.mkRat_self]
    generalize (qs.map fun q => q.num * ((L : Int) / (q.den : Int))).sum = S
    conv => rhs; rw [← e1]
    rw [Rat.mkRat_add_mkRat _ _ (by omega) (by omega)]
    rw [show q.num * ↑k * (L : Int) + S * (L : Int) = (L : Int) * (q.num * k + S) by grind, Rat.mkRat_mul_left (by omega)]
theorem fr_inj {a b : Rat} (h : fr a = fr b) : a = b := by
  simp only [fr, PyData.tuple.injEq, List.cons.injEq, PyData.int.injEq, and_true] at h
  exact rat_ext h.1 (by omega)
theorem mem_frs {qs : List Rat} {e : PyData} (h : e ∈ qs.map fr) : ∃ q ∈ qs, e = fr q := by
  obtain ⟨q, hq, rfl⟩ := List.mem_map.mp h
  exact ⟨q, hq, rfl⟩
theorem get_frs {qs : List Rat} {i : Nat} {e : PyData} (h : (qs.map fr)[i]? = some e) : ∃ q, qs[i]? = some q ∧ e = fr q := by
  rw [List.getElem?_map] at h
  cases e1 : qs[i]? with
  | none => rw [e1] at h; cases h
  | some q => rw [e1] at h; exact ⟨q, rfl, (Option.some.inj h).symm⟩
end QW
namespace QW
open PySem L2
/-! ### bounds of fractions -/
/-- bounds of fractions: a common bottom and the tops -/
def Bd (B : Nat) (qs : List Rat) : Prop := qs.length ≤ 1000 ∧ (∃ M, ComM qs M ∧ M < 2 ^ B) ∧ ∀ q ∈ qs, q.num.natAbs < 2 ^ B
/-- small ones: what the law's own adding can go through -/
def Bs (qs : List Rat) : Prop := qs.length ≤ 1000 ∧ (∃ M, ComM qs M ∧ M < 2 ^ 48) ∧ ∀ q ∈ qs, q.num.natAbs < 2 ^ 88
theorem Bs.bd {qs : List Rat} (h : Bs qs) : Bd 8000 qs := by
  obtain ⟨h1, ⟨M, h2, h3⟩, h4⟩ := h
  exact ⟨h1, ⟨M, h2, Nat.lt_trans h3 (Nat.pow_lt_pow_right (by decide) (by decide))⟩, fun q hq => Nat.lt_trans (h4 q hq) (Nat.pow_lt_pow_right (by decide) (by decide))⟩
theorem Bs.sub {qs rs : List Rat} (h : Bs qs) (hl : rs.length ≤ 1000) (hs : ∀ q ∈ rs, q ∈ qs) : Bs rs := by
  obtain ⟨h1, ⟨M, ⟨h2, h2'⟩, h3⟩, h4⟩ := h
  exact ⟨hl, ⟨M, ⟨h2, fun q hq => h2' q (hs q hq)⟩, h3⟩, fun q hq => h4 q (hs q hq)⟩
theorem Bs.take {qs : List Rat} (h : Bs qs) (i : Nat) : Bs (qs.take i) :=
  h.sub (Nat.le_trans (by rw [List.length_take]; omega) h.1) fun q hq => List.mem_of_mem_take hq
theorem sum_abs (M B : Nat) : ∀ qs : List Rat, (∀ q ∈ qs, q.num.natAbs ≤ B) → ((qs.map fun q => q.num * ((M : Int) / (q.den : Int))).sum).natAbs ≤ qs.length * (B * M)
  | [], _ => by simp
  | q :: qs, h => by
    have ih := sum_abs M B qs fun x hx => h x (List.mem_cons_of_mem _ hx)
    rw [List.map_cons, List.sum_cons, List.length_cons, Nat.succ_mul]
    refine Nat.le_trans (Int.natAbs_add_le _ _) ?_
    rw [Int.natAbs_mul, ← Int.natCast_ediv, Int.natAbs_natCast]
    have h1 : q.num.natAbs * (M / q.den) ≤ B * M := Nat.mul_le_mul (h q List.mem_cons_self) (Nat.div_le_self _ _)
    omega
theorem mkRat_num_le (n : Int) (d : Nat) (h : 0 < d) : (mkRat n d).num.natAbs ≤ n.natAbs := by
  rw [low_num n d h, Int.natAbs_ediv_of_dvd (Int.natCast_dvd_natCast.mpr (Nat.gcd_dvd_left _ _) |> fun h => Int.dvd_trans h (Int.natAbs_dvd.mpr (Int.dvd_refl _))), Int.natAbs_natCast]
  exact Nat.div_le_self _ _
theorem mkRat_den_dvd (n : Int) (d : Nat) (h : 0 < d) : (mkRat n d).den ∣ d := by
  rw [Rat.den_mkRat, if_neg (by omega)]
  exact Nat.div_dvd_of_dvd (Nat.gcd_dvd_left _ _)
/-- what a sum of small ones comes to -/
theorem Bs.sum {qs : List Rat} (h : Bs qs) : qs.sum.num.natAbs < 2 ^ 148 ∧ qs.sum.den < 2 ^ 148 := by
  obtain ⟨h1, ⟨M, ⟨h2, h2'⟩, h3⟩, h4⟩ := h
  have e := units_sum M h2 qs h2'
  have hs := sum_abs M (2 ^ 88) qs fun q hq => Nat.le_of_lt (h4 q hq)
  rw [← e]
  have l1 := mkRat_num_le ((qs.map fun q => q.num * ((M : Int) / (q.den : Int))).sum) M h2
  have l2 := Nat.le_of_dvd h2 (mkRat_den_dvd ((qs.map fun q => q.num * ((M : Int) / (q.den : Int))).sum) M h2)
  have l3 : qs.length * (2 ^ 88 * M) ≤ 1000 * (2 ^ 88 * 2 ^ 48) := Nat.mul_le_mul h1 (Nat.mul_le_mul_left _ (Nat.le_of_lt h3))
  have l4 : 1000 * (2 ^ 88 * 2 ^ 48) < 2 ^ 148 := by decide
  have l5 : (2 : Nat) ^ 48 < 2 ^ 148 := by decide
  omega
theorem Bs.den {qs : List Rat} (h : Bs qs) {q : Rat} (hq : q ∈ qs) : q.num.natAbs < 2 ^ 148 ∧ q.den < 2 ^ 148 := by
  obtain ⟨h1, ⟨M, ⟨h2, h2'⟩, h3⟩, h4⟩ := h
  have l := Nat.le_of_dvd h2 (h2' q hq)
  have l4 : (2 : Nat) ^ 88 < 2 ^ 148 := by decide
  have l5 : (2 : Nat) ^ 48 < 2 ^ 148 := by decide
  have := h4 q hq
  omega
/-- wider ones -/
def Bw (qs : List Rat) : Prop := qs.length ≤ 1000 ∧ (∃ M, ComM qs M ∧ M < 2 ^ 48) ∧ ∀ q ∈ qs, q.num.natAbs < 2 ^ 140
theorem Bs.bw {qs : List Rat} (h : Bs qs) : Bw qs := ⟨h.1, h.2.1, fun q hq => Nat.lt_trans (h.2.2 q hq) (Nat.pow_lt_pow_right (by decide) (by decide))⟩
theorem Bw.take {qs : List Rat} (h : Bw qs) (i : Nat) : Bw (qs.take i) := by
  obtain ⟨h1, ⟨M, ⟨h2, h2'⟩, h3⟩, h4⟩ := h
  exact ⟨Nat.le_trans (by rw [List.length_take]; omega) h1, ⟨M, ⟨h2, fun q hq => h2' q (List.mem_of_mem_take hq)⟩, h3⟩, fun q hq => h4 q (List.mem_of_mem_take hq)⟩
theorem Bw.sum {qs : List Rat} (h : Bw qs) : qs.sum.num.natAbs < 2 ^ 230 ∧ qs.sum.den < 2 ^ 60 := by
  obtain ⟨h1, ⟨M, ⟨h2, h2'⟩, h3⟩, h4⟩ := h
  have e := units_sum M h2 qs h2'
  have hs := sum_abs M (2 ^ 140) qs fun q hq => Nat.le_of_lt (h4 q hq)
  rw [← e]
  have l1 := mkRat_num_le ((qs.map fun q => q.num * ((M : Int) / (q.den : Int))).sum) M h2
  have l2 := Nat.le_of_dvd h2 (mkRat_den_dvd ((qs.map fun q => q.num * ((M : Int) / (q.den : Int))).sum) M h2)
  have l3 : qs.length * (2 ^ 140 * M) ≤ 1000 * (2 ^ 140 * 2 ^ 48) := Nat.mul_le_mul h1 (Nat.mul_le_mul_left _ (Nat.le_of_lt h3))
  have l4 : 1000 * (2 ^ 140 * 2 ^ 48) < 2 ^ 230 := by decide
  have l5 : (2 : Nat) ^ 48 < 2 ^ 60 := by decide
  omega
theorem Bw.den {qs : List Rat} (h : Bw qs) {q : Rat} (hq : q ∈ qs) : q.num.natAbs < 2 ^ 230 ∧ q.den < 2 ^ 60 := by
  obtain ⟨h1, ⟨M, ⟨h2, h2'⟩, h3⟩, h4⟩ := h
  have l := Nat.le_of_dvd h2 (h2' q hq)
  have l4 : (2 : Nat) ^ 140 < 2 ^ 230 := by decide
  have l5 : (2 : Nat) ^ 48 < 2 ^ 60 := by decide
  have := h4 q hq
  omega
/-- all whole numbers times one fraction -/
theorem sum_mul (u : Rat) : ∀ ns : List Int, (ns.map fun n : Int => (n : Rat) * u).sum = ((ns.sum : Int) : Rat) * u
  | [] => by simp
  | n :: ns => by
    rw [List.map_cons, List.sum_cons, List.sum_cons, sum_mul u ns]
    push_cast
    grind
theorem small_log {a : Int} (h : a.natAbs < 2 ^ 70) : a.natAbs.log2 < 9000 := Nat.lt_trans (log2_of_lt h (by decide)) (by decide)
theorem sum_rot (xs : List Int) (i : Nat) : (xs.drop i ++ xs.take i).sum = xs.sum := by
  conv => rhs; rw [← List.take_append_drop i xs]
  rw [List.sum_append, List.sum_append, Int.add_comm]
theorem sum_rev (xs : List Int) : xs.reverse.sum = xs.sum := by
  induction xs with
  | nil => rfl
  | cons x xs ih =>
    rw [List.reverse_cons, List.sum_append, ih, List.sum_cons]
    simp only [List.sum_cons, List.sum_nil]
    omega
theorem le_sum {ns : List Int} (h : ∀ n ∈ ns, 1 ≤ n) : ∀ n ∈ ns, n ≤ ns.sum := by
  induction ns with
  | nil => intro n hn; cases hn
  | cons x xs ih =>
    have hx := h x List.mem_cons_self
    have ih' := ih fun n hn => h n (List.mem_cons_of_mem _ hn)
    have h0 : 0 ≤ xs.sum := by
      cases xs with
      | nil => simp
      | cons y ys =>
        have a := ih' y List.mem_cons_self
        have b := h y (by simp)
        omega
    intro n hn
    rw [List.sum_cons]
    rcases List.mem_cons.mp hn with rfl | hn
    · omega
    · have := ih' n hn
      omega
theorem times_num {n : Int} {u : Rat} (hn : 1 ≤ n) (hu : 0 < u.num) : 0 < ((n : Rat) * u).num ∧ ((n : Rat) * u).num.natAbs ≤ n.natAbs * u.num.natAbs ∧ ((n : Rat) * u).den ∣ u.den := by
  have hd : 0 < u.den := Nat.pos_of_ne_zero u.den_nz
  have e : (n : Rat) * u = mkRat (n * u.num) u.den := by
    conv => lhs; rw [← Rat.mkRat_self u]
    rw [show (n : Rat) = mkRat n 1 from (Rat.mkRat_one n).symm, Rat.mkRat_mul_mkRat, Nat.one_mul]
  rw [e]
  have hp : 0 < n * u.num := Int.mul_pos (by omega) hu
  refine ⟨?_, ?_, mkRat_den_dvd _ _ hd⟩
  · rw [low_num _ _ hd]
    have g0 := (gcd_le (n * u.num) u.den hd).1
    have gd : ((((n * u.num).natAbs.gcd u.den : Nat)) : Int) ∣ n * u.num := Int.dvd_trans (Int.natCast_dvd_natCast.mpr (Nat.gcd_dvd_left _ _)) (Int.natAbs_dvd.mpr (Int.dvd_refl _))
    exact Int.ediv_pos_of_pos_of_dvd hp (by omega) gd
  · rw [← Int.natAbs_mul]
    exact mkRat_num_le _ _ hd
theorem drawn_bs {ns : List Int} {u : Rat} (h : ∀ n ∈ ns, 1 ≤ n) (hs : ns.sum < 2000000000000) (hu : 0 < u.num) (hu2 : u.num ≤ 1000000000000) :
    ∀ q ∈ ns.map (fun n : Int => (n : Rat) * u), 0 < q.num ∧ q.num.natAbs < 2 ^ 88 ∧ q.den ∣ u.den := by
  intro q hq
  obtain ⟨n, hn, rfl⟩ := List.mem_map.mp hq
  obtain ⟨h1, h2, h3⟩ := times_num (h n hn) hu
  have h4 := le_sum h n hn
  have h5 := h n hn
  refine ⟨h1, ?_, h3⟩
  have h6 : n.natAbs * u.num.natAbs ≤ 2000000000000 * 1000000000000 := Nat.mul_le_mul (by omega) (by omega)
  have h7 : 2000000000000 * 1000000000000 < 2 ^ 88 := by decide
  omega
/-- what is drawn: both sides of fractions above 0, of one sum -/
def Drawn (side : Nat) (o d : List Rat) : Prop := 1 ≤ o.length ∧ o.length ≤ side ∧ 1 ≤ d.length ∧ d.length ≤ side ∧ o.sum = d.sum ∧ (∀ q ∈ o, 0 < q.num) ∧ (∀ q ∈ d, 0 < q.num) ∧ Bs (o ++ d)
end QW

namespace QW
open PySem L2
/-! ### rules that the layer lacks: l[i] read for l[i] op= e; t * 1 -/
def rGetL (K : PySem.W.Frag) : V → V → Hp → VK → Prop := fun x y H Q => ∃ p xs i v, x = .ref p ∧ y = .int i ∧ SqL K H p xs ∧ 0 ≤ i ∧ xs[i.toNat]? = some v ∧ Q v H
theorem pg_list {X : Cx} : PGet X (rGetL X.K) := by
  intro pins s σ H o i ov iv Q I ro ri h
  obtain ⟨p, xs, k, v, rfl, rfl, hq, h0, hx, q⟩ := h
  cases ro
  obtain ⟨t, rfl⟩ := ri
  obtain ⟨its, r, pl, hz⟩ := I.list hq
  obtain ⟨w, ew, rw'⟩ := r.get hx
  have hl := r.length
  have hi : k.toNat < xs.length := by
    rcases Nat.lt_or_ge k.toNat xs.length with h | h
    · exact h
    · rw [List.getElem?_eq_none h] at hx; cases hx
  have e : sizeLine = 16777216 := PySem.sizeLine_eq
  exact wpAny_getItem_list pl.isList h0 (by omega) (by simpa using ew) ⟨v, H, I, rw', q⟩
theorem i_augS {D : Ends} {σ : St} {H : Hp} {to ti te : TE} {tget : V → V → Hp → VK → Prop} {tip : TIp} {tset : TSet}
    (h : to σ H fun o H1 => ti σ H1 fun i H2 => tget o i H2 fun x H3 => te σ H3 fun y H4 => tip x y H4 fun z H5 => tset o i z H5 fun H6 => D.nx σ H6) : tAugS to ti te tget tip tset D σ H := h
theorem i_getL {K : PySem.W.Frag} {H : Hp} {Q : VK} {p : Addr} {xs : List V} {i : Int} {v : V} (h : H p = some (.lst xs)) (h0 : 0 ≤ i) (e : xs[i.toNat]? = some v) (q : Q v H) : rGetL K (.ref p) (.int i) H Q := ⟨p, xs, i, v, rfl, rfl, SqL.of h, h0, e, q⟩
theorem i_ipI {H : Hp} {Q : VK} {f : Int → Int → Int} {i j : Int} (q : Q (.int (f i j)) H) : ipI f (.int i) (.int j) H Q := ⟨i, j, rfl, rfl, q⟩
theorem tuple_mul1 (l : Addr) (items : Array Value) (n : Nat) (dd : Option Addr) (sl : Array (Option Value)) (u : Tok) :
    Meets (Builtin.«tuple.__mul__» ⟨[.ref l, .int 1 u], []⟩) (fun _ R s => s.heap.get? l = some { cls := .type "tuple", dict := dd, data := .seq items n, slots := sl } ∧ R (.ok (.ret (Value.ref l))) s) :=
  .of_wp fun prog w A R s h => by
    obtain ⟨hp, g, d, tk, os⟩ := s
    obtain ⟨hl, h⟩ := h
    have f1 := AutoSeq1.idx_int
    wp_walk using wpAny_loadPart' hl
    repeat (first
      | (refine wpAny_ite_false (by decide) ?_; wp_walk using wpAny_loadPart' hl)
      | (refine wpAny_ite_true (by simp) ?_; wp_walk using wpAny_loadPart' hl))
    exact ⟨_, rfl, h⟩
open PyProof.Rows in
theorem op_rep1 {X : Cx} : OpR X (binaryOp .Mult) (fun x y H Q => ∃ l xs, x = .ref l ∧ y = .int 1 ∧ SqT X.K H l xs ∧ Q (.ref l) H) := by
  intro pins s σ H x y v u Q I rx ry h
  obtain ⟨l, xs, rfl, rfl, hT, q⟩ := h
  cases rx
  obtain ⟨t, rfl⟩ := ry
  obtain ⟨its, r, ⟨⟨cls, dd, data, sl⟩, ho, hc, n, hd⟩, hs⟩ := I.tuple hT
  simp only at hc hd
  subst hc hd
  exact wpAny_binaryOp_repeat_ref (T := "tuple") (U := "int") (by decide) ⟨_, ho, rfl⟩ (fun s' => typeIs_int s' 1 t) noFill_tuple_mul F.fills_int_mul F.slot_int_rmul repeat_tuple F.slot_int_index.lookup
    (call_meets F.slot_int_rmul (typeIs_int s 1 t) F.entry_int_rmul (F.args_int_rmul_2 _ _) (int_rmul_tuple 1 t l its.toArray n dd sl)
      ⟨ho, rfl, ⟨_, ho, rfl⟩, call_meets F.slot_tuple_mul ⟨_, ho, rfl⟩ F.entry_tuple_mul (F.args_tuple_mul_2 _ _) (tuple_mul1 l its.toArray n dd sl t) ⟨ho, ⟨.ref l, H, I, rfl, q⟩⟩⟩)
/-- tuple * int, the int 1 or more -/
def rRepA (K : PySem.W.Frag) : R2 := fun x y H Q => (∃ l xs, x = .ref l ∧ y = .int 1 ∧ SqT K H l xs ∧ Q (.ref l) H) ∨ rRepT K x y H Q
theorem op_repA {X : Cx} : OpR X (binaryOp .Mult) (rRepA X.K) := op_rep1.or op_repT
theorem ImL.rep {H : Hp} {vs : List V} {ds : List PyData} (h : ImL H vs ds) : ∀ n : Nat, ImL H (List.replicate n vs).flatten (List.replicate n ds).flatten
  | 0 => by simp [ImL]
  | n + 1 => by
    rw [List.replicate_succ, List.replicate_succ, List.flatten_cons, List.flatten_cons]
    exact ImL.append h (ImL.rep h n)
theorem i_repA {K : PySem.W.Frag} {H : Hp} {Q : VK} {x : V} {k : Int} {ds : List PyData} (h : Im H x (.tuple ds)) (hn : ds ≠ []) (h1 : 1 ≤ k) (h2 : k ≤ 1000) (hz : ds.length ≤ 1000) (q : Ret H Q (.tuple (List.replicate k.toNat ds).flatten)) : rRepA K x (.int k) H Q := by
  obtain ⟨a, xs, rfl, ha, hl⟩ := h.tup_at
  have e := hl.length
  by_cases hk : k = 1
  · subst hk
    refine .inl ⟨a, xs, rfl, rfl, SqT.of ha, q _ _ (Same.refl _) ?_⟩
    have e1 : (List.replicate (Int.toNat 1) ds).flatten = ds := by
      show (List.replicate 1 ds).flatten = ds
      simp
    rw [e1]
    exact h
  · refine .inr ⟨a, k, xs, rfl, rfl, SqT.of ha, fun z => hn (List.eq_nil_of_length_eq_zero (by rw [← e, z]; rfl)), by omega, h2, by omega, new_obj fun p H' hp s ee => q _ _ s (Im.tup ee (ImL.rep (sm_iml s hl) _))⟩
/-- tuples put together -/
theorem i_catA {K : PySem.W.Frag} {H : Hp} {Q : VK} {x y : V} {ds es : List PyData} (h1 : Im H x (.tuple ds)) (h2 : Im H y (.tuple es)) (hz : ds.length + es.length ≤ sizeLine)
    (q : Ret H Q (.tuple (ds ++ es))) : rCatA K x y H Q := by
  obtain ⟨a, xs, rfl, ha, la⟩ := h1.tup_at
  obtain ⟨b, ys, rfl, hb, lb⟩ := h2.tup_at
  have e1 := la.length
  have e2 := lb.length
  refine ⟨a, b, xs, ys, rfl, rfl, SqT.of ha, SqT.of hb, by omega, fun z => ?_, fun _ z => ?_, fun _ _ => new_obj fun p H' hp s e => ?_⟩
  · subst z
    have : ds = [] := List.eq_nil_of_length_eq_zero e1.symm
    subst this
    exact q _ _ (Same.refl _) h2
  · subst z
    have : es = [] := List.eq_nil_of_length_eq_zero e2.symm
    subst this
    rw [List.append_nil] at q
    exact q _ _ (Same.refl _) h1
  · exact q _ _ s (Im.tup e (sm_iml s (ImL.append la lb)))
/-! ### comprehensions with a test, over a range -/
section
variable {K : PySem.W.Frag} {σ : St} {H : Hp} {Q : VK}
def LcR (g : TG) (tt : TT) (te : TE) (vs : List Nat) (σ : St) (Q : VK) (ws : List V) (H1 : Hp) : Prop := ∃ j : Int, ws = [.int j] ∧ -(2 ^ 62) ≤ j ∧ j < 2 ^ 62 ∧ ∀ D, H1 D = none → ∃ W : Nat → Nat → Hp → Prop, (∃ m, W 0 m (upd H1 D (.lst []))) ∧ ∀ i m H, W i m H →
  ((Itr 0 j.toNat).stop i H ∧ Q (.ref D) H) ∨ ((Itr 0 j.toNat).go i H ∧ ∃ Nx : Hp → Prop, (∀ H', Nx H' → ∃ m', m' < m ∧ W (i + 1) m' H') ∧ ∀ x H', (Itr 0 j.toNat).yld i H x H' → g x (wipe σ vs) H' fun σ2 H2 => wipe σ2 vs = wipe σ vs ∧ tt σ2 H2 fun b H3 =>
    if b = true then te σ2 H3 fun y H4 => ∃ acc, H4 D = some (.lst acc) ∧ acc.length < sizeLine ∧ Nx (upd H4 D (.lst (acc ++ [y]))) else Nx H3)
theorem i_lcR {ta : TA} {te : TE} {tt : TT} {g : TG} {vs : List Nat} (h : ta σ H fun ws H1 => LcR g tt te vs σ Q ws H1) : tLc (iRng1 ta) g tt te vs σ H Q := h
/-- what holds between two turns: F i tells the items that turn i gives (none or one) -/
def LcF (H : Hp) (Dl : Addr) (F : Nat → List PyData) (i : Nat) (H1 : Hp) : Prop :=
  Same H H1 ∧ ∃ ys, H1 Dl = some (.lst ys) ∧ ImL H1 ys ((List.range i).flatMap F)
theorem flatMap_range_succ (F : Nat → List PyData) (i : Nat) : (List.range (i + 1)).flatMap F = (List.range i).flatMap F ++ F i := by
  rw [List.range_succ, List.flatMap_append]; simp
theorem flatMap_len (F : Nat → List PyData) (hF : ∀ i, (F i).length ≤ 1) : ∀ n, ((List.range n).flatMap F).length ≤ n
  | 0 => by simp
  | n + 1 => by
    rw [flatMap_range_succ, List.length_append]
    have := flatMap_len F hF n
    have := hF n
    omega
theorem lcR_of {k : Nat} {te : TE} {tt : TT} {vs : List Nat} {j : Int} {n : Nat} (F : Nat → List PyData) (hj : j = (n : Nat)) (hn : n < 1000000) (hF : ∀ i, (F i).length ≤ 1)
    (turn : ∀ (i : Nat) (H1 : Hp) (N M : Hp → Prop) (NE : V → Hp → Prop), i < n → Same H H1 → (∀ y H3 d, F i = [d] → Same H1 H3 → Im H3 y d → NE y H3) → (∀ H3, F i = [] → Same H1 H3 → M H3) →
      wipe ((wipe σ vs).set k (some (.int (i : Nat)))) vs = wipe σ vs ∧ tt ((wipe σ vs).set k (some (.int (i : Nat)))) H1 fun b H3 => if b = true then te ((wipe σ vs).set k (some (.int (i : Nat)))) H3 NE else M H3)
    (done : ∀ D H1 ys, H D = none → Same H H1 → H1 D = some (.lst ys) → ImL H1 ys ((List.range n).flatMap F) → Q (.ref D) H1) : LcR (gName k) tt te vs σ Q [.int j] H := by
  subst hj
  refine ⟨_, rfl, by omega, by omega, fun Dl hD => ?_⟩
  rw [Int.toNat_natCast]
  refine lc_range (lo := 0) (n := n) (LcF H Dl F) ⟨same_upd hD, [], upd_same, by simp [ImL]⟩ (fun i H1 hi p => ?_) (fun H1 p => ?_)
  · obtain ⟨s, ys, h1, h2⟩ := p
    have hl := h2.length
    have hb := flatMap_len F hF i
    have e0 : sizeLine = 16777216 := PySem.sizeLine_eq
    have e : (0 : Int) + ((i : Nat) : Int) = (i : Nat) := by omega
    rw [e]
    refine turn i H1 (LcF H Dl F (i + 1)) _ _ hi s (fun y H3 d hd s3 hy => ?_) (fun H3 hd s3 => ?_)
    · refine ⟨ys, s3 _ _ h1, by omega, same_loc (Same.trans s s3) (kl_upd (s3 _ _ h1)) hD, ys ++ [y], upd_same, ?_⟩
      have kl := kl_upd (ys := ys ++ [y]) (s3 _ _ h1)
      rw [flatMap_range_succ, hd]
      exact ImL.append (kl_iml kl (sm_iml s3 h2)) (by simp only [ImL]; exact ⟨kl_im kl hy, trivial⟩)
    · refine ⟨s.trans s3, ys, s3 _ _ h1, ?_⟩
      rw [flatMap_range_succ, hd, List.append_nil]
      exact sm_iml s3 h2
  · obtain ⟨s, ys, h1, h2⟩ := p
    exact done Dl H1 ys hD s h1 h2
end
section
variable {K : PySem.W.Frag} {D : Ends} {σ : St} {H : Hp} {Q : VK}
theorem i_meth {Cc : Addr} {m : Str} {sp : Sp} {E : XK} {ta : TE} {t : TA} (h : ta σ H fun x H1 => ∃ a dx fs, x = .ref a ∧ H1 a = some (.ins Cc dx fs) ∧ fs.lookup m = none ∧ t σ H1 fun vs H2 => sp (x :: (vs ++ [])) H2 Q E) : tMeth Cc m sp [] E ta t σ H Q := h
theorem i_meth' {P : Prop} {a Cc dx : Addr} {fs : List (Str × V)} {m : Str} (h : H a = some (.ins Cc dx fs)) (e : fs.lookup m = none) (q : P) : ∃ b dx fs, V.ref a = .ref b ∧ H b = some (.ins Cc dx fs) ∧ fs.lookup m = none ∧ P := ⟨a, dx, fs, rfl, h, e, q⟩
def ForL (K : PySem.W.Frag) (g : TG) (tb : TS) (D : Ends) (σ : St) (x : V) (H1 : Hp) : Prop := ∃ a, x = .ref a ∧ (∃ xs, SqL K H1 a xs) ∧ ∃ W : Nat → Nat → St → Hp → Prop, (∃ m, W 0 m σ H1) ∧ ∀ i m σ H, W i m σ H →
  ((Itl K a).stop i H ∧ D.nx σ H) ∨ ((Itl K a).go i H ∧ ∃ N : St → Hp → Prop, (∀ σ' H', N σ' H' → ∃ m', m' < m ∧ W (i + 1) m' σ' H') ∧ ∀ x H', (Itl K a).yld i H x H' → g x σ H' fun σ2 H2 => tb { D with nx := N, ct := N, bk := D.nx } σ2 H2)
theorem i_forL {tl : TE} {g : TG} {tb : TS} (h : tl σ H fun x H1 => ForL K g tb D σ x H1) : tFor (iList K tl) g tb D σ H := h
theorem forL_of {g : TG} {tb : TS} {a : Addr} {xs : List V} (ha : H a = some (.lst xs)) (Pv : Nat → St → Hp → Prop) (Bk : St → Hp → Prop) (h0 : Pv 0 σ H) (hl : ∀ i σ H', Pv i σ H' → H' a = some (.lst xs))
    (hs : ∀ (i : Nat) (x : V) (σ : St) (H : Hp) (N B : St → Hp → Prop), xs[i]? = some x → Pv i σ H → (∀ σ H, Pv (i + 1) σ H → N σ H) → (∀ σ H, Bk σ H → B σ H) → g x σ H fun σ2 H2 => tb { D with nx := N, ct := N, bk := B } σ2 H2)
    (hd : ∀ σ H, Pv xs.length σ H → D.nx σ H) (hb : ∀ σ H, Bk σ H → D.nx σ H) : ForL K g tb D σ (.ref a) H :=
  ⟨a, rfl, ⟨xs, SqL.of ha⟩, for_list (K := K) (a := a) (xs := xs) Pv h0 (fun i σ H' _ p => SqL.of (hl i σ H' p)) (fun i x σ H hi p => hs i x σ H (Pv (i + 1)) D.nx hi p (fun _ _ q => q) hb) hd⟩
theorem forT_of' {g : TG} {tb : TS} {a : Addr} {xs : List V} (ha : H a = some (.tup xs)) (Pv : Nat → St → Hp → Prop) (Bk : St → Hp → Prop) (h0 : Pv 0 σ H) (hl : ∀ i σ H', Pv i σ H' → H' a = some (.tup xs))
    (hs : ∀ (i : Nat) (x : V) (σ : St) (H : Hp) (N B : St → Hp → Prop), xs[i]? = some x → Pv i σ H → (∀ σ H, Pv (i + 1) σ H → N σ H) → (∀ σ H, Bk σ H → B σ H) → g x σ H fun σ2 H2 => tb { D with nx := N, ct := N, bk := B } σ2 H2)
    (hd : ∀ σ H, Pv xs.length σ H → D.nx σ H) (hb : ∀ σ H, Bk σ H → D.nx σ H) : ForT K g tb D σ (.ref a) H :=
  ⟨a, rfl, ⟨xs, SqT.of ha⟩, for_tup (K := K) (a := a) (xs := xs) Pv h0 (fun i σ H' _ p => SqT.of (hl i σ H' p)) (fun i x σ H hi p => hs i x σ H (Pv (i + 1)) D.nx hi p (fun _ _ q => q) hb) hd⟩
theorem i_gtup3 {a : Addr} {x y z : V} {i j k : Nat} {QG : St → Hp → Prop} (h : H a = some (.tup [x, y, z])) (q : QG (((σ.set i (some x)).set j (some y)).set k (some z)) H) : gTup K 3 (gCons (gName i) (gCons (gName j) (gCons (gName k) gNil))) (.ref a) σ H QG :=
  ⟨a, [x, y, z], rfl, SqT.of h, rfl, x, [y, z], rfl, y, [z], rfl, z, [], rfl, rfl, q⟩
theorem i_clistT {p : Addr} {ys : List V} (h : H p = some (.tup ys)) (q : ∀ l H', H l = none → Same H H' → H' l = some (.lst ys) → Q (.ref l) H') : cList K [.ref p] H Q := ⟨p, ys, rfl, .inr (SqT.of h), new_obj q⟩
end
/-- some lists are changed -/
structure KS (S : List Addr) (H H' : Hp) : Prop where
  keep : ∀ b o, b ∉ S → H b = some o → H' b = some o
  tup : ∀ b xs, H b = some (.tup xs) → H' b = some (.tup xs)
  ins : ∀ b C dx fs, H b = some (.ins C dx fs) → H' b = some (.ins C dx fs)
  live : ∀ b, H' b = none → H b = none
  lst : ∀ b xs, H b = some (.lst xs) → ∃ ys, H' b = some (.lst ys)
  dk : ∀ b kvs, H b = some (.dK kvs) → H' b = some (.dK kvs)
theorem Same.ks {S : List Addr} {H H' : Hp} (s : Same H H') : KS S H H' := ⟨fun b o _ e => s b o e, fun b xs e => s b _ e, fun b C dx fs e => s b _ e, fun b e => s.free e, fun b xs e => ⟨xs, s b _ e⟩, fun b xs e => s b _ e⟩
theorem KL.ks {S : List Addr} {m : Addr} {H H' : Hp} (s : KL m H H') (h : m ∈ S) : KS S H H' := ⟨fun b o hb e => s.keep b o (fun z => hb (z ▸ h)) e, s.tup, s.ins, s.live, s.lst, s.dk⟩
theorem KS.trans {S : List Addr} {H H1 H2 : Hp} (a : KS S H H1) (b : KS S H1 H2) : KS S H H2 :=
  ⟨fun c o hc e => b.keep c o hc (a.keep c o hc e), fun c xs e => b.tup c xs (a.tup c xs e), fun c C dx fs e => b.ins c C dx fs (a.ins c C dx fs e), fun c e => a.live c (b.live c e), fun c xs e => by
    obtain ⟨ys, e1⟩ := a.lst c xs e
    exact b.lst c ys e1, fun c xs e => b.dk c xs (a.dk c xs e)⟩
theorem KS.loc {S : List Addr} {l : Addr} {H H1 H2 : Hp} (a : KS S H H1) (b : KL l H1 H2) (hl : H l = none) : KS S H H2 :=
  ⟨fun c o hc e => b.keep c o (ne_of_none e hl) (a.keep c o hc e), fun c xs e => b.tup c xs (a.tup c xs e), fun c C dx fs e => b.ins c C dx fs (a.ins c C dx fs e), fun c e => a.live c (b.live c e), fun c xs e => by
    obtain ⟨ys, e1⟩ := a.lst c xs e
    exact b.lst c ys e1, fun c xs e => b.dk c xs (a.dk c xs e)⟩
theorem same_ks {S : List Addr} {H H1 H2 : Hp} (a : Same H H1) (b : KS S H1 H2) (h : ∀ c ∈ S, H c = none) : Same H H2 := fun c o e =>
  b.keep c o (fun hc => by rw [h c hc] at e; cases e) (a c o e)
theorem ks_im {S : List Addr} {H H' : Hp} {v : V} {d : PyData} (s : KS S H H') (h : Im H v d) : Im H' v d := Im.mono s.tup d h
theorem ks_iml {S : List Addr} {H H' : Hp} {v : List V} {d : List PyData} (s : KS S H H') (h : ImL H v d) : ImL H' v d := ImL.mono s.tup d h
/-- one instance is changed -/
structure KI (t : Addr) (H H' : Hp) : Prop where
  keep : ∀ b o, b ≠ t → H b = some o → H' b = some o
  tup : ∀ b xs, H b = some (.tup xs) → H' b = some (.tup xs)
  lst : ∀ b xs, H b = some (.lst xs) → H' b = some (.lst xs)
theorem Same.ki {t : Addr} {H H' : Hp} (s : Same H H') : KI t H H' := ⟨fun b o _ e => s b o e, fun b xs e => s b _ e, fun b xs e => s b _ e⟩
theorem KI.trans {t : Addr} {H H1 H2 : Hp} (a : KI t H H1) (b : KI t H1 H2) : KI t H H2 := ⟨fun c o h e => b.keep c o h (a.keep c o h e), fun c xs e => b.tup c xs (a.tup c xs e), fun c xs e => b.lst c xs (a.lst c xs e)⟩
theorem KI.free {t : Addr} {H H' : Hp} {o : HO} (k : KI t H H') (e : H' t = some o) {b : Addr} (h : H' b = none) : H b = none := by
  cases q : H b with
  | none => rfl
  | some x =>
    have n : b ≠ t := fun z => by rw [z, e] at h; cases h
    rw [k.keep b x n q] at h; cases h
theorem ki_upd {t Cc dx : Addr} {fs gs : List (Str × V)} {H : Hp} (h : H t = some (.ins Cc dx fs)) : KI t H (upd H t (.ins Cc dx gs)) := by
  refine ⟨fun b o hb e => by rw [upd_ne hb]; exact e, fun b zs e => ?_, fun b zs e => ?_⟩
  · rw [upd_ne (ne_of e h (by intro q; cases q))]; exact e
  · rw [upd_ne (ne_of e h (by intro q; cases q))]; exact e
theorem ki_im {t : Addr} {H H' : Hp} {v : V} {d : PyData} (s : KI t H H') (h : Im H v d) : Im H' v d := Im.mono s.tup d h
def SfO (K : PySem.W.Frag) (f : Str) (y x : V) (H2 : Hp) (P : Hp → Prop) : Prop := ∃ a C dx fs, x = .ref a ∧ H2 a = some (.ins C dx fs) ∧ Cls K C ∧ NoAttr K C f ∧ fs.length < 1000 ∧ P (upd H2 a (.ins C dx (putF f y fs)))
theorem i_sfld {K : PySem.W.Frag} {D : Ends} {σ : St} {H : Hp} {ta tv : TE} {f : Str} (h : tv σ H fun y H1 => ta σ H1 fun x H2 => SfO K f y x H2 (D.nx σ)) : sFld K ta tv f D σ H := h
theorem sfO_of {K : PySem.W.Frag} {f : Str} {y : V} {a Cc dx : Addr} {fs : List (Str × V)} {H : Hp} {P : Hp → Prop} (h : H a = some (.ins Cc dx fs)) (c : Cls K Cc) (n : NoAttr K Cc f) (l : fs.length < 1000)
    (q : ∀ H', KI a H H' → H' a = some (.ins Cc dx (putF f y fs)) → P H') : SfO K f y (.ref a) H P := ⟨a, Cc, dx, fs, rfl, h, c, n, l, q _ (ki_upd h) upd_same⟩
end QW

namespace QW
open PySem L2
theorem bt_list : bootBuiltins "list" = some (.type "list") := PyProof.Rows.boot_list
theorem bt_str : bootBuiltins "str" = some (.type "str") := PyProof.Rows.boot_str
theorem bt_dict : bootBuiltins "dict" = some (.type "dict") := PyProof.Rows.boot_dict
theorem bt_set : bootBuiltins "set" = some (.type "set") := PyProof.Rows.boot_set
theorem bt_object : bootBuiltins "object" = some (.type "object") := PyProof.Rows.boot_object
theorem bt_type : bootBuiltins "type" = some (.type "type") := PyProof.Rows.boot_type
theorem bt_sorted : bootBuiltins "sorted" = some (.builtin "sorted") := PyProof.Rows.boot_sorted
theorem bt_any : bootBuiltins "any" = some (.builtin "any") := PyProof.Rows.boot_any
/-! ### payments, in fractions -/
abbrev Sta := List Rat × List Rat
def minR (a b : Rat) : Rat := if b < a then b else a
def amtR (s : Sta) (p : Nat × Nat) : Rat := minR (s.1.getD p.1 0) (s.2.getD p.2 0)
def payR (s : Sta) (p : Nat × Nat) : Sta := (s.1.set p.1 (s.1.getD p.1 0 - amtR s p), s.2.set p.2 (s.2.getD p.2 0 - amtR s p))
def canR (s : Sta) (p : Nat × Nat) : Prop := p.1 < s.1.length ∧ p.2 < s.2.length ∧ 0 < s.1.getD p.1 0 ∧ 0 < s.2.getD p.2 0
def rowR : Sta → List (Nat × Nat) → Prop
  | _, [] => True
  | s, p :: ps => canR s p ∧ rowR (payR s p) ps
def runR (s : Sta) (ps : List (Nat × Nat)) : Sta := ps.foldl payR s
def amtsR : Sta → List (Nat × Nat) → List Rat
  | _, [] => []
  | s, p :: ps => amtR s p :: amtsR (payR s p) ps
def overR (s : Sta) : Prop := ∀ p, ¬ canR s p
/-- what holds of all rests: from 0 on, of one sum, bounded -/
structure StOk (M : Nat) (s : Sta) : Prop where
  m0 : 0 < M
  m1 : M < 2 ^ 48
  o0 : ∀ q ∈ s.1, 0 ≤ q ∧ q ≤ (2 ^ 88 : Nat) ∧ q.den ∣ M
  d0 : ∀ q ∈ s.2, 0 ≤ q ∧ q ≤ (2 ^ 88 : Nat) ∧ q.den ∣ M
  su : s.1.sum = s.2.sum
  lo : s.1.length ≤ 100
  ld : s.2.length ≤ 100
theorem getD_mem {α : Type} {l : List α} {i : Nat} {x : α} (h : i < l.length) : l.getD i x ∈ l := by
  rw [List.getD_eq_getElem?_getD, List.getElem?_eq_getElem h]
  exact List.getElem_mem h
theorem getD_some {α : Type} {l : List α} {i : Nat} {x : α} (h : i < l.length) : l[i]? = some (l.getD i x) := by
  rw [List.getD_eq_getElem?_getD, List.getElem?_eq_getElem h]; rfl
theorem sum_setR : ∀ (l : List Rat) (i : Nat) (y : Rat), i < l.length → (l.set i y).sum = l.sum - l.getD i 0 + y
  | [], _, _, h => by simp at h
  | a :: l, 0, y, _ => by
    simp only [List.set_cons_zero, List.sum_cons, List.getD_cons_zero]
    grind
  | a :: l, i + 1, y, h => by
    have ih := sum_setR l i y (by simpa using h)
    simp only [List.set_cons_succ, List.sum_cons, List.getD_cons_succ, ih]
    grind
theorem mem_set_of {α : Type} {l : List α} {i : Nat} {x y : α} (h : y ∈ l.set i x) : y ∈ l ∨ y = x := by
  rcases List.mem_or_eq_of_mem_set h with h | h
  · exact .inl h
  · exact .inr h
theorem minR_le (a b : Rat) : minR a b ≤ a ∧ minR a b ≤ b := by
  unfold minR; split <;> grind
theorem minR_pos {a b : Rat} (ha : 0 < a) (hb : 0 < b) : 0 < minR a b := by
  unfold minR; split <;> assumption
theorem mkRat_sub' (x y : Int) {M : Nat} (hM : 0 < M) : mkRat x M - mkRat y M = mkRat (x - y) M := by
  rw [Rat.mkRat_eq_div, Rat.mkRat_eq_div, Rat.mkRat_eq_div]
  push_cast
  grind
theorem den_sub_dvd {a b : Rat} {M : Nat} (hM : 0 < M) (ha : a.den ∣ M) (hb : b.den ∣ M) : (a - b).den ∣ M := by
  obtain ⟨x, hx⟩ := ha
  obtain ⟨y, hy⟩ := hb
  have ex : 0 < x := by
    rcases Nat.eq_zero_or_pos x with z | z
    · subst z; omega
    · exact z
  have ey : 0 < y := by
    rcases Nat.eq_zero_or_pos y with z | z
    · subst z; omega
    · exact z
  have e1 : a = mkRat (a.num * x) M := by
    rw [hx, Int.mul_comm, Nat.mul_comm, Rat.mkRat_mul_left (by omega), Rat.mkRat_self]
  have e2 : b = mkRat (b.num * y) M := by
    rw [hy, Int.mul_comm, Nat.mul_comm, Rat.mkRat_mul_left (by omega), Rat.mkRat_self]
  have e3 : a - b = mkRat (a.num * x - b.num * y) M := by
    have := mkRat_sub' (a.num * x) (b.num * y) hM
    rw [← e1, ← e2] at this
    exact this
  rw [e3]
  exact mkRat_den_dvd _ _ hM
theorem den_minR {a b : Rat} {M : Nat} (ha : a.den ∣ M) (hb : b.den ∣ M) : (minR a b).den ∣ M := by
  unfold minR; split <;> assumption
theorem StOk.pay {M : Nat} {s : Sta} {p : Nat × Nat} (h : StOk M s) (c : canR s p) : StOk M (payR s p) := by
  obtain ⟨c1, c2, c3, c4⟩ := c
  have o1 := h.o0 _ (getD_mem (x := 0) c1)
  have d1 := h.d0 _ (getD_mem (x := 0) c2)
  have m1 := minR_le (s.1.getD p.1 0) (s.2.getD p.2 0)
  have m2 := minR_pos c3 c4
  have dm := den_minR o1.2.2 d1.2.2
  refine ⟨h.m0, h.m1, fun q hq => ?_, fun q hq => ?_, ?_, ?_, ?_⟩
  · rcases mem_set_of hq with hq | rfl
    · exact h.o0 q hq
    · unfold amtR
      exact ⟨by grind, by grind, den_sub_dvd h.m0 o1.2.2 dm⟩
  · rcases mem_set_of hq with hq | rfl
    · exact h.d0 q hq
    · unfold amtR
      exact ⟨by grind, by grind, den_sub_dvd h.m0 d1.2.2 dm⟩
  · show (s.1.set _ _).sum = (s.2.set _ _).sum
    rw [sum_setR _ _ _ c1, sum_setR _ _ _ c2, h.su]
    grind
  · show (s.1.set _ _).length ≤ 100
    rw [List.length_set]; exact h.lo
  · show (s.2.set _ _).length ≤ 100
    rw [List.length_set]; exact h.ld
theorem rowR_append : ∀ {s : Sta} {ps qs : List (Nat × Nat)}, rowR s (ps ++ qs) ↔ rowR s ps ∧ rowR (runR s ps) qs
  | s, [], qs => by simp [rowR, runR]
  | s, p :: ps, qs => by
    simp only [List.cons_append, rowR, rowR_append (s := payR s p), runR, List.foldl_cons]
    exact and_assoc.symm
theorem amtsR_append : ∀ (s : Sta) (ps qs : List (Nat × Nat)), amtsR s (ps ++ qs) = amtsR s ps ++ amtsR (runR s ps) qs
  | s, [], qs => rfl
  | s, p :: ps, qs => by
    simp only [List.cons_append, amtsR, amtsR_append (payR s p), runR, List.foldl_cons]
theorem runR_snoc (s : Sta) (ps : List (Nat × Nat)) (p : Nat × Nat) : runR s (ps ++ [p]) = payR (runR s ps) p := by
  simp [runR]
theorem StOk.run {M : Nat} : ∀ {s : Sta} {ps : List (Nat × Nat)}, StOk M s → rowR s ps → StOk M (runR s ps)
  | s, [], h, _ => h
  | s, p :: ps, h, r => StOk.run (s := payR s p) (h.pay r.1) r.2
theorem run_len : ∀ (s : Sta) (ps : List (Nat × Nat)), (runR s ps).1.length = s.1.length ∧ (runR s ps).2.length = s.2.length
  | s, [] => ⟨rfl, rfl⟩
  | s, p :: ps => by
    have := run_len (payR s p) ps
    simp only [payR, List.length_set] at this
    exact this
theorem zeros_of {l : List Rat} (h : ∀ q ∈ l, 0 ≤ q) (hs : l.sum = 0) : ∀ q ∈ l, q = 0 := by
  induction l with
  | nil => intro q hq; cases hq
  | cons a l ih =>
    have ha := h a List.mem_cons_self
    have hl : ∀ q ∈ l, 0 ≤ q := fun q hq => h q (List.mem_cons_of_mem _ hq)
    have h0 : 0 ≤ l.sum := by
      clear ih hs
      induction l with
      | nil => simp
      | cons b l ih =>
        rw [List.sum_cons]
        have := hl b List.mem_cons_self
        have := ih (fun q hq => h q (by rcases List.mem_cons.mp hq with e | e; exact e ▸ List.mem_cons_self; exact List.mem_cons_of_mem _ (List.mem_cons_of_mem _ e))) (fun q hq => hl q (List.mem_cons_of_mem _ hq))
        grind
    rw [List.sum_cons] at hs
    have e1 : a = 0 := by grind
    have e2 : l.sum = 0 := by grind
    intro q hq
    rcases List.mem_cons.mp hq with rfl | hq
    · exact e1
    · exact ih hl e2 q hq
/-- where nobody can pay all are quits -/
theorem over_zero {M : Nat} {s : Sta} (h : StOk M s) (o : overR s) : (∀ q ∈ s.1, q = 0) ∧ (∀ q ∈ s.2, q = 0) := by
  by_cases h1 : ∃ q ∈ s.1, 0 < q
  · obtain ⟨q, hq, q0⟩ := h1
    obtain ⟨i, hi, e⟩ := List.mem_iff_getElem.mp hq
    have h2 : ∀ r ∈ s.2, r = 0 := by
      intro r hr
      obtain ⟨j, hj, e2⟩ := List.mem_iff_getElem.mp hr
      have r0 := (h.d0 r hr).1
      by_cases hr0 : 0 < r
      · exfalso
        refine o (i, j) ⟨hi, hj, ?_, ?_⟩
        · rw [List.getD_eq_getElem?_getD, List.getElem?_eq_getElem hi, e]; exact q0
        · rw [List.getD_eq_getElem?_getD, List.getElem?_eq_getElem hj, e2]; exact hr0
      · grind
    have s2 : s.2.sum = 0 := by
      generalize s.2 = l at h2
      induction l with
      | nil => simp
      | cons a l ih => rw [List.sum_cons, h2 a List.mem_cons_self, ih fun q hq => h2 q (List.mem_cons_of_mem _ hq)]; grind
    exact ⟨zeros_of (fun q hq => (h.o0 q hq).1) (by rw [h.su, s2]), h2⟩
  · have h2 : ∀ q ∈ s.1, q = 0 := by
      intro q hq
      have := (h.o0 q hq).1
      have : ¬ 0 < q := fun z => h1 ⟨q, hq, z⟩
      grind
    have s1 : s.1.sum = 0 := by
      generalize s.1 = l at h2
      induction l with
      | nil => simp
      | cons a l ih => rw [List.sum_cons, h2 a List.mem_cons_self, ih fun q hq => h2 q (List.mem_cons_of_mem _ hq)]; grind
    exact ⟨h2, zeros_of (fun q hq => (h.d0 q hq).1) (by rw [← h.su, s1])⟩
/-- how many are not quits -/
def nzL : List Rat → Nat
  | [] => 0
  | a :: l => (if a = 0 then 0 else 1) + nzL l
def nzR (s : Sta) : Nat := nzL s.1 + nzL s.2
theorem nzL_set : ∀ (l : List Rat) (i : Nat) (y : Rat), i < l.length → l.getD i 0 ≠ 0 → nzL (l.set i y) ≤ nzL l ∧ (y = 0 → nzL (l.set i y) + 1 ≤ nzL l)
  | [], _, _, h, _ => by simp at h
  | a :: l, 0, y, _, hn => by
    simp only [List.getD_cons_zero] at hn
    simp only [List.set_cons_zero, nzL, if_neg hn]
    refine ⟨by split <;> omega, fun z => ?_⟩
    rw [if_pos z]; omega
  | a :: l, i + 1, y, h, hn => by
    have ih := nzL_set l i y (by simpa using h) (by simpa using hn)
    simp only [List.set_cons_succ, nzL]
    refine ⟨by have := ih.1; omega, fun z => by have := ih.2 z; omega⟩
theorem nzL_le : ∀ l : List Rat, nzL l ≤ l.length
  | [] => Nat.le_refl _
  | a :: l => by
    have := nzL_le l
    simp only [nzL, List.length_cons]
    split <;> omega
theorem nzL_zero : ∀ {l : List Rat}, nzL l = 0 → ∀ q ∈ l, q = 0
  | [], _, q, hq => by cases hq
  | a :: l, h, q, hq => by
    simp only [nzL] at h
    by_cases ha : a = 0
    · rcases List.mem_cons.mp hq with rfl | hq
      · exact ha
      · exact nzL_zero (by omega) q hq
    · rw [if_neg ha] at h; omega
theorem nzR_pay {s : Sta} {p : Nat × Nat} (c : canR s p) : nzR (payR s p) + 1 ≤ nzR s := by
  obtain ⟨c1, c2, c3, c4⟩ := c
  have h1 := nzL_set s.1 p.1 (s.1.getD p.1 0 - amtR s p) c1 (by grind)
  have h2 := nzL_set s.2 p.2 (s.2.getD p.2 0 - amtR s p) c2 (by grind)
  have h3 : s.1.getD p.1 0 - amtR s p = 0 ∨ s.2.getD p.2 0 - amtR s p = 0 := by
    unfold amtR minR
    split <;> grind
  show nzL (s.1.set _ _) + nzL (s.2.set _ _) + 1 ≤ nzL s.1 + nzL s.2
  rcases h3 with h3 | h3
  · have := h1.2 h3; omega
  · have := h2.2 h3; omega
theorem nzR_run : ∀ {s : Sta} {ps : List (Nat × Nat)}, rowR s ps → nzR (runR s ps) + ps.length ≤ nzR s
  | s, [], _ => Nat.le_refl _
  | s, p :: ps, r => by
    have := nzR_run r.2
    have := nzR_pay r.1
    simp only [List.length_cons]
    have e : runR s (p :: ps) = runR (payR s p) ps := rfl
    rw [e]; omega
theorem over_of_nz {s : Sta} (h : nzR s = 0) : overR s := by
  rintro p ⟨c1, c2, c3, c4⟩
  have h1 : nzL s.1 = 0 := by unfold nzR at h; omega
  have := nzL_zero h1 _ (getD_mem (x := 0) c1)
  grind
/-- what is paid and what is left -/
theorem paid_sum : ∀ {s : Sta} {ps : List (Nat × Nat)}, rowR s ps → (amtsR s ps).sum + (runR s ps).1.sum = s.1.sum
  | s, [], _ => by simp [amtsR, runR, Rat.zero_add]
  | s, p :: ps, r => by
    have ih := paid_sum r.2
    have e : runR s (p :: ps) = runR (payR s p) ps := rfl
    have e2 : (payR s p).1.sum = s.1.sum - amtR s p := by
      show (s.1.set _ _).sum = _
      rw [sum_setR _ _ _ r.1.1]
      grind
    rw [e]
    simp only [amtsR, List.sum_cons]
    rw [e2] at ih
    grind
theorem amts_ok {M : Nat} : ∀ {s : Sta} {ps : List (Nat × Nat)}, StOk M s → rowR s ps → ∀ q ∈ amtsR s ps, 0 < q ∧ q ≤ (2 ^ 88 : Nat) ∧ q.den ∣ M
  | s, [], _, _ => by intro q hq; cases hq
  | s, p :: ps, h, r => by
    intro q hq
    rcases List.mem_cons.mp hq with rfl | hq
    · have o1 := h.o0 _ (getD_mem (x := 0) r.1.1)
      have d1 := h.d0 _ (getD_mem (x := 0) r.1.2.1)
      exact ⟨minR_pos r.1.2.2.1 r.1.2.2.2, Rat.le_trans (minR_le _ _).1 o1.2.1, den_minR o1.2.2 d1.2.2⟩
    · exact amts_ok (h.pay r.1) r.2 q hq
theorem amts_len : ∀ (s : Sta) (ps : List (Nat × Nat)), (amtsR s ps).length = ps.length
  | s, [] => rfl
  | s, p :: ps => by simp [amtsR, amts_len]
theorem StOk.bd {M : Nat} {q : Rat} (m1 : M < 2 ^ 48) (m0 : 0 < M) (h0 : 0 ≤ q) (h1 : q ≤ (2 ^ 88 : Nat)) (h2 : q.den ∣ M) : q.num.natAbs < 2 ^ 140 ∧ q.num.natAbs < 2 ^ 230 ∧ q.den < 2 ^ 60 := by
  have hd := Nat.le_of_dvd m0 h2
  have hn : 0 ≤ q.num := Rat.num_nonneg.mpr h0
  rw [Rat.le_iff] at h1
  have e1 : (((2 ^ 88 : Nat) : Rat)).num = ((2 ^ 88 : Nat) : Int) := rfl
  have e2 : (((2 ^ 88 : Nat) : Rat)).den = 1 := rfl
  rw [e1, e2] at h1
  have e3 : ((2 ^ 88 : Nat) : Int) * (q.den : Int) = ((2 ^ 88 * q.den : Nat) : Int) := (Int.natCast_mul _ _).symm
  rw [e3] at h1
  have h3 : q.num.natAbs ≤ 2 ^ 88 * q.den := by omega
  have h4 : 2 ^ 88 * q.den < 2 ^ 88 * 2 ^ 48 := Nat.mul_lt_mul_of_pos_left (by omega) (by decide)
  have h5 : (2 : Nat) ^ 88 * 2 ^ 48 < 2 ^ 140 := by decide
  have h6 : (2 : Nat) ^ 140 < 2 ^ 230 := by decide
  have h7 : (2 : Nat) ^ 48 < 2 ^ 60 := by decide
  omega
/-- what is drawn is right for payments -/
theorem nat_le_rat {q : Rat} (h0 : 0 < q.num) (h : q.num.natAbs < 2 ^ 88) : 0 ≤ q ∧ q ≤ (2 ^ 88 : Nat) := by
  have hd : 0 < q.den := Nat.pos_of_ne_zero q.den_nz
  refine ⟨Rat.num_nonneg.mp (by omega), ?_⟩
  rw [Rat.le_iff]
  have e1 : (((2 ^ 88 : Nat) : Rat)).num = ((2 ^ 88 : Nat) : Int) := rfl
  have e2 : (((2 ^ 88 : Nat) : Rat)).den = 1 := rfl
  rw [e1, e2]
  have e3 : ((2 ^ 88 : Nat) : Int) * (q.den : Int) = ((2 ^ 88 * q.den : Nat) : Int) := (Int.natCast_mul _ _).symm
  rw [e3]
  have h4 : 2 ^ 88 * 1 ≤ 2 ^ 88 * q.den := Nat.mul_le_mul_left _ hd
  omega
theorem Drawn.stOk {side : Nat} {o d : List Rat} (h : Drawn side o d) (hs : side ≤ 100) : ∃ M, StOk M (o, d) := by
  obtain ⟨h1, h2, h3, h4, h5, h6, h7, h8, ⟨M, ⟨m0, m1⟩, m2⟩, h9⟩ := h
  refine ⟨M, m0, m2, fun q hq => ?_, fun q hq => ?_, h5, by show o.length ≤ 100; omega, by show d.length ≤ 100; omega⟩
  · have := nat_le_rat (h6 q hq) (h9 q (List.mem_append_left _ hq))
    exact ⟨this.1, this.2, m1 q (List.mem_append_left _ hq)⟩
  · have := nat_le_rat (h7 q hq) (h9 q (List.mem_append_right _ hq))
    exact ⟨this.1, this.2, m1 q (List.mem_append_right _ hq)⟩
theorem ImL.set {H : Hp} : ∀ {vs : List V} {ds : List PyData} (i : Nat) {v : V} {d : PyData}, ImL H vs ds → Im H v d → ImL H (vs.set i v) (ds.set i d)
  | [], [], _, _, _, _, _ => by simp [ImL]
  | v :: vs, d :: ds, 0, _, _, h, q => by
    simp only [ImL] at h
    simp only [List.set_cons_zero, ImL]
    exact ⟨q, h.2⟩
  | v :: vs, d :: ds, i + 1, _, _, h, q => by
    simp only [ImL] at h
    simp only [List.set_cons_succ, ImL]
    exact ⟨h.1, ImL.set i h.2 q⟩
  | [], _ :: _, _, _, _, h, _ => by simp [ImL] at h
  | _ :: _, [], _, _, _, h, _ => by simp [ImL] at h
theorem ImL.fr_get {H : Hp} {vs : List V} {qs : List Rat} {i : Nat} (h : ImL H vs (qs.map fr)) (hi : i < qs.length) : ∃ v, vs[i]? = some v ∧ Im H v (fr (qs.getD i 0)) := by
  refine h.get' ?_
  rw [List.getElem?_map, getD_some (x := 0) hi]; rfl
/-- both sides, taken apart -/
theorem Im.st_at {H : Hp} {v : V} {s : List Rat × List Rat} (h : Im H v (.tuple [.tuple (s.1.map fr), .tuple (s.2.map fr)])) : ∃ p x y, v = .ref p ∧ H p = some (.tup [x, y]) ∧ Im H x (.tuple (s.1.map fr)) ∧ Im H y (.tuple (s.2.map fr)) := by
  obtain ⟨a, xs, rfl, ha, hl⟩ := h.tup_at
  obtain ⟨x, y, rfl⟩ : ∃ x y, xs = [x, y] := by
    match xs, hl with
    | [x, y], _ => exact ⟨x, y, rfl⟩
  simp only [ImL] at hl
  exact ⟨a, x, y, rfl, ha, hl.1, hl.2.1⟩
/-- the pairs in a list that can pay, and none is lacking -/
def gPair (s : List Rat × List Rat) (i j : Nat) : List (Nat × Nat) := if s.2.getD j 0 ≠ 0 then [(i, j)] else []
theorem gPair_len (s : List Rat × List Rat) (i j : Nat) : (gPair s i j).length ≤ 1 := by
  unfold gPair; split <;> simp
end QW

namespace QW
open PySem L2
/-! ### != by an own __eq__ -/
section
variable {prog : Program} {w : World} {A : Around} {E : Value → Shared → Prop} {s : Shared} {K : PySem.W.Frag} {x C L f : Addr} {h₀ : Heap} {m : Str → Option Value} {ox : Obj} {od : Option Obj} {b tb : Value}
open PySem.W in
theorem ifBound_B {M : Model} {name : Str} {id : String} {args : List Value} {Q : Option Value → Shared → Prop} (X : K.In s.heap) (I : InstAt s.heap x ox C od) (hs : findIn K (.ref C) name = some (some (.builtin id)))
    (hb : ∀ self, bindSpecial (.builtin id) self = pure (.builtin id, [self])) (h : wpAny M A (call (.builtin id) (.ref x :: args)) (fun v => Q (some v)) E s) : wpAny M A (callSpecialIfBound? (.ref x) name args) Q E s := by
  simp only [callSpecialIfBound?, bindSpecialIfBound?]
  refine wpAny_holding (wpAny_bind (wpAny_bind (wpAny_bind (I.type.here ((looks_findIn X hs).here ?_)))))
  refine wpAny_bind (wpAny_askSetting (wpAny_ite ?_))
  have fin : wpAny M A (call (.builtin id) ([.ref x] ++ args) >>= fun v => pure (some v)) Q E s := wpAny_bind (wpAny_mono h (fun v s' h' => wpAny_pure h') fun _ _ h' => h')
  split
  · exact wpAny_bind ((Looks.of_pure (hb _)).here (wpAny_pure (by exact fin)))
  · exact wpAny_tryCatch (wpAny_bind ((Looks.of_pure (hb _)).here (wpAny_pure (by exact fin))))
open PySem.W Builtin in
theorem obj_ne {y : Addr} {Q : Value → Shared → Prop} (hu : A.in1.units < cLine) (X : K.In s.heap) (I : InstAt s.heap x ox C od) (hm : mroIn K C (.type "object") = some true) (hr : findIn K (.ref C) "__eq__" = some (some (.ref f))) (hf : isFn K (.ref f) = true)
    (h : wpAny (model prog w) A.in1 (call (.ref f) [.ref x, .ref y]) (fun v s' => ∃ b, v = .bool b ∧ Q (.bool (!b)) s') E s) : wpAny (model prog w) A (call (.builtin "object.__ne__") [.ref x, .ref y]) Q E s := by
  refine wpAny_call (codeAny_call_builtin PySem.F.slot_object_ne.plain PySem.F.entry_object_ne (@check_slot (model prog w) _ _ s "object.__ne__" "object" "__ne__" (.ref x) [.ref y] [] _ (by decide +kernel) (by decide +kernel) (I.type.andThen (looks_mroIn X hm)) (PySem.F.args_object_ne_2 _ _) ?_))
  unfold Builtin.«object.__ne__»
  refine wpAny_bind (m := slotArgs "__ne__" 1 _) (wpAny_pure ?_)
  refine wpAny_bind (m := cRoomFor _ _) (wpAny_cRoomFor hu ?_)
  refine wpAny_bind (m := callSpecialIfBound? (.ref x) (Str.ofString "__eq__") _) (ifBound_K X I hr hf (wpAny_mono h (fun r s' hq => ?_) fun _ _ y => y))
  obtain ⟨b, rfl, q⟩ := hq
  refine wpAny_bind (m := truthy (.bool b)) (wpAny_truthy_bool ?_)
  exact wpAny_pure q
open PySem.W in
theorem ne_own {y : Addr} {Q : Value → Shared → Prop} {oy : Obj} {oe : Option Obj} (hu : A.units < cLine) (hu1 : A.in1.units < cLine) (X : K.In s.heap) (I : InstAt s.heap x ox C od) (J : InstAt s.heap y oy C oe) (hm : mroIn K C (.type "object") = some true)
    (hn : findIn K (.ref C) "__ne__" = some (some (.builtin "object.__ne__"))) (hr : findIn K (.ref C) "__eq__" = some (some (.ref f))) (hf : isFn K (.ref f) = true)
    (h : wpAny (model prog w) A.in1 (call (.ref f) [.ref x, .ref y]) (fun v s' => ∃ b, v = .bool b ∧ Q (.bool (!b)) s') E s) : wpAny (model prog w) A (compareOp .NotEq (.ref x) (.ref y)) Q E s := by
  have one : wpAny (model prog w) A (tryCompare (.ref x) (cmpInfo .NotEq).2.1 (.ref y)) (fun r s' => ∃ v, r = some v ∧ Q v s') E s := by
    unfold tryCompare
    refine wpAny_bind (ifBound_B X I hn PySem.F.slot_object_ne.bind (obj_ne hu1 X I hm hr hf (wpAny_mono h (fun v s' hv => ?_) fun _ _ e => e)))
    obtain ⟨b, rfl, hq⟩ := hv
    exact ⟨b, rfl, wpAny_pure ⟨_, rfl, hq⟩⟩
  unfold compareOp
  show wpAny (model prog w) A (richCompare .NotEq (.ref x) (.ref y)) Q E s
  unfold richCompare
  simp only [oneThing_ref]
  refine wpAny_holding (wpAny_bind (wpAny_cRoomFor hu ?_))
  refine wpAny_bind (I.type.here (wpAny_bind (J.type.here ?_)))
  rw [show (Value.ref C != Value.ref C) = false from by simp]
  simp only [Bool.false_eq_true, if_false]
  refine wpAny_bind (wpAny_pure ?_)
  simp only [Bool.false_eq_true, if_false]
  refine wpAny_bind (wpAny_mono one (fun r s' z => ?_) fun _ _ e => e)
  obtain ⟨v, rfl, hq⟩ := z
  exact wpAny_pure hq
end
/-- x != y, both instances of the class at C with its own __eq__ -/
def rOwnNe (C : Addr) (sp : Sp) : R2 := fun x y H Q => ∃ a dx fs b dy gs, x = .ref a ∧ y = .ref b ∧ H a = some (.ins C dx fs) ∧ H b = some (.ins C dy gs) ∧ sp [x, y] H (fun z H' => ∃ c, z = .bl c ∧ Q (.bl (!c)) H') E0
theorem op_ownNe {X : Cx} {C f : Addr} {fd : FuncData} {ps : List Str} {sp : Sp} {k : Nat} (hm : PySem.W.mroIn X.K C (.type "object") = some true) (hn : PySem.W.findIn X.K (.ref C) "__ne__" = some (some (.builtin "object.__ne__")))
    (M : Meth X.K C "__eq__" f) (F : FnOk X.prog X.w X.K X.mg X.base CX0 k f fd ps sp) (hb : Binds X.K fd ps []) (hr : Room (k + 1) X.A) : OpR X (compareOp .NotEq) (rOwnNe C sp) := by
  intro pins s σ H x y v u Q I rx ry h
  obtain ⟨a, dx, fs, b, dy, gs, rfl, rfl, ha, hb', q⟩ := h
  cases rx
  cases ry
  obtain ⟨mA, J, _⟩ := ins_get I.hok ha
  obtain ⟨mB, J', _⟩ := ins_get I.hok hb'
  obtain ⟨od, J, _⟩ := J.look
  obtain ⟨od', J', _⟩ := J'.look
  have e0 : Env0 X.prog X.w X.K X.mg X.base X.A.in1 X.stack s H := by
    have e := I.env0
    exact ⟨e.frames, e.mod, e.bs, e.bsz, e.funs, e.frf, e.hok, e.bare⟩
  have hl := F.len _ _ _ _ q
  have r2 : Vals [V.ref a, V.ref b] [Value.ref a, Value.ref b] := .cons rfl (.cons rfl .nil)
  refine ne_own hr.units0 hr.in1.units0 I.kIn J J' hm hn M.at_ M.fn ?_
  refine wpAny_call (codeAny_mono (F.run X.A.in1 X.stack s H ⟨[.ref a, .ref b], []⟩ [.ref a, .ref b] [.ref a, .ref b] _ E0 hr.in1 e0 (by
    have := hb s [.ref a, .ref b] I.kIn (by simpa using hl)
    simpa using this) r2 q) fun r s' hq => ?_)
  cases r with
  | error e => exact pass0 pins σ H s e s' I hq
  | ok fl =>
    cases fl with
    | ret w =>
      obtain ⟨z, H', I', rz, c, ez, qz⟩ := I.after hq
      subst ez
      cases rz
      exact ⟨c, rfl, .bl (!c), H', I', rfl, qz⟩
    | next => exact False.elim hq
    | brk => exact False.elim hq
    | cont => exact False.elim hq

/-! ### == and != of an instance with an own __eq__ against anything -/
section
variable {prog : Program} {w : World} {A : Around} {E : Value → Shared → Prop} {s : Shared} {K : PySem.W.Frag} {x C L f : Addr} {h₀ : Heap} {m : Str → Option Value} {ox : Obj} {od : Option Obj} {b tb : Value}
open PySem.W Builtin in
theorem obj_neA {y : Value} {Q : Value → Shared → Prop} (hu : A.in1.units < cLine) (X : K.In s.heap) (I : InstAt s.heap x ox C od) (hm : mroIn K C (.type "object") = some true) (hr : findIn K (.ref C) "__eq__" = some (some (.ref f))) (hf : isFn K (.ref f) = true)
    (h : wpAny (model prog w) A.in1 (call (.ref f) [.ref x, y]) (fun v s' => ∃ b, v = .bool b ∧ Q (.bool (!b)) s') E s) : wpAny (model prog w) A (call (.builtin "object.__ne__") [.ref x, y]) Q E s := by
  refine wpAny_call (codeAny_call_builtin PySem.F.slot_object_ne.plain PySem.F.entry_object_ne (@check_slot (model prog w) _ _ s "object.__ne__" "object" "__ne__" (.ref x) [y] [] _ (by decide +kernel) (by decide +kernel) (I.type.andThen (looks_mroIn X hm)) (PySem.F.args_object_ne_2 _ _) ?_))
  unfold Builtin.«object.__ne__»
  refine wpAny_bind (m := slotArgs "__ne__" 1 _) (wpAny_pure ?_)
  refine wpAny_bind (m := cRoomFor _ _) (wpAny_cRoomFor hu ?_)
  refine wpAny_bind (m := callSpecialIfBound? (.ref x) (Str.ofString "__eq__") _) (ifBound_K X I hr hf (wpAny_mono h (fun r s' hq => ?_) fun _ _ y => y))
  obtain ⟨b, rfl, q⟩ := hq
  refine wpAny_bind (m := truthy (.bool b)) (wpAny_truthy_bool ?_)
  exact wpAny_pure q
open PySem.W in
theorem ne_ownA {y : Value} {Q : Value → Shared → Prop} (hu : A.units < cLine) (hu1 : A.in1.units < cLine) (X : K.In s.heap) (I : InstAt s.heap x ox C od) (hb : Looks (model prog w) s.heap (typeOf y) tb) (hnf : notFirst K C tb = true) (hm : mroIn K C (.type "object") = some true)
    (hn : findIn K (.ref C) "__ne__" = some (some (.builtin "object.__ne__"))) (hr : findIn K (.ref C) "__eq__" = some (some (.ref f))) (hf : isFn K (.ref f) = true)
    (h : wpAny (model prog w) A.in1 (call (.ref f) [.ref x, y]) (fun v s' => ∃ b, v = .bool b ∧ Q (.bool (!b)) s') E s) : wpAny (model prog w) A (compareOp .NotEq (.ref x) y) Q E s := by
  have one : wpAny (model prog w) A (tryCompare (.ref x) (cmpInfo .NotEq).2.1 y) (fun r s' => ∃ v, r = some v ∧ Q v s') E s := by
    unfold tryCompare
    refine wpAny_bind (ifBound_B X I hn PySem.F.slot_object_ne.bind (obj_neA hu1 X I hm hr hf (wpAny_mono h (fun v s' hv => ?_) fun _ _ e => e)))
    obtain ⟨b, rfl, hq⟩ := hv
    exact ⟨b, rfl, wpAny_pure ⟨_, rfl, hq⟩⟩
  unfold compareOp
  show wpAny (model prog w) A (richCompare .NotEq (.ref x) y) Q E s
  unfold richCompare
  simp only [oneThing_ref]
  refine wpAny_holding (wpAny_bind (wpAny_cRoomFor hu ?_))
  refine wpAny_bind (I.type.here (wpAny_bind (hb.here ?_)))
  split
  · rename_i q
    have e : subIn K tb (.ref C) = some false := by
      rcases Bool.or_eq_true_iff.mp hnf with e | e
      · rw [beq_iff_eq.mp e] at q; simp at q
      · exact beq_iff_eq.mp e
    refine wpAny_bind ((looks_subIn X e).here ?_)
    simp only [Bool.false_eq_true, if_false]
    refine wpAny_bind (wpAny_mono one (fun r s' z => ?_) fun _ _ e => e)
    obtain ⟨v, rfl, hq⟩ := z
    exact wpAny_pure hq
  · refine wpAny_bind (wpAny_pure ?_)
    simp only [Bool.false_eq_true, if_false]
    refine wpAny_bind (wpAny_mono one (fun r s' z => ?_) fun _ _ e => e)
    obtain ⟨v, rfl, hq⟩ := z
    exact wpAny_pure hq
end
/-- x == y, x an instance of the class at C with its own __eq__, y anything of a class not below C -/
def rOwnEqA (K : PySem.W.Frag) (C : Addr) (sp : Sp) : R2 := fun x y H Q => ∃ a dx fs t, x = .ref a ∧ H a = some (.ins C dx fs) ∧ TyX K H y t ∧ PySem.W.notFirst K C t = true ∧ sp [x, y] H (fun z H' => ∃ c, z = .bl c ∧ Q (.bl c) H') E0
def rOwnNeA (K : PySem.W.Frag) (C : Addr) (sp : Sp) : R2 := fun x y H Q => ∃ a dx fs t, x = .ref a ∧ H a = some (.ins C dx fs) ∧ TyX K H y t ∧ PySem.W.notFirst K C t = true ∧ sp [x, y] H (fun z H' => ∃ c, z = .bl c ∧ Q (.bl (!c)) H') E0
section
variable {X : Cx} {C f : Addr} {fd : FuncData} {ps : List Str} {sp : Sp} {k : Nat}
theorem own_run {pins : List (Addr × Obj)} {σ : St} {H : Hp} {s : Shared} {A : Around} {x y : V} {u v : Value} {Q : VK} (M : Meth X.K C "__eq__" f) (F : FnOk X.prog X.w X.K X.mg X.base CX0 k f fd ps sp) (hb : Binds X.K fd ps []) (hr : Room k A) (hf : A.frames = X.A.frames)
    (I : Inv X pins σ H s) (rx : RelV x u) (ry : RelV y v) (q : sp [x, y] H Q E0) : wpAny (model X.prog X.w) A (call (.ref f) [u, v]) (EP X pins σ Q) X.xe s := by
  have e0 : Env0 X.prog X.w X.K X.mg X.base A X.stack s H := by
    have e := I.env0
    exact ⟨by rw [hf]; exact e.frames, e.mod, e.bs, e.bsz, e.funs, e.frf, e.hok, e.bare⟩
  have hl := F.len _ _ _ _ q
  have r2 : Vals [x, y] [u, v] := .cons rx (.cons ry .nil)
  refine wpAny_call (codeAny_mono (F.run A X.stack s H ⟨[u, v], []⟩ [u, v] [x, y] Q E0 hr e0 (by
    have := hb s [u, v] I.kIn (by simpa using hl)
    simpa using this) r2 q) fun r s' hq => ?_)
  cases r with
  | error e => exact pass0 pins σ H s e s' I hq
  | ok fl =>
    cases fl with
    | ret w => exact I.after hq
    | next => exact False.elim hq
    | brk => exact False.elim hq
    | cont => exact False.elim hq
theorem op_ownNeA (hm : PySem.W.mroIn X.K C (.type "object") = some true) (hn : PySem.W.findIn X.K (.ref C) "__ne__" = some (some (.builtin "object.__ne__")))
    (M : Meth X.K C "__eq__" f) (F : FnOk X.prog X.w X.K X.mg X.base CX0 k f fd ps sp) (hb : Binds X.K fd ps []) (hr : Room (k + 1) X.A) : OpR X (compareOp .NotEq) (rOwnNeA X.K C sp) := by
  intro pins s σ H x y v u Q I rx ry h
  obtain ⟨a, dx, fs, t, rfl, ha, ty, hnf, q⟩ := h
  cases (show v = Value.ref a from rx)
  obtain ⟨mA, J, _⟩ := ins_get I.hok ha
  obtain ⟨od, J, _⟩ := J.look
  obtain ⟨P, Z, hP, _⟩ := kit_of I ry ty
  refine ne_ownA hr.units0 hr.in1.units0 I.kIn J (Z.ty _ _ I.kIn hP) hnf hm hn M.at_ M.fn ?_
  refine wpAny_mono (own_run M F hb hr.in1 rfl I (show RelV (.ref a) (.ref a) from rfl) ry q) (fun r s' hq => ?_) fun _ _ x => x
  obtain ⟨z, H', I', rz, c, ez, qz⟩ := hq
  subst ez
  cases rz
  exact ⟨c, rfl, .bl (!c), H', I', rfl, qz⟩
theorem op_ownEqA (M : Meth X.K C "__eq__" f) (F : FnOk X.prog X.w X.K X.mg X.base CX0 k f fd ps sp) (hb : Binds X.K fd ps []) (hr : Room k X.A) : OpR X (compareOp .Eq) (rOwnEqA X.K C sp) := by
  intro pins s σ H x y v u Q I rx ry h
  obtain ⟨a, dx, fs, t, rfl, ha, ty, hnf, q⟩ := h
  cases (show v = Value.ref a from rx)
  obtain ⟨mA, J, _⟩ := ins_get I.hok ha
  obtain ⟨od, J, _⟩ := J.look
  obtain ⟨P, Z, hP, _⟩ := kit_of I ry ty
  obtain ⟨m, hF⟩ := I.fr
  refine PySem.W.cmp_K (op := .Eq) hr.units0 hF I.ok.mod.kin J (Z.ty _ _ I.kIn hP) hnf M.at_ M.fn ?_
  refine wpAny_mono (own_run M F hb hr rfl I (show RelV (.ref a) (.ref a) from rfl) ry q) (fun r s' hq => ?_) fun _ _ x => x
  obtain ⟨z, H', I', rz, c, ez, qz⟩ := hq
  subst ez
  cases rz
  exact ⟨.bl c, H', I', rfl, qz⟩
end
end QW

namespace QW
open PySem L2
/-! ### things of any kind: ints, flags, tuples of things, others -/
inductive Th where
  | int (i : Int)
  | bl (b : Bool)
  | tup (l : List Th)
  | oth
mutual
def ThR (P : Addr → Prop) (H : Hp) : V → Th → Prop
  | v, .int i => v = .int i
  | v, .bl b => v = .bl b
  | v, .tup ds => ∃ a vs, v = .ref a ∧ H a = some (.tup vs) ∧ ThL P H vs ds
  | v, .oth => v = .non ∨ (∃ x, v = .str x) ∨ (∃ a xs, v = .ref a ∧ P a ∧ H a = some (.lst xs)) ∨ (∃ a kvs, v = .ref a ∧ P a ∧ H a = some (.dK kvs))
def ThL (P : Addr → Prop) (H : Hp) : List V → List Th → Prop
  | [], [] => True
  | v :: vs, d :: ds => ThR P H v d ∧ ThL P H vs ds
  | [], _ :: _ => False
  | _ :: _, [] => False
end
structure Kp (P : Addr → Prop) (H H' : Hp) : Prop where
  lst : ∀ b xs, P b → H b = some (.lst xs) → ∃ ys, H' b = some (.lst ys)
  dk : ∀ b kvs, P b → H b = some (.dK kvs) → H' b = some (.dK kvs)
  tup : ∀ b xs, H b = some (.tup xs) → H' b = some (.tup xs)
theorem Same.kp {P : Addr → Prop} {H H' : Hp} (s : Same H H') : Kp P H H' := ⟨fun b xs _ e => ⟨xs, s b _ e⟩, fun b xs _ e => s b _ e, fun b xs e => s b _ e⟩
theorem KL.kp {m : Addr} {P : Addr → Prop} {H H' : Hp} (s : KL m H H') : Kp P H H' := ⟨fun b xs _ e => s.lst b xs e, fun b xs _ e => s.dk b xs e, s.tup⟩
theorem KS.kp {S : List Addr} {P : Addr → Prop} {H H' : Hp} (s : KS S H H') : Kp P H H' := ⟨fun b xs _ e => s.lst b xs e, fun b xs _ e => s.dk b xs e, s.tup⟩
mutual
theorem ThR.mono {P P' : Addr → Prop} {H H' : Hp} (hp : ∀ a, P a → P' a) (k : Kp P H H') : ∀ {v : V} (d : Th), ThR P H v d → ThR P' H' v d
  | _, .int _, h => by simpa [ThR] using h
  | _, .bl _, h => by simpa [ThR] using h
  | _, .tup ds, h => by
    simp only [ThR] at h ⊢
    obtain ⟨a, vs, e, ha, hl⟩ := h
    exact ⟨a, vs, e, k.tup _ _ ha, ThL.mono hp k ds hl⟩
  | _, .oth, h => by
    simp only [ThR] at h ⊢
    rcases h with h | h | ⟨a, xs, e, pa, ha⟩ | ⟨a, xs, e, pa, ha⟩
    · exact .inl h
    · exact .inr (.inl h)
    · obtain ⟨ys, e2⟩ := k.lst _ _ pa ha
      exact .inr (.inr (.inl ⟨a, ys, e, hp _ pa, e2⟩))
    · exact .inr (.inr (.inr ⟨a, xs, e, hp _ pa, k.dk _ _ pa ha⟩))
theorem ThL.mono {P P' : Addr → Prop} {H H' : Hp} (hp : ∀ a, P a → P' a) (k : Kp P H H') : ∀ {vs : List V} (ds : List Th), ThL P H vs ds → ThL P' H' vs ds
  | [], [], _ => by simp [ThL]
  | v :: vs, d :: ds, h => by
    simp only [ThL] at h ⊢
    exact ⟨ThR.mono hp k d h.1, ThL.mono hp k ds h.2⟩
  | [], _ :: _, h => by simp [ThL] at h
  | _ :: _, [], h => by simp [ThL] at h
end
theorem ThR.mon {P : Addr → Prop} {H H' : Hp} (k : Kp P H H') {v : V} {d : Th} (h : ThR P H v d) : ThR P H' v d := ThR.mono (fun _ h => h) k d h
theorem sm_th {P : Addr → Prop} {v : V} {d : Th} {H H' : Hp} (s : Same H H') (h : ThR P H v d) : ThR P H' v d := h.mon (Same.kp s)
theorem kl_th {m : Addr} {P : Addr → Prop} {v : V} {d : Th} {H H' : Hp} (s : KL m H H') (h : ThR P H v d) : ThR P H' v d := h.mon s.kp
theorem ks_th {S : List Addr} {P : Addr → Prop} {v : V} {d : Th} {H H' : Hp} (s : KS S H H') (h : ThR P H v d) : ThR P H' v d := h.mon s.kp
theorem ThL.mon {P : Addr → Prop} {H H' : Hp} (k : Kp P H H') {v : List V} {d : List Th} (h : ThL P H v d) : ThL P H' v d := ThL.mono (fun _ h => h) k d h
mutual
theorem ThR.live {P P' : Addr → Prop} {H : Hp} (hp : ∀ a, P a → H a ≠ none → P' a) : ∀ {v : V} (d : Th), ThR P H v d → ThR P' H v d
  | _, .int _, h => by simpa [ThR] using h
  | _, .bl _, h => by simpa [ThR] using h
  | _, .tup ds, h => by
    simp only [ThR] at h ⊢
    obtain ⟨a, vs, e, ha, hl⟩ := h
    exact ⟨a, vs, e, ha, ThL.live hp ds hl⟩
  | _, .oth, h => by
    simp only [ThR] at h ⊢
    rcases h with h | h | ⟨a, xs, e, pa, ha⟩ | ⟨a, xs, e, pa, ha⟩
    · exact .inl h
    · exact .inr (.inl h)
    · exact .inr (.inr (.inl ⟨a, xs, e, hp _ pa (by rw [ha]; simp), ha⟩))
    · exact .inr (.inr (.inr ⟨a, xs, e, hp _ pa (by rw [ha]; simp), ha⟩))
theorem ThL.live {P P' : Addr → Prop} {H : Hp} (hp : ∀ a, P a → H a ≠ none → P' a) : ∀ {vs : List V} (ds : List Th), ThL P H vs ds → ThL P' H vs ds
  | [], [], _ => by simp [ThL]
  | v :: vs, d :: ds, h => by
    simp only [ThL] at h ⊢
    exact ⟨ThR.live hp d h.1, ThL.live hp ds h.2⟩
  | [], _ :: _, h => by simp [ThL] at h
  | _ :: _, [], h => by simp [ThL] at h
end
theorem ThL.length {P : Addr → Prop} {H : Hp} : ∀ {vs : List V} {ds : List Th}, ThL P H vs ds → vs.length = ds.length
  | [], [], _ => rfl
  | v :: vs, d :: ds, h => by
    simp only [ThL] at h
    simp [ThL.length h.2]
  | [], _ :: _, h => by simp [ThL] at h
  | _ :: _, [], h => by simp [ThL] at h
theorem ThL.get {P : Addr → Prop} {H : Hp} : ∀ {vs : List V} {ds : List Th} {i : Nat} {v : V}, ThL P H vs ds → vs[i]? = some v → ∃ d, ds[i]? = some d ∧ ThR P H v d
  | [], [], _, _, _, e => by simp at e
  | v :: vs, d :: ds, 0, w, h, e => by
    simp only [ThL] at h
    simp at e
    subst e
    exact ⟨d, rfl, h.1⟩
  | v :: vs, d :: ds, i + 1, w, h, e => by
    simp only [ThL] at h
    obtain ⟨x, h1, h2⟩ := ThL.get (i := i) h.2 (by simpa using e)
    exact ⟨x, by simpa using h1, h2⟩
  | [], _ :: _, _, _, h, _ => by simp [ThL] at h
  | _ :: _, [], _, _, h, _ => by simp [ThL] at h
theorem ThL.append {P : Addr → Prop} {H : Hp} : ∀ {vs : List V} {ds : List Th} {ws : List V} {es : List Th}, ThL P H vs ds → ThL P H ws es → ThL P H (vs ++ ws) (ds ++ es)
  | [], [], _, _, _, q => q
  | v :: vs, d :: ds, _, _, h, q => by
    simp only [ThL] at h
    simp only [List.cons_append, ThL]
    exact ⟨h.1, ThL.append h.2 q⟩
  | [], _ :: _, _, _, h, _ => by simp [ThL] at h
  | _ :: _, [], _, _, h, _ => by simp [ThL] at h
theorem ThL.take {P : Addr → Prop} {H : Hp} : ∀ {vs : List V} {ds : List Th} (n : Nat), ThL P H vs ds → ThL P H (vs.take n) (ds.take n)
  | _, _, 0, _ => by simp [ThL]
  | [], [], n + 1, h => by simp [ThL]
  | v :: vs, d :: ds, n + 1, h => by
    simp only [ThL] at h
    simp only [List.take_succ_cons, ThL]
    exact ⟨h.1, ThL.take n h.2⟩
  | [], _ :: _, _ + 1, h => by simp [ThL] at h
  | _ :: _, [], _ + 1, h => by simp [ThL] at h
theorem ThL.drop {P : Addr → Prop} {H : Hp} : ∀ {vs : List V} {ds : List Th} (n : Nat), ThL P H vs ds → ThL P H (vs.drop n) (ds.drop n)
  | _, _, 0, h => h
  | [], [], n + 1, h => by simp [ThL]
  | v :: vs, d :: ds, n + 1, h => by
    simp only [ThL] at h
    simp only [List.drop_succ_cons]
    exact ThL.drop n h.2
  | [], _ :: _, _ + 1, h => by simp [ThL] at h
  | _ :: _, [], _ + 1, h => by simp [ThL] at h
mutual
def thOf : PyData → Th
  | .int i => .int i
  | .bool b => .bl b
  | .tuple ds => .tup (thAll ds)
  | _ => .oth
def thAll : List PyData → List Th
  | [] => []
  | d :: ds => thOf d :: thAll ds
end
theorem thAll_map (ds : List PyData) : thAll ds = ds.map thOf := by
  induction ds with
  | nil => rfl
  | cons d ds ih => simp [thAll, ih]
mutual
theorem Im.th {P : Addr → Prop} {H : Hp} : ∀ {v : V} (d : PyData), Im H v d → ThR P H v (thOf d)
  | _, .none, h => by simp only [Im] at h; subst h; simp [thOf, ThR]
  | _, .bool _, h => by simp only [Im] at h; subst h; simp [thOf, ThR]
  | _, .int _, h => by simp only [Im] at h; subst h; simp [thOf, ThR]
  | _, .str _, h => by simp only [Im] at h; subst h; simp [thOf, ThR]
  | _, .tuple ds, h => by
    simp only [Im] at h
    obtain ⟨a, vs, e, ha, hl⟩ := h
    simp only [thOf, ThR]
    exact ⟨a, vs, e, ha, ImL.th ds hl⟩
  | _, .list _, h => by simp [Im] at h
  | _, .dict _, h => by simp [Im] at h
theorem ImL.th {P : Addr → Prop} {H : Hp} : ∀ {vs : List V} (ds : List PyData), ImL H vs ds → ThL P H vs (thAll ds)
  | [], [], _ => by simp [thAll, ThL]
  | v :: vs, d :: ds, h => by
    simp only [ImL] at h
    simp only [thAll, ThL]
    exact ⟨Im.th d h.1, ImL.th ds h.2⟩
  | [], _ :: _, h => by simp [ImL] at h
  | _ :: _, [], h => by simp [ImL] at h
end
def Th.isTup : Th → Bool
  | .tup _ => true
  | _ => false
def Th.isInt : Th → Bool
  | .int _ => true
  | .bl _ => true
  | _ => false
def Th.isBl : Th → Bool
  | .bl _ => true
  | _ => false
theorem kit_bi : kitB "bool" "int" = some true := by decide +kernel
theorem kit_bb : kitB "bool" "bool" = some true := by decide +kernel
theorem kit_it : kitB "int" "tuple" = some false := by decide +kernel
theorem kit_bt : kitB "bool" "tuple" = some false := by decide +kernel
theorem kit_nt : kitB "NoneType" "tuple" = some false := by decide +kernel
theorem kit_st : kitB "str" "tuple" = some false := by decide +kernel
theorem kit_lt : kitB "list" "tuple" = some false := by decide +kernel
theorem kit_dt : kitB "dict" "tuple" = some false := by decide +kernel
theorem kit_ti : kitB "tuple" "int" = some false := by decide +kernel
theorem kit_ni : kitB "NoneType" "int" = some false := by decide +kernel
theorem kit_si : kitB "str" "int" = some false := by decide +kernel
theorem kit_li : kitB "list" "int" = some false := by decide +kernel
theorem kit_di : kitB "dict" "int" = some false := by decide +kernel
theorem kit_tb : kitB "tuple" "bool" = some false := by decide +kernel
theorem kit_nb : kitB "NoneType" "bool" = some false := by decide +kernel
theorem kit_sb : kitB "str" "bool" = some false := by decide +kernel
theorem kit_lb : kitB "list" "bool" = some false := by decide +kernel
theorem kit_db : kitB "dict" "bool" = some false := by decide +kernel
section
variable {K : PySem.W.Frag} {H : Hp} {Q : VK} {P : Addr → Prop}
theorem i_isi_tupT {v : V} {d : Th} (h : ThR P H v d) (q : Q (.bl d.isTup) H) : rIsi K [v, .ty "tuple"] H Q := by
  cases d with
  | int i => simp only [ThR] at h; subst h; exact i_isiB (.base (.int _)) kit_it q
  | bl b => simp only [ThR] at h; subst h; exact i_isiB (.base (.bl _)) kit_bt q
  | tup l =>
    simp only [ThR] at h
    obtain ⟨a, vs, rfl, ha, hl⟩ := h
    exact i_isiB (.base (.tup ha)) kit_tt q
  | oth =>
    simp only [ThR] at h
    rcases h with rfl | ⟨x, rfl⟩ | ⟨a, xs, rfl, _, ha⟩ | ⟨a, xs, rfl, _, ha⟩
    · exact i_isiB (.base .non) kit_nt q
    · exact i_isiB (.base (.str _)) kit_st q
    · exact i_isiB (.base (.lst ha)) kit_lt q
    · exact i_isiB (.base (.dK ha)) kit_dt q
theorem i_isi_intT {v : V} {d : Th} (h : ThR P H v d) (q : Q (.bl d.isInt) H) : rIsi K [v, .ty "int"] H Q := by
  cases d with
  | int i => simp only [ThR] at h; subst h; exact i_isiB (.base (.int _)) kit_ii q
  | bl b => simp only [ThR] at h; subst h; exact i_isiB (.base (.bl _)) kit_bi q
  | tup l =>
    simp only [ThR] at h
    obtain ⟨a, vs, rfl, ha, hl⟩ := h
    exact i_isiB (.base (.tup ha)) kit_ti q
  | oth =>
    simp only [ThR] at h
    rcases h with rfl | ⟨x, rfl⟩ | ⟨a, xs, rfl, _, ha⟩ | ⟨a, xs, rfl, _, ha⟩
    · exact i_isiB (.base .non) kit_ni q
    · exact i_isiB (.base (.str _)) kit_si q
    · exact i_isiB (.base (.lst ha)) kit_li q
    · exact i_isiB (.base (.dK ha)) kit_di q
theorem i_isi_blT {v : V} {d : Th} (h : ThR P H v d) (q : Q (.bl d.isBl) H) : rIsi K [v, .ty "bool"] H Q := by
  cases d with
  | int i => simp only [ThR] at h; subst h; exact i_isiB (.base (.int _)) kit_ib q
  | bl b => simp only [ThR] at h; subst h; exact i_isiB (.base (.bl _)) kit_bb q
  | tup l =>
    simp only [ThR] at h
    obtain ⟨a, vs, rfl, ha, hl⟩ := h
    exact i_isiB (.base (.tup ha)) kit_tb q
  | oth =>
    simp only [ThR] at h
    rcases h with rfl | ⟨x, rfl⟩ | ⟨a, xs, rfl, _, ha⟩ | ⟨a, xs, rfl, _, ha⟩
    · exact i_isiB (.base .non) kit_nb q
    · exact i_isiB (.base (.str _)) kit_sb q
    · exact i_isiB (.base (.lst ha)) kit_lb q
    · exact i_isiB (.base (.dK ha)) kit_db q
theorem i_isi_bb {b : Bool} (q : Q (.bl true) H) : rIsi K [.bl b, .ty "bool"] H Q := i_isiB (.base (.bl _)) kit_bb q
/-- tuples of things put together -/
theorem i_catTh {x y : V} {ds es : List Th} (h1 : ThR P H x (.tup ds)) (h2 : ThR P H y (.tup es)) (hz : ds.length + es.length ≤ sizeLine)
    (q : ∀ v H', Same H H' → ThR P H' v (.tup (ds ++ es)) → Q v H') : rCatA K x y H Q := by
  have h1' := h1
  have h2' := h2
  simp only [ThR] at h1' h2'
  obtain ⟨a, xs, rfl, ha, la⟩ := h1'
  obtain ⟨b, ys, rfl, hb, lb⟩ := h2'
  have e1 := la.length
  have e2 := lb.length
  refine ⟨a, b, xs, ys, rfl, rfl, SqT.of ha, SqT.of hb, by omega, fun z => ?_, fun _ z => ?_, fun _ _ => new_obj fun p H' hp s e => ?_⟩
  · subst z
    have : ds = [] := List.eq_nil_of_length_eq_zero e1.symm
    subst this
    exact q _ _ (Same.refl _) h2
  · subst z
    have : es = [] := List.eq_nil_of_length_eq_zero e2.symm
    subst this
    rw [List.append_nil] at q
    exact q _ _ (Same.refl _) h1
  · refine q _ _ s ?_
    simp only [ThR]
    exact ⟨p, _, rfl, e, ThL.append (la.mon (Same.kp s)) (lb.mon (Same.kp s))⟩
/-- a slice of a tuple of things: some of them -/
theorem i_slTh {x : V} {ds : List Th} {lo hi : Option Int} (h : ThR P H x (.tup ds))
    (q : ∀ v H' es, Same H H' → es.length ≤ ds.length → ThR P H' v (.tup es) → Q v H') : rSlA K x lo hi H Q := by
  have h' := h
  simp only [ThR] at h'
  obtain ⟨a, xs, rfl, ha, la⟩ := h'
  refine ⟨a, xs, rfl, SqT.of ha, fun _ => q _ _ ds (Same.refl _) (Nat.le_refl _) h, fun _ => new_obj fun p H' hp s e => ?_⟩
  refine q _ _ ((ds.drop (HT.sIx xs.length 0 lo)).take (HT.sIx xs.length xs.length hi - HT.sIx xs.length 0 lo)) s ?_ ?_
  · rw [List.length_take, List.length_drop]; omega
  · simp only [ThR]
    refine ⟨p, _, rfl, e, ?_⟩
    unfold cutV
    exact ThL.take _ (ThL.drop _ (la.mon (Same.kp s)))
end
theorem ThR.tup_of {P : Addr → Prop} {H : Hp} {a : Addr} {vs : List V} {ds : List Th} (h : H a = some (.tup vs)) (l : ThL P H vs ds) : ThR P H (.ref a) (.tup ds) := by
  simp only [ThR]; exact ⟨a, vs, rfl, h, l⟩
theorem ThR.tup_at {P : Addr → Prop} {H : Hp} {v : V} {ds : List Th} (h : ThR P H v (.tup ds)) : ∃ a vs, v = .ref a ∧ H a = some (.tup vs) ∧ ThL P H vs ds := by
  simpa only [ThR] using h
/-! ### any(xs) of a list of ints -/
theorem truth_ints {prog : Program} {w : World} {A : Around} {ns : List Int} {its : List Value} (r : Vals (ns.map V.int) its) :
    TruthOf prog w A (fun i v => its.toArray[i]? = some v) (fun i => ns.getD i 0 != 0) := fun i v s Q E hv hq => by
  have hv' : its[i]? = some v := by simpa using hv
  have hi : i < ns.length := by
    have := r.length
    rw [List.length_map] at this
    rcases Nat.lt_or_ge i its.length with h | h
    · omega
    · rw [List.getElem?_eq_none h] at hv'; cases hv'
  have e1 : (ns.map V.int)[i]? = some (.int (ns.getD i 0)) := by
    rw [List.getElem?_map, List.getD_eq_getElem?_getD, List.getElem?_eq_getElem hi]; rfl
  obtain ⟨u, eu, ru⟩ := r.get e1
  rw [hv'] at eu
  cases eu
  obtain ⟨t, rfl⟩ := ru
  exact PySem.P.truthy_int hq
theorem any_rangeI : ∀ ns : List Int, (List.range ns.length).any (fun i => ns.getD i 0 != 0) = ns.any (· != 0)
  | [] => rfl
  | b :: bs => by
    rw [List.length_cons, List.range_succ_eq_map, List.any_cons, List.any_map, List.any_cons, ← any_rangeI bs]
    all_goals rfl
def rAnyI (K : PySem.W.Frag) : List V → Hp → VK → Prop := fun vs H Q => ∃ (a : Addr) (ns : List Int), vs = [V.ref a] ∧ SqL K H a (ns.map V.int) ∧ Q (.bl (ns.any (· != 0))) H
theorem cr_anyI {X : Cx} (hc : X.calm = true) : CallR X (.builtin "any") (rAnyI X.K) := by
  intro pins s σ H vs us Q I r h
  obtain ⟨a, ns, rfl, hs, q⟩ := h
  obtain ⟨its, rv, hl, _⟩ := I.list hs
  rw [Vals.ref1 r]
  have hlen := rv.length
  rw [List.length_map] at hlen
  refine call_any_walk (iter_any hl.isList fun s₂ e2 st hne => ?_)
  subst e2
  refine ⟨_, _, _, _, _, _, _, rfl, Walks.list (A := X.A.in1) (I.ok.hd hc) _ a hne its.toArray, st, truth_ints rv, fun h' tk hk => ?_⟩
  refine ⟨.bl _, H, I.kept fun b o eo => hk b o (fun hmem => ?_) (Heap.get?_push_of_some _ eo), ?_, q⟩
  · rcases List.mem_cons.mp hmem with e1 | hmem
    · exact absurd (e1 ▸ Heap.lt_size eo) (Nat.lt_irrefl _)
    · cases hmem
  · show Value.bool _ = Value.bool _
    rw [← any_rangeI, List.size_toArray, ← hlen]
theorem i_ranyI {K : PySem.W.Frag} {H : Hp} {Q : VK} {a : Addr} {ns : List Int} (h : H a = some (.lst (ns.map V.int))) (q : Q (.bl (ns.any (· != 0))) H) : rAnyI K [.ref a] H Q := ⟨a, ns, rfl, SqL.of h, q⟩
/-! ### dict displays -/
theorem i_dnew {σ : St} {H : Hp} {Q : VK} (q : ∀ p H', H p = none → Same H H' → H' p = some (.dK []) → Q (.ref p) H') : tDNewK σ H Q := new_obj q
theorem i_disp1 {σ : St} {H : Hp} {Q : VK} {x : Str} {v : V} (q : ∀ p H' kvs, H p = none → Same H H' → H' p = some (.dK kvs) → Q (.ref p) H') : tDisp [(tC (.str x), tC v)] σ H Q := by
  intro p hp
  refine ⟨upd_same, [(.inr x, v)], rfl, by show 1 ≤ 15; omega, ?_⟩
  rw [upd_upd]
  exact q p _ _ hp (same_upd hp) upd_same
/-! ### comprehensions over a tuple with a test -/
section
variable {K : PySem.W.Frag} {σ : St} {H : Hp} {Q : VK}
def LcTt (K : PySem.W.Frag) (g : TG) (tt : TT) (te : TE) (vs : List Nat) (σ : St) (Q : VK) (x : V) (H1 : Hp) : Prop := ∃ a, x = .ref a ∧ (∃ xs, SqT K H1 a xs) ∧ ∀ D, H1 D = none → ∃ W : Nat → Nat → Hp → Prop, (∃ m, W 0 m (upd H1 D (.lst []))) ∧ ∀ i m H, W i m H →
  ((Itt K a).stop i H ∧ Q (.ref D) H) ∨ ((Itt K a).go i H ∧ ∃ Nx : Hp → Prop, (∀ H', Nx H' → ∃ m', m' < m ∧ W (i + 1) m' H') ∧ ∀ x H', (Itt K a).yld i H x H' → g x (wipe σ vs) H' fun σ2 H2 => wipe σ2 vs = wipe σ vs ∧ tt σ2 H2 fun b H3 =>
    if b = true then te σ2 H3 fun y H4 => ∃ acc, H4 D = some (.lst acc) ∧ acc.length < sizeLine ∧ Nx (upd H4 D (.lst (acc ++ [y]))) else Nx H3)
theorem i_lcTt {tl te : TE} {tt : TT} {g : TG} {vs : List Nat} (h : tl σ H fun x H1 => LcTt K g tt te vs σ Q x H1) : tLc (iTup K tl) g tt te vs σ H Q := h
def LcF2 (H : Hp) (Dl : Addr) (es : List PyData) (F : PyData → List PyData) (i : Nat) (H1 : Hp) : Prop :=
  Same H H1 ∧ ∃ ys, H1 Dl = some (.lst ys) ∧ ImL H1 ys ((es.take i).flatMap F)
theorem flatMap_le {F : PyData → List PyData} (hF : ∀ e, (F e).length ≤ 1) : ∀ es : List PyData, (es.flatMap F).length ≤ es.length
  | [] => by simp
  | e :: es => by
    rw [List.flatMap_cons, List.length_append, List.length_cons]
    have := flatMap_le hF es
    have := hF e
    omega
theorem lcTt_of {g : TG} {tt : TT} {te : TE} {vs : List Nat} {a : Addr} {xs : List V} {es : List PyData} (F : PyData → List PyData) (hF : ∀ e, (F e).length ≤ 1) (ha : H a = some (.tup xs)) (hl : ImL H xs es) (hz : es.length < 1000000)
    (turn : ∀ (e : PyData) (x : V) (H1 : Hp) (N M : Hp → Prop) (NE : V → Hp → Prop), e ∈ es → Same H H1 → Im H1 x e → (∀ y H3 d, F e = [d] → Same H1 H3 → Im H3 y d → NE y H3) → (∀ H3, F e = [] → Same H1 H3 → M H3) →
      g x (wipe σ vs) H1 fun σ2 H2 => wipe σ2 vs = wipe σ vs ∧ tt σ2 H2 fun b H3 => if b = true then te σ2 H3 NE else M H3)
    (done : ∀ D H1 ys, H D = none → Same H H1 → H1 D = some (.lst ys) → ImL H1 ys (es.flatMap F) → Q (.ref D) H1) : LcTt K g tt te vs σ Q (.ref a) H := by
  have e0 : sizeLine = 16777216 := PySem.sizeLine_eq
  refine ⟨a, rfl, ⟨xs, SqT.of ha⟩, fun Dl hD => ?_⟩
  refine lc_tup (K := K) (a := a) (xs := xs) (tt := tt) (LcF2 H Dl es F) ⟨same_upd hD, [], upd_same, by simp [ImL]⟩ (fun i H' _ p => SqT.of (p.1 _ _ ha)) (fun i x H' hx p => ?_) (fun H' p => ?_)
  · obtain ⟨e, he, hi⟩ := hl.get hx
    obtain ⟨s, ys, h1, h2⟩ := p
    have hy := h2.length
    have hb := flatMap_le hF (es.take i)
    rw [List.length_take] at hb
    have e1 : (es.take (i + 1)).flatMap F = (es.take i).flatMap F ++ F e := by
      rw [List.take_add_one, he, List.flatMap_append]; simp
    refine turn e x H' (LcF2 H Dl es F (i + 1)) _ _ (List.mem_of_getElem? he) s (sm_im s hi) (fun y H3 d hd s3 hy => ?_) (fun H3 hd s3 => ?_)
    · refine ⟨ys, s3 _ _ h1, by omega, same_loc (Same.trans s s3) (kl_upd (s3 _ _ h1)) hD, ys ++ [y], upd_same, ?_⟩
      have kl := kl_upd (ys := ys ++ [y]) (s3 _ _ h1)
      rw [e1, hd]
      exact ImL.append (kl_iml kl (sm_iml s3 h2)) (by simp only [ImL]; exact ⟨kl_im kl hy, trivial⟩)
    · refine ⟨s.trans s3, ys, s3 _ _ h1, ?_⟩
      rw [e1, hd, List.append_nil]
      exact sm_iml s3 h2
  · obtain ⟨s, ys, h1, h2⟩ := p
    rw [List.take_of_length_le (by rw [hl.length]; exact Nat.le_refl _)] at h2
    exact done Dl H' ys hD s h1 h2
end
/-! ### pairs among things -/
def pth (p : Nat × Nat) : Th := .tup [.int (p.1 : Nat), .int (p.2 : Nat)]
theorem pth_inj {p q : Nat × Nat} (h : pth p = pth q) : p = q := by
  obtain ⟨a, b⟩ := p
  obtain ⟨c, d⟩ := q
  simp only [pth, Th.tup.injEq, List.cons.injEq, Th.int.injEq, and_true] at h
  obtain ⟨h1, h2⟩ := h
  have : a = c := by omega
  have : b = d := by omega
  simp_all
theorem pths_inj : ∀ {ps qs : List (Nat × Nat)}, ps.map pth = qs.map pth → ps = qs
  | [], [], _ => rfl
  | p :: ps, q :: qs, h => by
    simp only [List.map_cons, List.cons.injEq] at h
    rw [pth_inj h.1, pths_inj h.2]
  | [], _ :: _, h => by simp at h
  | _ :: _, [], h => by simp at h
/-- a pair of people as data (the same as pd) -/
def pd0 (p : Nat × Nat) : PyData := .tuple [.int (p.1 : Nat), .int (p.2 : Nat)]
theorem thOf_pd (p : Nat × Nat) (q : PyData) (h : q = .tuple [.int (p.1 : Nat), .int (p.2 : Nat)]) : thOf q = pth p := by subst h; rfl
def Th.blw (n : Int) : Th → Bool
  | .int i => decide (0 ≤ i ∧ i < n)
  | _ => false
def Th.two (n m : Int) : Th → Bool
  | .tup [x, y] => x.blw n && y.blw m
  | _ => false
theorem blw_iff {d : Th} {n : Nat} : d.blw n = true ↔ ∃ i : Nat, d = .int i ∧ i < n := by
  cases d with
  | int i =>
    simp only [Th.blw, decide_eq_true_eq, Th.int.injEq]
    constructor
    · rintro ⟨h1, h2⟩
      exact ⟨i.toNat, by omega, by omega⟩
    · rintro ⟨k, h1, h2⟩
      omega
  | bl b => simp [Th.blw]
  | tup l => simp [Th.blw]
  | oth => simp [Th.blw]
theorem two_iff {d : Th} {n m : Nat} : d.two n m = true ↔ ∃ p : Nat × Nat, d = pth p ∧ p.1 < n ∧ p.2 < m := by
  constructor
  · intro h
    match d, h with
    | .tup [x, y], h =>
      simp only [Th.two, Bool.and_eq_true] at h
      obtain ⟨i, rfl, hi⟩ := blw_iff.mp h.1
      obtain ⟨j, rfl, hj⟩ := blw_iff.mp h.2
      exact ⟨(i, j), rfl, hi, hj⟩
  · rintro ⟨p, rfl, h1, h2⟩
    simp only [pth, Th.two, Bool.and_eq_true]
    exact ⟨blw_iff.mpr ⟨_, rfl, h1⟩, blw_iff.mpr ⟨_, rfl, h2⟩⟩
def Th.small (d : Th) : Prop := ∀ l, d = .tup l → l.length ≤ 1000
def IsRow (s : Sta) (d : Th) : Prop := ∃ ps, d = .tup (ps.map pth) ∧ rowR s ps
def IsWay (s : Sta) (d : Th) : Prop := ∃ ps, d = .tup (ps.map pth) ∧ rowR s ps ∧ ∀ q ∈ (runR s ps).1, q = 0
theorem th_cases (d : Th) : (∃ l, d = .tup l) ∨ (d.isTup = false ∧ ∀ l, d ≠ .tup l) := by
  cases d with
  | tup l => exact .inl ⟨l, rfl⟩
  | int i => exact .inr ⟨rfl, fun l h => by cases h⟩
  | bl i => exact .inr ⟨rfl, fun l h => by cases h⟩
  | oth => exact .inr ⟨rfl, fun l h => by cases h⟩
theorem ThR.pd {P : Addr → Prop} {H : Hp} {v : V} {p : Nat × Nat} (h : ThR P H v (pth p)) : ∃ a, v = .ref a ∧ H a = some (.tup [.int (p.1 : Nat), .int (p.2 : Nat)]) := by
  obtain ⟨a, vs, rfl, ha, hl⟩ := h.tup_at
  match vs, hl, ha with
  | [x, y], hl, ha =>
    simp only [ThL, ThR] at hl
    obtain ⟨rfl, rfl, _⟩ := hl
    exact ⟨a, rfl, ha⟩
theorem not_row {s : Sta} {l0 : List Th} {ps : List (Nat × Nat)} {i : Nat} {e : Th} (htk : l0.take i = ps.map pth) (he : l0[i]? = some e) (hno : ¬ ∃ p, e = pth p ∧ canR (runR s ps) p) : ¬ IsRow s (.tup l0) := by
  rintro ⟨ps', e', r'⟩
  have e1 : l0 = ps'.map pth := by injection e'
  have e2 : ps'.take i = ps := by
    refine pths_inj ?_
    rw [List.map_take, ← e1, htk]
  rw [e1, List.getElem?_map] at he
  cases e3 : ps'[i]? with
  | none => rw [e3] at he; cases he
  | some p =>
    rw [e3] at he
    have e4 : pth p = e := by simpa using he
    refine hno ⟨p, e4.symm, ?_⟩
    have := r'
    rw [← List.take_append_drop (i + 1) ps', rowR_append, List.take_add_one, e3, Option.toList_some, e2, rowR_append] at this
    exact this.1.2.1
theorem IsWay.row {s : Sta} {d : Th} (h : IsWay s d) : IsRow s d := by
  obtain ⟨ps, e, r, _⟩ := h
  exact ⟨ps, e, r⟩
/-- the things of a list of values that a menu holds -/
theorem th_non {P : Addr → Prop} {H : Hp} : ThR P H .non .oth := by simp [ThR]
theorem th_str {P : Addr → Prop} {H : Hp} {x : Str} : ThR P H (.str x) .oth := by simp [ThR]
theorem th_bl {P : Addr → Prop} {H : Hp} {b : Bool} : ThR P H (.bl b) (.bl b) := by simp [ThR]
theorem th_int {P : Addr → Prop} {H : Hp} {b : Int} : ThR P H (.int b) (.int b) := by simp [ThR]
theorem th_lst {P : Addr → Prop} {H : Hp} {a : Addr} {xs : List V} (h : H a = some (.lst xs)) (p : P a) : ThR P H (.ref a) .oth := by
  simp only [ThR]; exact .inr (.inr (.inl ⟨a, xs, rfl, p, h⟩))
theorem th_dK {P : Addr → Prop} {H : Hp} {a : Addr} {xs : List (Key × V)} (h : H a = some (.dK xs)) (p : P a) : ThR P H (.ref a) .oth := by
  simp only [ThR]; exact .inr (.inr (.inr ⟨a, xs, rfl, p, h⟩))
theorem th_t0 {P : Addr → Prop} {H : Hp} {a : Addr} (h : H a = some (.tup [])) : ThR P H (.ref a) (.tup []) := ThR.tup_of h (by simp [ThL])
theorem th_t1 {P : Addr → Prop} {H : Hp} {a : Addr} {x : V} {d : Th} (h : H a = some (.tup [x])) (hx : ThR P H x d) : ThR P H (.ref a) (.tup [d]) := ThR.tup_of h (by simp only [ThL]; exact ⟨hx, trivial⟩)
theorem th_t2 {P : Addr → Prop} {H : Hp} {a : Addr} {x y : V} {d e : Th} (h : H a = some (.tup [x, y])) (hx : ThR P H x d) (hy : ThR P H y e) : ThR P H (.ref a) (.tup [d, e]) := ThR.tup_of h (by simp only [ThL]; exact ⟨hx, hy, trivial⟩)
theorem th_t3 {P : Addr → Prop} {H : Hp} {a : Addr} {x y z : V} {d e f : Th} (h : H a = some (.tup [x, y, z])) (hx : ThR P H x d) (hy : ThR P H y e) (hz : ThR P H z f) : ThR P H (.ref a) (.tup [d, e, f]) := ThR.tup_of h (by simp only [ThL]; exact ⟨hx, hy, hz, trivial⟩)
def Th.Sm : Th → Prop
  | .tup l => l.length ≤ 1000
  | _ => True
theorem Th.Sm.small {d : Th} (h : d.Sm) : d.small := fun l e => by subst e; exact h
/-- a small thing -/
def Thing (H : Hp) (v : V) : Prop := ∃ d, ThR (fun _ => True) H v d ∧ d.Sm
theorem Thing.same {H H' : Hp} {v : V} (s : Same H H') (h : Thing H v) : Thing H' v := by
  obtain ⟨d, h1, h2⟩ := h
  exact ⟨d, sm_th s h1, h2⟩
theorem Thing.kl {m : Addr} {H H' : Hp} {v : V} (s : KL m H H') (h : Thing H v) : Thing H' v := by
  obtain ⟨d, h1, h2⟩ := h
  exact ⟨d, kl_th s h1, h2⟩
theorem all_get {p : V → Prop} : ∀ {xs : List V} {i : Nat} {v : V}, (∀ x ∈ xs, p x) → xs[i]? = some v → p v := fun h e => h _ (List.mem_of_getElem? e)
theorem atI_lt {xs : List V} {i : Int} (h0 : 0 ≤ i) (h1 : i < (xs.length : Nat)) : ∃ v ∈ xs, atI xs i = some v := by
  obtain ⟨v, e1, e2⟩ := atI_i h0 h1
  exact ⟨v, List.mem_of_getElem? e1, e2⟩
theorem len_two {α : Type} {l : List α} (h : l.length = 2) : ∃ a b, l = [a, b] := by
  match l, h with
  | [a, b], _ => exact ⟨a, b, rfl⟩
theorem len_three {α : Type} {l : List α} (h : l.length = 3) : ∃ a b c, l = [a, b, c] := by
  match l, h with
  | [a, b, c], _ => exact ⟨a, b, c, rfl⟩
theorem i_notB {H : Hp} {Q : VK} {a b : Bool} (q : Q (.bl (!decide (a = b))) H) : rNotB (.bl a) (.bl b) H Q := ⟨a, b, rfl, rfl, q⟩
theorem i_isB {H : Hp} {Q : VK} {a b : Bool} (q : Q (.bl (decide (a = b))) H) : rIsB (.bl a) (.bl b) H Q := ⟨a, b, rfl, rfl, q⟩
theorem thAll_pd (ps : List (Nat × Nat)) : thAll (ps.map pd0) = ps.map pth := by
  rw [thAll_map, List.map_map]; rfl
theorem ite_ndT {α : Type} {x : α} {i : Decidable (x = x)} {A B : Prop} (h : B) : if (!decide (x = x)) = true then A else B := by
  rw [if_neg (by simp)]; exact h
theorem ite_dT {α : Type} {x : α} {i : Decidable (x = x)} {A B : Prop} (h : A) : if decide (x = x) = true then A else B := by
  rw [if_pos (by simp)]; exact h
theorem im_bb {H : Hp} {a : Addr} {x y : Bool} (h : H a = some (.tup [.bl x, .bl y])) : Im H (.ref a) (.tuple [.bool x, .bool y]) := Im.tup h (by simp [ImL, Im])
end QW

namespace L2
open PySem PySem.Spec PyProof.Rows
/-! ### an exception without fields: made by an own __init__ that keeps nothing -/
section
variable {X : Cx}
theorem mk_endN0 {pins : List (Addr × Obj)} {σ : St} {H1 H2 : Hp} {hp hp2 h2 : Heap} {g1 g2 : Array GenState} {d1 d2 : Drawn} {t1 t2 : Nat} {os1 os2 : OsState} {a C : Addr} (I1 : Inv X pins σ H1 ⟨hp, g1, d1, t1, os1⟩)
    (ha : hp.objs.size ≤ a) (k : ∀ b o, hp.get? b = some o → hp2.get? b = some o) (un : Un (frs X.stack) [] (upd H1 a (exo a C none)) H2 hp2 h2) (hok : HOk X.prog X.w H2 h2) (ho : os2 = os1) (hb : AllBare g2)
    (ea : H2 a = some (exo a C none)) :
    ∃ (t0 : Addr) (G : Heap), Inv X pins σ (del H2 a) ⟨G, g2, d2, t2, os2⟩ ∧ (∀ b o, G.get? b = some o → h2.get? b = some o) ∧ G.get? a = none ∧
      h2.get? a = some ({ cls := .ref C, dict := none, data := .fields #[.ref t0, .none, .none, .none, .bool false, .none] } : Obj) ∧ (del H2 a) a = none := by
  obtain ⟨t0, hoe⟩ := exo_at hok ea
  have hn : H1 a = none := I1.hok.fresh ha
  obtain ⟨G, g1', g2'⟩ := restrict h2 fun b => decide (b ≠ a)
  have gk : ∀ b, b ≠ a → G.get? b = h2.get? b := fun b hb => g1' b (decide_eq_true hb)
  have ge : G.get? a = none := g2' a (by simp)
  have nha : ∀ {b : Addr} {o : Obj}, hp.get? b = some o → b ≠ a := fun {b o} z => Nat.ne_of_lt (Nat.lt_of_lt_of_le (Heap.lt_size z) ha)
  have up : ∀ {b : Addr}, b ≠ a → H1 b = none → upd H1 a (exo a C none) b = none := fun {b} hb n => by rw [upd_ne hb]; exact n
  have U : Un (frs X.stack) [] H1 (del H2 a) hp G := {
    keep := fun b o z n hf hx => by
      rw [gk b (nha z)]
      exact un.keep b o (k b o z) (up (nha z) n) hf hx
    slot := fun b o z n hf hx => by
      rw [gk b (nha z)]
      exact un.slot b o (k b o z) (up (nha z) n) hf hx
    free := fun b o z n hx => by
      rw [del_ne (nha z)]
      exact un.free b o (k b o z) (up (nha z) n) hx
    there := fun b o z hx => by
      rw [gk b (nha z)]
      exact un.there b o (k b o z) hx
    tups := fun b xs z => by
      rw [del_ne (ne_of_none z hn)]
      exact un.tups b xs (by rw [upd_ne (ne_of_none z hn)]; exact z)
    frzs := fun b o v z => by
      rw [del_ne (ne_of_none z hn)]
      exact un.frzs b o v (by rw [upd_ne (ne_of_none z hn)]; exact z)
    tbls := fun b ps z => by
      rw [del_ne (ne_of_none z hn)]
      exact un.tbls b ps (by rw [upd_ne (ne_of_none z hn)]; exact z) }
  have hok3 : HOk X.prog X.w (del H2 a) G := fun b o z => by
    have hba : b ≠ a := fun e => by
      rw [e, del_same] at z
      cases z
    rw [del_ne hba] at z
    have noa : ∀ {c : Addr}, H2 c = some (.own b) → c ≠ a := fun {c} hc => at_ne ea hc exo_own
    exact (hok b o z).stay (fun c v hc y => by
        have hca : c ≠ a := by
          rcases hc with hc | hc
          · rw [hc]
            exact hba
          · exact noa hc
        rw [gk c hca]
        exact y)
      (fun c hc => by rw [del_ne (noa hc)]; exact hc) (fun c xs hc => by rw [del_ne (at_ne ea hc exo_tup)]; exact hc)
  have J : Inv X pins σ (del H2 a) ⟨G, g2, d2, t2, os2⟩ := I1.call' (ch := []) ho U hok3 hb (fun b z => absurd z (by simp))
  refine ⟨t0, G, J, fun b o z => ?_, ge, hoe, del_same⟩
  by_cases hba : b = a
  · rw [hba, ge] at z
    cases z
  · exact (gk b hba).symm.trans z
def tMkN (C : Addr) (sp : Sp) : St → Hp → XK → Prop := fun σ H Q => ∀ a, H a = none → sp [.ref a] (upd H a (exo a C none)) (fun v H2 => v = .non ∧ H2 a = some (exo a C none) ∧ Q (.ref C) none (del H2 a)) (fun _ _ _ => False)
theorem pmk_oex0 {CX : CXT} {x : Str} {C fI : Addr} {k : Nat} {fd : FuncData} {ps : List Str} {sp : Sp} {p pos : Pos} (T : OexC X.K C) (iC : PySem.W.findIn X.K (.ref C) "__init__" = some (some (.ref fI))) (tI : PySem.W.typeIn X.K (.ref fI) = some (.type "function"))
    (F1 : FnOk X.prog X.w X.K X.mg X.base CX k fI fd ps sp) (hr : Room (k + 1) X.A) (hb : Binds X.K fd ps []) (hx : Passes CX X (fun _ _ _ => False)) (hg : Gl X x) (hm : X.mg x = some (.ref C))
    (hdb : (x == ("__debug__" : Str)) = false := by decide) :
    PMk X (.Call (.Name x p) [] [] pos) (tMkN C sp) := by
  intro pins s σ H1 Q I1 q1
  obtain ⟨nm, q, N, bs, bm, sn, sub, ab, col, dd, k0, k1, k2, k3, k5, hC, hbm⟩ := T.cls
  refine wpAny_Call_Name_kw (ld_glob I1 hg hm ?_ hdb)
  refine PySem.W.callWith_K0 I1.kIn T.kC ?_
  show wpAny _ _ (call (.ref C) []) _ _ _
  have I2' := I1.tok
  obtain ⟨hp, g, dr, tk, os⟩ := s
  have hsz : hp.objs.size ≤ hp.objs.size + 1 := Nat.le_succ _
  have hn : H1 (hp.objs.size + 1) = none := I1.hok.fresh hsz
  have hq := q1 (hp.objs.size + 1) hn
  have kk : ∀ b o, hp.get? b = some o → ((hp.push (PySem.W.kdv_tup [])).push (PySem.HandSPX.excO C hp.objs.size)).get? b = some o := fun b o e => Heap.get?_push_of_some _ (Heap.get?_push_of_some _ e)
  have hget : ((hp.push (PySem.W.kdv_tup [])).push (PySem.HandSPX.excO C hp.objs.size)).get? (hp.objs.size + 1) = some (PySem.HandSPX.excO C hp.objs.size) := by heap_get
  have I2 : Inv X pins σ (upd H1 (hp.objs.size + 1) (exo (hp.objs.size + 1) C none)) ⟨(hp.push (PySem.W.kdv_tup [])).push (PySem.HandSPX.excO C hp.objs.size), g, dr, tk, os⟩ :=
    I1.laid (t' := tk) (a := hp.objs.size + 1) (o := exo (hp.objs.size + 1) C none) (h' := (hp.push (PySem.W.kdv_tup [])).push (PySem.HandSPX.excO C hp.objs.size)) kk hsz (exo_ok hget)
  have r2 : Vals [V.ref (hp.objs.size + 1)] [Value.ref (hp.objs.size + 1)] := .cons rfl .nil
  have hl : [Value.ref (hp.objs.size + 1)].length = ps.length := by
    have e := r2.length
    rw [F1.len _ _ _ _ hq] at e
    exact e.symm
  have hus : ([] : List Value).length ≤ sizeLine := Nat.zero_le _
  refine wpAny_call (PySem.HandSPX.call_own F.excBase_ValueError (fun Y => PySem.HandSPX.refsVE_contains Y bm hbm) (I1.kIn _ _ hC) (PySem.W.looks_findIn I1.kIn iC) (fun self => PySem.W.bind_fn I1.kIn self tI) hus
    (codeAny_mono (F1.run _ X.stack _ _ ⟨Value.ref (hp.objs.size + 1) :: [], []⟩ [Value.ref (hp.objs.size + 1)] _ _ (fun _ _ _ => False) (hr.make C [] []) (I2.env0.make C [] []) (hb _ [Value.ref (hp.objs.size + 1)] I2.kIn (by rw [List.append_nil]; exact hl)) r2 hq) fun r s' hq' => ?_))
  cases r with
  | error er => exact hx pins σ _ _ er s' I2 hq'
  | ok fl =>
    cases fl with
    | ret u =>
      obtain ⟨v, H2, os2, bare2, un2, hok2, rv, ev, ea, q2⟩ := hq'
      subst ev
      obtain ⟨h2, g2, d2, t2, os'⟩ := s'
      obtain ⟨t0, G, J, kG, ge, hoe, na⟩ := mk_endN0 (d2 := d2) (t2 := t2) I1 hsz kk un2 hok2 os2 bare2 ea
      exact ⟨rv, _, _, _, ⟨G, g2, d2, t2, os'⟩, _, .ref C, none, rfl, J, kG, ge, hoe, ⟨rfl, rfl⟩, rfl, rfl, na, rfl, bare2, raises_own T.exC T.tyC, q2⟩
    | next => exact False.elim hq'
    | brk => exact False.elim hq'
    | cont => exact False.elim hq'
end
end L2
namespace QW
open PySem L2
theorem del_upd {H : Hp} {a : Addr} {o : HO} (h : H a = none) : del (upd H a o) a = H := by
  funext b
  unfold del upd
  by_cases e : b = a
  · subst e; rw [if_pos rfl, h]
  · rw [if_neg e, if_neg e]
end QW

namespace HT
open PySem PySem.Spec PyProof.Rows L2
section
variable {prog : Program} {w : World} {A : Around} {E : Value → Shared → Prop} {s : Shared}
theorem adjust_rev (n : Nat) : Builtin.Slice.sliceAdjust none none (-1) (n : Int) = ((n : Int) - 1, -1) := by
  unfold Builtin.Slice.sliceAdjust
  rfl
theorem places_rev (n : Nat) : Builtin.Slice.slicePlaces ((n : Int) - 1) (-1) (-1) = n := by
  unfold Builtin.Slice.slicePlaces
  have h1 : ¬ ((-1 : Int) > 0) := by omega
  simp only [h1, if_false]
  split
  · have : - -(1 : Int) = 1 := rfl
    rw [this, Int.ediv_one]; omega
  · omega
theorem sliceApplied_rev {sl : Addr} {vs : Value} {n : Nat} {Q : Int × Int × Nat → Shared → Prop} (hs : s.heap.IsSliceOf sl .none .none vs) (pv : IsPart vs (some (-1)))
    (h : Q ((n : Int) - 1, -1, n) s) : wpAny (model prog w) A (Builtin.Slice.sliceApplied (.ref sl) (pure (n : Int))) Q E s := by
  obtain ⟨os, hos, hcs, hds⟩ := id hs
  unfold Builtin.Slice.sliceApplied Builtin.Slice.sliceFields
  refine wpAny_bind (wpAny_bind (wpAny_field hos hds (x := .none) rfl (wpAny_bind (wpAny_field hos hds (x := .none) rfl (wpAny_bind (wpAny_field hos hds (x := vs) rfl (wpAny_pure ?_)))))))
  refine wpAny_bind (slicePart_ pv ?_)
  show wpAny _ _ (if ((-1 : Int) == 0) = true then _ else _) _ _ s
  rw [if_neg (by decide)]
  refine wpAny_bind (slicePart_none (wpAny_bind (slicePart_none (wpAny_bind (wpAny_pure ?_)))))
  show wpAny _ _ (match Builtin.Slice.sliceAdjust none none (-1) (n : Int) with | (lo, hi) => pure (lo, (-1 : Int), Builtin.Slice.slicePlaces lo hi (-1))) _ _ s
  rw [adjust_rev n]
  show wpAny _ _ (pure ((n : Int) - 1, (-1 : Int), Builtin.Slice.slicePlaces ((n : Int) - 1) (-1) (-1))) _ _ s
  rw [places_rev]
  exact wpAny_pure h
theorem fm_congr {α β : Type} {f g : α → Option β} : ∀ {l : List α}, (∀ a ∈ l, f a = g a) → l.filterMap f = l.filterMap g
  | [], _ => rfl
  | a :: l, h => by
    rw [List.filterMap_cons, List.filterMap_cons, h a List.mem_cons_self, fm_congr fun b hb => h b (List.mem_cons_of_mem _ hb)]
theorem pick_rev (xs : Array Value) : ((List.range xs.size).filterMap fun (m : Nat) => xs[(((xs.size : Int) - 1) + (m : Int) * -1).toNat]?).toArray = xs.toList.reverse.toArray := by
  congr 1
  have e : (List.range xs.size).filterMap (fun (m : Nat) => xs[(((xs.size : Int) - 1) + (m : Int) * -1).toNat]?) = (List.range xs.size).filterMap (fun m => xs.toList.reverse[m]?) := by
    refine fm_congr fun m hm => ?_
    have hm' := List.mem_range.mp hm
    have e1 : (((xs.size : Int) - 1) + (m : Int) * -1).toNat = xs.size - 1 - m := by omega
    rw [e1, List.getElem?_reverse (by simpa using hm')]
    simp
  rw [e]
  have : ∀ l : List Value, (List.range l.length).filterMap (fun m => l[m]?) = l := by
    intro l
    induction l with
    | nil => rfl
    | cons a l ih =>
      rw [List.length_cons, List.range_succ_eq_map, List.filterMap_cons]
      simp only [List.getElem?_cons_zero, List.filterMap_map]
      have : ((fun m => (a :: l)[m]?) ∘ Nat.succ) = fun m => l[m]? := by funext m; simp
      rw [this, ih]
  have h2 := this xs.toList.reverse
  rw [List.length_reverse, Array.length_toList] at h2
  exact h2
theorem getItem_tuple_rev {t sl : Addr} {items : Array Value} {vs : Value} {Q : Value → Shared → Prop} (ht : IsTup s.heap t items) (hs : s.heap.IsSliceOf sl .none .none vs) (pv : IsPart vs (some (-1)))
    (h : Q (.ref s.heap.objs.size) { s with heap := s.heap.push { cls := .type "tuple", data := .seq items.toList.reverse.toArray } })
    (hsz : items.size ≤ sizeLine) : wpAny (model prog w) A (getItem (.ref t) (.ref sl)) Q E s := by
  have htake : sizeOk (.seq items.toList.reverse.toArray) := by
    show items.toList.reverse.toArray.size ≤ sizeLine
    rw [List.size_toArray, List.length_reverse, Array.length_toList]
    exact hsz
  obtain ⟨os, hos, hcs, hds⟩ := id hs
  have hTs : s.TypeIs (.ref sl) "slice" := ⟨os, hos, hcs⟩
  unfold getItem
  try with_reducible refine wpAny_holding ?_
  first | refine wpAny_bind (wpAny_pure ?_) | skip
  refine wpAny_bind (wpAny_sequenceKey ht.typeIs (by decide) ?_)
  refine wpAny_bind (wpAny_callSpecial?_slot (name := Str.ofString "__getitem__") ht.typeIs PyProof.Rows.slot_tuple_getitem
    (wpAny_call_entry PyProof.Rows.slot_tuple_getitem ht.typeIs entry_tuple_getitem ?_ (args_tuple_getitem _ _)))
  show wpAny _ _ (Builtin.Tuple.tupleItemsOf (.ref t) >>= _) _ _ s
  refine wpAny_bind (tupleItemsOf_ ht ?_)
  refine wpAny_bind (wpAny_typeOf hTs ?_)
  rw [if_pos (by decide)]
  refine wpAny_bind (sliceApplied_rev hs pv ?_)
  have hno : ¬ ((((items.size : Int) - 1) == 0 && (-1 : Int) == 1 && items.size == items.size) = true) := by
    intro q
    rw [Bool.and_eq_true, Bool.and_eq_true] at q
    exact absurd q.1.2 (by decide)
  show wpAny _ _ (if (((items.size : Int) - 1) == 0 && (-1 : Int) == 1 && items.size == items.size) = true then _ else _) _ _ s
  rw [if_neg hno, pick_rev]
  first
    | exact wpAny_bind (m := Builtin.Tuple.tupleExact _) (wpAny_newObj_type (wpAny_pure ⟨_, rfl, wpAny_pure h⟩) htake)
    | exact wpAny_bind (m := Builtin.Tuple.tupleExact _) (wpAny_newObj_type (wpAny_bind (wpAny_pure (wpAny_pure ⟨_, rfl, wpAny_pure h⟩))) htake)
    | exact wpAny_bind (wpAny_bind (m := Builtin.Tuple.tupleExact _) (wpAny_newObj_type (wpAny_pure (wpAny_pure ⟨_, rfl, wpAny_pure h⟩)) htake))
    | exact wpAny_bind (wpAny_bind (m := Builtin.Tuple.tupleExact _) (wpAny_newObj_type (wpAny_pure ⟨_, rfl, wpAny_pure h⟩) htake))
end
end HT
namespace L2
open PySem PySem.Spec PyProof.Rows
section
variable {X : Cx}
/-- t[::-1] -/
def tRevT (K : PySem.W.Frag) (te : TE) : TE := fun σ H Q => te σ H fun x H1 => ∃ a xs, x = .ref a ∧ SqT K H1 a xs ∧ ∀ p, H1 p = none → Q (.ref p) (upd H1 p (.tup xs.reverse))
theorem pe_revT {e : Expr} {te : TE} {k : Nat} {p1 p2 p3 pos : Pos} (he : PE X e te) : PE X (.Subscript e (.Slice none none (some (.UnaryOp .USub (.Constant (.int 1) k p1) p2)) p3) pos) (tRevT X.K te) := by
  refine ⟨fun pins s σ H Q I h => ?_⟩
  refine Subscript_ (thn (he.run pins s σ H _ I h) fun v s1 ⟨x, H1, I1, r1, q1⟩ => ?_)
  obtain ⟨a, xs, ex, hx, q⟩ := q1
  subst ex
  cases r1
  have hst : PO X (some (.UnaryOp .USub (.Constant (.int 1) k p1) p2)) (tPart (tUn (rU fun i => .int (-i)) (tC (.int 1)))) := po_some (pe_un un_neg pe_int)
  refine wpAny_Slice (thn (po_none.run pins s1 σ H1 (fun o H2 => o = none ∧ H2 = H1) I1 ⟨rfl, rfl⟩) fun vl s2 ⟨l, H2, I2, pl, el, e2⟩ => ?_)
  subst el e2
  refine thn (po_none.run pins s2 σ H2 (fun o H3 => o = none ∧ H3 = H2) I2 ⟨rfl, rfl⟩) fun vu s3 ⟨u, H3, I3, pu, eu, e3⟩ => ?_
  subst eu e3
  refine thn (hst.run pins s3 σ H3 (fun o H4 => o = some (-1) ∧ H4 = H3) I3 ⟨1, rfl, -1, rfl, rfl, rfl⟩) fun vs s4 ⟨o, H4, I4, ps, eo, e4⟩ => ?_
  subst eo e4
  have I5 : Inv X pins σ H4 { s4 with heap := s4.heap.push { cls := .type "slice", data := .fields #[vl, vu, vs] } } := I4.kept (t' := s4.toks) fun b ob q => Heap.get?_push_of_some _ q
  obtain ⟨its, r, ht, hz⟩ := I5.tuple hx
  have hlen := r.length
  cases pl
  cases pu
  show wpAny (model X.prog X.w) X.A (subscriptTail e (.Slice none none (some (.UnaryOp .USub (.Constant (.int 1) k p1) p2)) p3) (.ref a) (.ref s4.heap.objs.size)) (EP X pins σ Q) X.xe { s4 with heap := s4.heap.push { cls := .type "slice", data := .fields #[.none, .none, vs] } }
  refine tail_any (ops := [.ref a, .ref s4.heap.objs.size]) ht.typeIs (PyProof.Rows.slot_tuple_getitem.lookup) ?_ (by with_unfolding_all rfl)
  refine HT.getItem_tuple_rev ht (Heap.IsSliceOf.new _ .none .none vs) ps ?_ (by rw [List.size_toArray]; omega)
  refine ⟨.ref _, _, I5.laid (t' := s4.toks) (o := .tup xs.reverse) (fun b ob q => Heap.get?_push_of_some _ q) (Nat.le_refl _) ?_, rfl, q _ (I5.hok.fresh (Nat.le_refl _))⟩
  exact ⟨by rw [List.length_reverse]; exact hz, _, r.reverse, IsTup.new _ _⟩
end
end L2
namespace QW
open PySem L2
/-! ### raising and trying -/
def tRz (t : St → Hp → XK → Prop) (W : WX) : TS := fun _ σ H => t σ H fun cls d H' => W cls d σ H'
theorem ps_rz {X : Cx} {W : WX} {e : Expr} {t : St → Hp → XK → Prop} {pos : Pos} (hc : X.calm = true) (tk : Takes X W) (he : PMk X e t) : PS X (.Raise (some e) none pos) (tRz t W) := ps_raise hc tk he
theorem i_rz {t : St → Hp → XK → Prop} {W : WX} {D : Ends} {σ : St} {H : Hp} (h : t σ H fun cls d H' => W cls d σ H') : tRz t W D σ H := h
def tTryAs (K : PySem.W.Frag) (c : Value) (i : Nat) (ts : Addr → Value → Option Addr → TS) (tb : WX → TS) : TS := fun D σ H => tb (wAs K c i ts (fun _ _ _ _ => False) D) D σ H
def tTryMany (K : PySem.W.Frag) (l : List (Value × (Addr → Value → Option Addr → TS))) (tb : WX → TS) : TS := fun D σ H => tb (wMany K (fun _ _ _ _ => False) D l) D σ H
theorem i_tryAs {K : PySem.W.Frag} {c : Value} {i : Nat} {ts : Addr → Value → Option Addr → TS} {tb : WX → TS} {D : Ends} {σ : St} {H : Hp} (h : tb (wAs K c i ts (fun _ _ _ _ => False) D) D σ H) : tTryAs K c i ts tb D σ H := h
theorem i_tryMany {K : PySem.W.Frag} {l : List (Value × (Addr → Value → Option Addr → TS))} {tb : WX → TS} {D : Ends} {σ : St} {H : Hp} (h : tb (wMany K (fun _ _ _ _ => False) D l) D σ H) : tTryMany K l tb D σ H := h
theorem i_callS {sp : Sp} {E : St → XK} {t : TA} {σ : St} {H : Hp} {Q : VK} (h : t σ H fun vs H1 => sp vs H1 Q (E σ)) : tCallS sp E t σ H Q := h
/-- an exception that the first clause of several takes -/
theorem wMany_hit {K : PySem.W.Frag} {W : WX} {D : Ends} {c cls : Value} {ts : Addr → Value → Option Addr → TS} {r : List (Value × (Addr → Value → Option Addr → TS))} {d : Option Addr} {σ : St} {H : Hp} (he : PySem.W.exmOne K cls c = some true) (h : ∀ a, H a = none → ts a cls d D σ H) :
    wMany K W D ((c, ts) :: r) cls d σ H := ⟨true, he, fun _ => h, fun z => Bool.noConfusion z⟩
theorem wAs_hit {K : PySem.W.Frag} {W : WX} {D : Ends} {c cls : Value} {i : Nat} {ts : Addr → Value → Option Addr → TS} {d : Option Addr} {σ : St} {H : Hp} (he : PySem.W.exmOne K cls c = some true)
    (h : ∀ a, H a = none → ts a cls d { nx := fun σ' H' => D.nx (σ'.set i none) H', rt := D.rt, bk := fun σ' H' => D.bk (σ'.set i none) H', ct := fun σ' H' => D.ct (σ'.set i none) H' } (σ.set i (some (.ref a))) H) :
    wAs K c i ts W D cls d σ H := ⟨true, he, fun _ => h, fun z => Bool.noConfusion z⟩
/-- a def that may raise -/
structure OkdX (P : Program) (w : World) (K : PySem.W.Frag) (mg : Str → Option Value) (base : Heap) (k : Nat) (x : Str) (ps : List Str) (sp : Sp) : Prop where
  ex : ∃ f fd, FnOk P w K mg base (L2.CX P w) k f fd ps sp ∧ mg x = some (.ref f) ∧ PySem.W.keepIn K (.ref f) = true ∧ Binds K fd ps []
theorem DefAt.okdX {P : Program} {w : World} {K : PySem.W.Frag} {mg : Str → Option Value} {base h : Heap} {k : Nat} {x : Str} {ps : List Str} {sp : Sp} {st : Stmt} (D : DefAt K x st) (X : K.In h) (G : h.Ns mainGlobals mg) (hb : BindsBy x x st ps) (ok : ∀ f fd, Fun K x x st f fd → FnOk P w K mg base (L2.CX P w) k f fd ps sp) : OkdX P w K mg base k x ps sp := by
  obtain ⟨f, oc, od, kV, doc, pm, an, cdv, ct, osl, a, l, c, kp⟩ := D
  have F := fun_mk (st := st) l c kp
  exact ⟨⟨f, _, ok _ _ F, PySem.W.mg_of X G a, kp, F.binds hb⟩⟩
theorem pe_callDX {X : Cx} {x : Str} {p pos : Pos} {e : Expr} {es : List Expr} {t : TA} {k : Nat} {ps : List Str} {sp : Sp} {W : WX} (Dd : OkdX X.prog X.w X.K X.mg X.base k x ps sp) (hr : Room k X.A) (tk : Takes X W) (ha : PA X (e :: es) t) (hg : Gl X x := by rfl) (hdb : (x == ("__debug__" : Str)) = false := by decide)
    (he : starEach (e :: es) X.env = (false, eval e X.env) :: starEach es X.env := by rfl) (hpl : (backTo pos (starEach es X.env)).any (·.1) = false := by rfl) : PE X (.Call (.Name x p) (e :: es) [] pos) (tCallS sp (WE W) t) := by
  obtain ⟨f, fd, F, h1, h2, h3⟩ := Dd.ex
  exact pe_callS F hr hg h1 h2 h3 (fun σ => passAt tk σ) ha hdb he hpl
/-- an own exception class, its __init__ keeping sp -/
structure Okx (P : Program) (w : World) (K : PySem.W.Frag) (mg : Str → Option Value) (base : Heap) (k : Nat) (Cc : Addr) (ps : List Str) (sp : Sp) : Prop where
  ex : ∃ f fd, OexC K Cc ∧ PySem.W.findIn K (.ref Cc) "__init__" = some (some (.ref f)) ∧ PySem.W.typeIn K (.ref f) = some (.type "function") ∧ FnOk P w K mg base CX0 k f fd ps sp ∧ Binds K fd ps []
theorem MethAt.okx {P : Program} {w : World} {K : PySem.W.Frag} {mg : Str → Option Value} {base : Heap} {k : Nat} {q : Str} {ps : List Str} {sp : Sp} {st : Stmt} {Cc : Addr} (D : MethAt K Cc "__init__" q st) (T : OexC K Cc) (ht : ∀ f, PySem.W.findIn K (.ref Cc) "__init__" = some (some (.ref f)) → PySem.W.typeIn K (.ref f) = some (.type "function")) (hb : BindsBy "__init__" q st ps) (ok : ∀ f fd, Fun K "__init__" q st f fd → FnOk P w K mg base CX0 k f fd ps sp) :
    Okx P w K mg base k Cc ps sp := by
  obtain ⟨f, oc, od, kV, doc, pm, an, cdv, ct, osl, a, i, l, c, kp⟩ := D
  have F := fun_mk (st := st) l c kp
  exact ⟨⟨f, _, T, a, ht f a, ok _ _ F, F.binds hb⟩⟩
theorem pmk_x0 {X : Cx} {x : Str} {C : Addr} {k : Nat} {ps : List Str} {sp : Sp} {p pos : Pos} (D : Okx X.prog X.w X.K X.mg X.base k C ps sp) (hr : Room (k + 1) X.A) (hg : Gl X x) (hm : X.mg x = some (.ref C)) (hdb : (x == ("__debug__" : Str)) = false := by decide) :
    PMk X (.Call (.Name x p) [] [] pos) (tMkN C sp) := by
  obtain ⟨f, fd, T, h1, h2, F, b⟩ := D.ex
  exact pmk_oex0 T h1 h2 F hr b pass0 hg hm hdb
theorem pmk_x1 {X : Cx} {x : Str} {C : Addr} {k : Nat} {ps : List Str} {sp : Sp} {p pos : Pos} {e : Expr} {es : List Expr} {ta : TA} (D : Okx X.prog X.w X.K X.mg X.base k C ps sp) (hr : Room (k + 1) X.A) (hg : Gl X x) (hm : X.mg x = some (.ref C)) (ha : PA X (e :: es) ta) (hdb : (x == ("__debug__" : Str)) = false := by decide)
    (he : starEach (e :: es) X.env = (false, eval e X.env) :: starEach es X.env := by rfl) (hpl : (backTo pos (starEach es X.env)).any (·.1) = false := by rfl) :
    PMk X (.Call (.Name x p) (e :: es) [] pos) (tMkO C sp [] ta) := by
  obtain ⟨f, fd, T, h1, h2, F, b⟩ := D.ex
  exact pmk_oex T h1 h2 F hr b .nil pass0 hg hm ha hdb he hpl
/-- what is known of an own exception class that a clause names -/
structure ExcOk (K : PySem.W.Frag) (c : Addr) : Prop where
  te : PySem.W.exmOne K (.ref c) (.ref c) = some true
  xf : XfC K c
theorem exm_of {K : PySem.W.Frag} {S B : Addr} {b : Bool} (h1 : PySem.W.subIn K (.ref B) (.type "BaseException") = some true) (h2 : PySem.W.isClsIn K B = true) (h3 : PySem.W.typeIn K (.ref B) = some (.type "type")) (h4 : PySem.W.subIn K (.ref S) (.ref B) = some b) :
    PySem.W.exmOne K (.ref S) (.ref B) = some b := by
  have e1 : (PySem.W.subIn K (.ref B) (.type "BaseException") == some true) = true := by rw [h1] <;> rfl
  have e2 : ((PySem.W.clsIn K B).isSome && PySem.W.typeIn K (.ref B) == some (.type "type")) = true := by
    have h2' : (PySem.W.clsIn K B).isSome = true := h2
    rw [h2', h3] <;> rfl
  show (if (PySem.W.subIn K (.ref B) (.type "BaseException") == some true) = true then (if ((PySem.W.clsIn K B).isSome && PySem.W.typeIn K (.ref B) == some (.type "type")) = true then PySem.W.subIn K (.ref S) (.ref B) else none) else none) = some b
  rw [if_pos e1, if_pos e2]
  exact h4
theorem i_mkN {C : Addr} {sp : Sp} {σ : St} {H : Hp} {Q : XK} (hsp : ∀ a H Q E, Q .non H → sp [.ref a] H Q E) (q : Q (.ref C) none H) : tMkN C sp σ H Q :=
  fun a ha => hsp _ _ _ _ ⟨rfl, upd_same, by rw [del_upd ha]; exact q⟩
/-! ### ranges as tuples and lists -/
def RgTO (n : Int) (H : Hp) (Q : VK) : Prop := RgOk 0 n ∧ ∀ q, H q = none → Q (.ref q) (upd H q (.tup (rgV 0 n)))
def RgLO (n : Int) (H : Hp) (Q : VK) : Prop := RgOk 0 n ∧ ∀ q, H q = none → Q (.ref q) (upd H q (.lst (rgV 0 n)))
theorem i_tupRg1 {ta : TE} {σ : St} {H : Hp} {Q : VK} (h : ta σ H fun x H1 => ∃ n, x = .int n ∧ RgTO n H1 Q) : tTupRg (tRg1 ta) σ H Q := h
theorem i_lstRg1 {ta : TE} {σ : St} {H : Hp} {Q : VK} (h : ta σ H fun x H1 => ∃ n, x = .int n ∧ RgLO n H1 Q) : tLstRg (tRg1 ta) σ H Q := h
theorem rgV_nat (n : Nat) : rgV 0 ((n : Nat) : Int) = (List.range n).map fun (i : Nat) => V.int (i : Nat) := by
  unfold rgV
  rw [show ((n : Nat) : Int) - 0 = (n : Nat) by omega, Int.toNat_natCast]
  refine List.map_congr_left fun i _ => ?_
  rw [Int.zero_add]
theorem rg_tup {n : Nat} {H : Hp} {Q : V → Hp → Prop} (hn : n ≤ 1000) (q : ∀ p H', H p = none → Same H H' → H' p = some (.tup ((List.range n).map fun (i : Nat) => V.int (i : Nat))) → Q (.ref p) H') : RgTO ((n : Nat) : Int) H Q := by
  refine ⟨RgOk.of_le (by omega) (by omega) (by omega) (by omega), ?_⟩
  rw [rgV_nat]
  exact new_obj q
theorem rg_lst {n : Nat} {H : Hp} {Q : V → Hp → Prop} (hn : n ≤ 1000) (q : ∀ p H', H p = none → Same H H' → H' p = some (.lst ((List.range n).map fun (i : Nat) => V.int (i : Nat))) → Q (.ref p) H') : RgLO ((n : Nat) : Int) H Q := by
  refine ⟨RgOk.of_le (by omega) (by omega) (by omega) (by omega), ?_⟩
  rw [rgV_nat]
  exact new_obj q
/-! ### comprehensions over range(a, b) with a test -/
section
variable {K : PySem.W.Frag} {σ : St} {H : Hp} {Q : VK}
def LcR2 (g : TG) (tt : TT) (te : TE) (vs : List Nat) (σ : St) (Q : VK) (ws : List V) (H1 : Hp) : Prop := ∃ i0 j : Int, ws = [.int i0, .int j] ∧ (-(2 ^ 62) ≤ i0 ∧ i0 < 2 ^ 62 ∧ -(2 ^ 62) ≤ j ∧ j < 2 ^ 62) ∧ ∀ D, H1 D = none → ∃ W : Nat → Nat → Hp → Prop, (∃ m, W 0 m (upd H1 D (.lst []))) ∧ ∀ i m H, W i m H →
  ((Itr i0 (j - i0).toNat).stop i H ∧ Q (.ref D) H) ∨ ((Itr i0 (j - i0).toNat).go i H ∧ ∃ Nx : Hp → Prop, (∀ H', Nx H' → ∃ m', m' < m ∧ W (i + 1) m' H') ∧ ∀ x H', (Itr i0 (j - i0).toNat).yld i H x H' → g x (wipe σ vs) H' fun σ2 H2 => wipe σ2 vs = wipe σ vs ∧ tt σ2 H2 fun b H3 =>
    if b = true then te σ2 H3 fun y H4 => ∃ acc, H4 D = some (.lst acc) ∧ acc.length < sizeLine ∧ Nx (upd H4 D (.lst (acc ++ [y]))) else Nx H3)
theorem i_lcR2 {ta : TA} {te : TE} {tt : TT} {g : TG} {vs : List Nat} (h : ta σ H fun ws H1 => LcR2 g tt te vs σ Q ws H1) : tLc (iRng2 ta) g tt te vs σ H Q := h
theorem lcR2_of {k : Nat} {te : TE} {tt : TT} {vs : List Nat} {i0 j : Int} {n : Nat} (F : Nat → List PyData) (h0 : -(2 ^ 60) ≤ i0 ∧ i0 < 2 ^ 60) (hj : -(2 ^ 60) ≤ j ∧ j < 2 ^ 60) (he : (j - i0).toNat = n) (hn : n < 1000000) (hF : ∀ i, (F i).length ≤ 1)
    (turn : ∀ (i : Nat) (H1 : Hp) (N M : Hp → Prop) (NE : V → Hp → Prop), i < n → Same H H1 → (∀ y H3 d, F i = [d] → Same H1 H3 → Im H3 y d → NE y H3) → (∀ H3, F i = [] → Same H1 H3 → M H3) →
      wipe ((wipe σ vs).set k (some (.int (i0 + (i : Nat))))) vs = wipe σ vs ∧ tt ((wipe σ vs).set k (some (.int (i0 + (i : Nat))))) H1 fun b H3 => if b = true then te ((wipe σ vs).set k (some (.int (i0 + (i : Nat))))) H3 NE else M H3)
    (done : ∀ D H1 ys, H D = none → Same H H1 → H1 D = some (.lst ys) → ImL H1 ys ((List.range n).flatMap F) → Q (.ref D) H1) : LcR2 (gName k) tt te vs σ Q [.int i0, .int j] H := by
  refine ⟨_, _, rfl, ⟨by omega, by omega, by omega, by omega⟩, fun Dl hD => ?_⟩
  rw [he]
  refine lc_range (lo := i0) (n := n) (LcF H Dl F) ⟨same_upd hD, [], upd_same, by simp [ImL]⟩ (fun i H1 hi p => ?_) (fun H1 p => ?_)
  · obtain ⟨s, ys, h1, h2⟩ := p
    have hl := h2.length
    have hb := flatMap_len F hF i
    have e0 : sizeLine = 16777216 := PySem.sizeLine_eq
    refine turn i H1 (LcF H Dl F (i + 1)) _ _ hi s (fun y H3 d hd s3 hy => ?_) (fun H3 hd s3 => ?_)
    · refine ⟨ys, s3 _ _ h1, by omega, same_loc (Same.trans s s3) (kl_upd (s3 _ _ h1)) hD, ys ++ [y], upd_same, ?_⟩
      have kl := kl_upd (ys := ys ++ [y]) (s3 _ _ h1)
      rw [flatMap_range_succ, hd]
      exact ImL.append (kl_iml kl (sm_iml s3 h2)) (by simp only [ImL]; exact ⟨kl_im kl hy, trivial⟩)
    · refine ⟨s.trans s3, ys, s3 _ _ h1, ?_⟩
      rw [flatMap_range_succ, hd, List.append_nil]
      exact sm_iml s3 h2
  · obtain ⟨s, ys, h1, h2⟩ := p
    exact done Dl H1 ys hD s h1 h2
def RevTO (K : PySem.W.Frag) (x : V) (H1 : Hp) (Q : VK) : Prop := ∃ a xs, x = .ref a ∧ SqT K H1 a xs ∧ ∀ p, H1 p = none → Q (.ref p) (upd H1 p (.tup xs.reverse))
theorem i_revT {te : TE} (h : te σ H fun x H1 => RevTO K x H1 Q) : tRevT K te σ H Q := h
end
/-! ### comprehensions over things -/
section
variable {K : PySem.W.Frag} {σ : St} {H : Hp} {Q : VK} {P : Addr → Prop}
theorem lcTh_of {g : TG} {te : TE} {vs : List Nat} {a : Addr} {xs : List V} {es : List Th} (F : Th → PyData) (ha : H a = some (.tup xs)) (hl : ThL P H xs es) (hz : es.length < 1000000)
    (turn : ∀ (e : Th) (x : V) (H1 : Hp) (N : V → Hp → Prop), e ∈ es → Same H H1 → ThR P H1 x e → (∀ y H3, Same H1 H3 → Im H3 y (F e) → N y H3) → g x (wipe σ vs) H1 fun σ2 H2 => wipe σ2 vs = wipe σ vs ∧ te σ2 H2 N)
    (done : ∀ D H1 ys, H D = none → Same H H1 → H1 D = some (.lst ys) → ImL H1 ys (es.map F) → Q (.ref D) H1) : LcT K g te vs σ Q (.ref a) H := by
  have e0 : sizeLine = 16777216 := PySem.sizeLine_eq
  refine ⟨a, rfl, ⟨xs, SqT.of ha⟩, fun Dl hD => ?_⟩
  refine lc_tup (K := K) (a := a) (xs := xs) (tt := tYes) (fun i H1 => Same H H1 ∧ ∃ ys, H1 Dl = some (.lst ys) ∧ ImL H1 ys ((es.take i).map F)) ⟨same_upd hD, [], upd_same, by simp [ImL]⟩ (fun i H' _ p => SqT.of (p.1 _ _ ha)) (fun i x H' hx p => ?_) (fun H' p => ?_)
  · obtain ⟨e, he, hi⟩ := hl.get hx
    obtain ⟨s, ys, h1, h2⟩ := p
    have hy := h2.length
    rw [List.length_map, List.length_take] at hy
    have e1 : (es.take (i + 1)).map F = (es.take i).map F ++ [F e] := by
      rw [List.take_add_one, he]; simp
    refine turn e x H' _ (List.mem_of_getElem? he) s (sm_th s hi) (fun y H3 s3 hy' => ?_)
    refine ⟨ys, s3 _ _ h1, by omega, same_loc (Same.trans s s3) (kl_upd (s3 _ _ h1)) hD, ys ++ [y], upd_same, ?_⟩
    have kl := kl_upd (ys := ys ++ [y]) (s3 _ _ h1)
    rw [e1]
    exact ImL.append (kl_iml kl (sm_iml s3 h2)) (by simp only [ImL]; exact ⟨kl_im kl hy', trivial⟩)
  · obtain ⟨s, ys, h1, h2⟩ := p
    rw [List.take_of_length_le (by rw [hl.length]; exact Nat.le_refl _)] at h2
    exact done Dl H' ys hD s h1 h2
/-- how many things pass a test -/
theorem lcThT_of {g : TG} {tt : TT} {te : TE} {vs : List Nat} {a : Addr} {xs : List V} {es : List Th} (F : Th → Bool) (ha : H a = some (.tup xs)) (hl : ThL P H xs es) (hz : es.length < 1000000)
    (turn : ∀ (e : Th) (x : V) (H1 : Hp) (N M : Hp → Prop) (NE : V → Hp → Prop), e ∈ es → Same H H1 → ThR P H1 x e → (∀ y H3, F e = true → Same H1 H3 → NE y H3) → (∀ H3, F e = false → Same H1 H3 → M H3) →
      g x (wipe σ vs) H1 fun σ2 H2 => wipe σ2 vs = wipe σ vs ∧ tt σ2 H2 fun b H3 => if b = true then te σ2 H3 NE else M H3)
    (done : ∀ D H1 ys, H D = none → Same H H1 → H1 D = some (.lst ys) → ys.length = (es.filter F).length → Q (.ref D) H1) : LcTt K g tt te vs σ Q (.ref a) H := by
  have e0 : sizeLine = 16777216 := PySem.sizeLine_eq
  refine ⟨a, rfl, ⟨xs, SqT.of ha⟩, fun Dl hD => ?_⟩
  refine lc_tup (K := K) (a := a) (xs := xs) (tt := tt) (fun i H1 => Same H H1 ∧ ∃ ys, H1 Dl = some (.lst ys) ∧ ys.length = ((es.take i).filter F).length) ⟨same_upd hD, [], upd_same, by simp⟩ (fun i H' _ p => SqT.of (p.1 _ _ ha)) (fun i x H' hx p => ?_) (fun H' p => ?_)
  · obtain ⟨e, he, hi⟩ := hl.get hx
    obtain ⟨s, ys, h1, h2⟩ := p
    have hb := List.length_filter_le F (es.take i)
    rw [List.length_take] at hb
    have e1 : (es.take (i + 1)).filter F = (es.take i).filter F ++ (if F e = true then [e] else []) := by
      rw [List.take_add_one, he, List.filter_append]
      cases hF : F e <;> simp [hF]
    refine turn e x H' (fun H1 => Same H H1 ∧ ∃ ys, H1 Dl = some (.lst ys) ∧ ys.length = ((es.take (i + 1)).filter F).length) _ _ (List.mem_of_getElem? he) s (sm_th s hi) (fun y H3 hF s3 => ?_) (fun H3 hF s3 => ?_)
    · refine ⟨ys, s3 _ _ h1, by omega, same_loc (Same.trans s s3) (kl_upd (s3 _ _ h1)) hD, ys ++ [y], upd_same, ?_⟩
      rw [e1, if_pos hF, List.length_append, List.length_append, h2]; rfl
    · refine ⟨s.trans s3, ys, s3 _ _ h1, ?_⟩
      rw [e1, if_neg (by rw [hF]; simp), List.append_nil, h2]
  · obtain ⟨s, ys, h1, h2⟩ := p
    rw [List.take_of_length_le (by rw [hl.length]; exact Nat.le_refl _)] at h2
    exact done Dl H' ys hD s h1 h2
theorem lcRz_of {k : Nat} {te : TE} {tt : TT} {vs : List Nat} {j : Int} {n : Nat} (F : Nat → List PyData) (hj : j.toNat = n) (hb : -1000 ≤ j) (hn : n < 1000000) (hF : ∀ i, (F i).length ≤ 1)
    (turn : ∀ (i : Nat) (H1 : Hp) (N M : Hp → Prop) (NE : V → Hp → Prop), i < n → Same H H1 → (∀ y H3 d, F i = [d] → Same H1 H3 → Im H3 y d → NE y H3) → (∀ H3, F i = [] → Same H1 H3 → M H3) →
      wipe ((wipe σ vs).set k (some (.int (i : Nat)))) vs = wipe σ vs ∧ tt ((wipe σ vs).set k (some (.int (i : Nat)))) H1 fun b H3 => if b = true then te ((wipe σ vs).set k (some (.int (i : Nat)))) H3 NE else M H3)
    (done : ∀ D H1 ys, H D = none → Same H H1 → H1 D = some (.lst ys) → ImL H1 ys ((List.range n).flatMap F) → Q (.ref D) H1) : LcR (gName k) tt te vs σ Q [.int j] H := by
  refine ⟨_, rfl, by omega, by omega, fun Dl hD => ?_⟩
  rw [hj]
  refine lc_range (lo := 0) (n := n) (LcF H Dl F) ⟨same_upd hD, [], upd_same, by simp [ImL]⟩ (fun i H1 hi p => ?_) (fun H1 p => ?_)
  · obtain ⟨s, ys, h1, h2⟩ := p
    have hl := h2.length
    have hb := flatMap_len F hF i
    have e0 : sizeLine = 16777216 := PySem.sizeLine_eq
    have e : (0 : Int) + ((i : Nat) : Int) = (i : Nat) := by omega
    rw [e]
    refine turn i H1 (LcF H Dl F (i + 1)) _ _ hi s (fun y H3 d hd s3 hy => ?_) (fun H3 hd s3 => ?_)
    · refine ⟨ys, s3 _ _ h1, by omega, same_loc (Same.trans s s3) (kl_upd (s3 _ _ h1)) hD, ys ++ [y], upd_same, ?_⟩
      have kl := kl_upd (ys := ys ++ [y]) (s3 _ _ h1)
      rw [flatMap_range_succ, hd]
      exact ImL.append (kl_iml kl (sm_iml s3 h2)) (by simp only [ImL]; exact ⟨kl_im kl hy, trivial⟩)
    · refine ⟨s.trans s3, ys, s3 _ _ h1, ?_⟩
      rw [flatMap_range_succ, hd, List.append_nil]
      exact sm_iml s3 h2
  · obtain ⟨s, ys, h1, h2⟩ := p
    exact done Dl H1 ys hD s h1 h2
end
theorem ImL.bls {H : Hp} : ∀ {ys : List V} {bs : List Bool}, ImL H ys (bs.map PyData.bool) → ys = bs.map V.bl
  | [], [], _ => rfl
  | y :: ys, b :: bs, h => by
    simp only [List.map_cons, ImL, Im] at h
    rw [h.1, ImL.bls h.2]; rfl
  | [], _ :: _, h => by simp [ImL] at h
  | _ :: _, [], h => by simp [ImL] at h
/-! ### lots and groups -/
def ascB (ns : List Int) : Bool := (List.range (ns.length - 1)).all fun k => decide (ns.getD k 0 < ns.getD (k + 1) 0)
def thInt : Th → Int
  | .int i => i
  | _ => 0
def Th.lot (n : Int) : Th → Bool
  | .tup l => l.all (·.blw n) && ascB (l.map thInt)
  | _ => false
def Th.len : Th → Nat
  | .tup l => l.length
  | _ => 0
def nth (i : Nat) : Th := .int (i : Nat)
theorem lot_iff {d : Th} {n : Nat} : d.lot n = true ↔ ∃ xs : List Nat, d = .tup (xs.map nth) ∧ (∀ i ∈ xs, i < n) ∧ ascB (xs.map fun (i : Nat) => ((i : Nat) : Int)) = true := by
  constructor
  · intro h
    cases d with
    | tup l =>
      simp only [Th.lot, Bool.and_eq_true] at h
      obtain ⟨h1, h2⟩ := h
      have : ∃ xs : List Nat, l = xs.map nth ∧ ∀ i ∈ xs, i < n := by
        clear h2
        induction l with
        | nil => exact ⟨[], rfl, by simp⟩
        | cons a l ih =>
          rw [List.all_cons, Bool.and_eq_true] at h1
          obtain ⟨xs, e, hx⟩ := ih h1.2
          obtain ⟨i, ei, hi⟩ := blw_iff.mp h1.1
          exact ⟨i :: xs, by rw [List.map_cons, ← e, ei]; rfl, fun j hj => by
            rcases List.mem_cons.mp hj with rfl | hj
            · exact hi
            · exact hx j hj⟩
      obtain ⟨xs, rfl, hx⟩ := this
      refine ⟨xs, rfl, hx, ?_⟩
      rw [List.map_map] at h2
      exact h2
    | int i => simp [Th.lot] at h
    | bl b => simp [Th.lot] at h
    | oth => simp [Th.lot] at h
  · rintro ⟨xs, rfl, hx, ha⟩
    simp only [Th.lot, Bool.and_eq_true, List.map_map]
    refine ⟨List.all_eq_true.mpr fun d hd => ?_, ha⟩
    obtain ⟨i, hi, rfl⟩ := List.mem_map.mp hd
    exact blw_iff.mpr ⟨i, rfl, hx i hi⟩
def grpT (xs ys : List Nat) : Th := .tup [.tup (xs.map nth), .tup (ys.map nth)]
theorem nths_inj {xs ys : List Nat} (h : xs.map nth = ys.map nth) : xs = ys := by
  induction xs generalizing ys with
  | nil => cases ys <;> simp_all
  | cons x xs ih =>
    cases ys with
    | nil => simp at h
    | cons y ys =>
      simp only [List.map_cons, List.cons.injEq, nth, Th.int.injEq] at h
      rw [ih h.2]
      congr 1
      omega
theorem grpT_inj {xs ys xs' ys' : List Nat} (h : grpT xs ys = grpT xs' ys') : xs = xs' ∧ ys = ys' := by
  simp only [grpT, Th.tup.injEq, List.cons.injEq, and_true] at h
  exact ⟨nths_inj h.1, nths_inj h.2⟩
def pickR (o : List Rat) (xs : List Nat) : List Rat := xs.map fun i => o.getD i 0
structure GrpOk (o d : List Rat) (xs ys : List Nat) : Prop where
  hx : ∀ i ∈ xs, i < o.length
  hy : ∀ i ∈ ys, i < d.length
  ax : ascB (xs.map fun (i : Nat) => ((i : Nat) : Int)) = true
  ay : ascB (ys.map fun (i : Nat) => ((i : Nat) : Int)) = true
  n0 : 0 < xs.length + ys.length
def IsGrp (o d : List Rat) (th : Th) : Prop := ∃ xs ys, th = grpT xs ys ∧ GrpOk o d xs ys
def IsEven (o d : List Rat) (th : Th) : Prop := ∃ xs ys, th = grpT xs ys ∧ GrpOk o d xs ys ∧ (pickR o xs).sum = (pickR d ys).sum
theorem IsEven.grp {o d : List Rat} {th : Th} (h : IsEven o d th) : IsGrp o d th := by
  obtain ⟨xs, ys, e, g, _⟩ := h
  exact ⟨xs, ys, e, g⟩
theorem grp_of {o d : List Rat} {x y : Th} : IsGrp o d (.tup [x, y]) ↔ x.lot o.length = true ∧ y.lot d.length = true ∧ 0 < x.len + y.len := by
  constructor
  · rintro ⟨xs, ys, e, g⟩
    simp only [grpT, Th.tup.injEq, List.cons.injEq, and_true] at e
    obtain ⟨rfl, rfl⟩ := e
    refine ⟨lot_iff.mpr ⟨xs, rfl, g.hx, g.ax⟩, lot_iff.mpr ⟨ys, rfl, g.hy, g.ay⟩, ?_⟩
    simpa [Th.len] using g.n0
  · rintro ⟨h1, h2, h3⟩
    obtain ⟨xs, rfl, hx, ax⟩ := lot_iff.mp h1
    obtain ⟨ys, rfl, hy, ay⟩ := lot_iff.mp h2
    exact ⟨xs, ys, rfl, hx, hy, ax, ay, by simpa [Th.len] using h3⟩
def Th.Sm2 : Th → Prop
  | .tup l => l.length ≤ 1000 ∧ ∀ x ∈ l, x.len ≤ 1000
  | _ => True
theorem Th.Sm2.small {d : Th} (h : d.Sm2) : d.small := fun l e => by subst e; exact h.1
theorem small_len {d : Th} (h : d.len ≤ 1000) : d.small := fun l e => by subst e; exact h
def Thing2 (H : Hp) (v : V) : Prop := ∃ d, ThR (fun _ => True) H v d ∧ d.Sm2
theorem Thing2.same {H H' : Hp} {v : V} (s : Same H H') (h : Thing2 H v) : Thing2 H' v := by
  obtain ⟨d, h1, h2⟩ := h
  exact ⟨d, sm_th s h1, h2⟩
theorem Thing2.kl {m : Addr} {H H' : Hp} {v : V} (s : KL m H H') (h : Thing2 H v) : Thing2 H' v := by
  obtain ⟨d, h1, h2⟩ := h
  exact ⟨d, kl_th s h1, h2⟩
theorem ThL.ints {P : Addr → Prop} {H : Hp} : ∀ {vs : List V} {xs : List Nat}, ThL P H vs (xs.map nth) → vs = xs.map fun (i : Nat) => V.int (i : Nat)
  | [], [], _ => rfl
  | v :: vs, x :: xs, h => by
    simp only [List.map_cons, ThL, nth, ThR] at h
    rw [h.1, ThL.ints h.2]; rfl
  | [], _ :: _, h => by simp [ThL] at h
  | _ :: _, [], h => by simp [ThL] at h
theorem grp_at {P : Addr → Prop} {H : Hp} {v : V} {xs ys : List Nat} (h : ThR P H v (grpT xs ys)) : ∃ a b c, v = .ref a ∧ H a = some (.tup [.ref b, .ref c]) ∧ H b = some (.tup (xs.map fun (i : Nat) => V.int (i : Nat))) ∧ H c = some (.tup (ys.map fun (i : Nat) => V.int (i : Nat))) := by
  unfold grpT at h
  obtain ⟨a, vs, rfl, ha, hl⟩ := h.tup_at
  match vs, hl, ha with
  | [x, y], hl, ha =>
    simp only [ThL] at hl
    obtain ⟨b, xs', rfl, hb, hlb⟩ := hl.1.tup_at
    obtain ⟨c, ys', rfl, hc, hlc⟩ := hl.2.1.tup_at
    rw [hlb.ints] at hb
    rw [hlc.ints] at hc
    exact ⟨a, b, c, rfl, ha, hb, hc⟩
theorem all_notfilter {α : Type} (p : α → Bool) : ∀ l : List α, ((l.filter fun a => !p a).length = 0) ↔ l.all p = true
  | [] => by simp
  | a :: l => by
    have ih := all_notfilter p l
    cases h : p a <;> simp [h] <;> simpa using ih
theorem i_yes {σ : St} {H : Hp} {QB : Bool → Hp → Prop} (h : QB true H) : tYes σ H QB := h
theorem nogrp_len {o d : List Rat} {l : List Th} (h : l.length ≠ 2) : ¬ IsGrp o d (.tup l) := by
  rintro ⟨xs, ys, e, _⟩
  simp only [grpT, Th.tup.injEq] at e
  rw [e] at h
  exact h rfl
theorem nogrp_tup {o d : List Rat} {t : Th} (h : ∀ l, t ≠ .tup l) : ¬ IsGrp o d t := by
  rintro ⟨xs, ys, e, _⟩
  exact h _ e
theorem fls {P : Prop} (h : ¬ P) : (false = true ↔ P) := ⟨fun z => (by cases z), fun z => absurd z h⟩
theorem tru {P : Prop} (h : P) : (true = true ↔ P) := ⟨fun _ => h, fun _ => rfl⟩
theorem pick_mem {o : List Rat} {xs : List Nat} (h : ∀ i ∈ xs, i < o.length) : ∀ q ∈ pickR o xs, q ∈ o := by
  intro q hq
  obtain ⟨i, hi, rfl⟩ := List.mem_map.mp hq
  exact getD_mem (h i hi)
theorem pick_bs {o d : List Rat} {xs : List Nat} (hb : Bs (o ++ d)) (hl : xs.length ≤ 1000) (h : ∀ i ∈ xs, i < o.length) : Bs (pickR o xs) :=
  hb.sub (by unfold pickR; rw [List.length_map]; exact hl) fun q hq => List.mem_append_left _ (pick_mem h q hq)
theorem pick_bs' {o d : List Rat} {xs : List Nat} (hb : Bs (o ++ d)) (hl : xs.length ≤ 1000) (h : ∀ i ∈ xs, i < d.length) : Bs (pickR d xs) :=
  hb.sub (by unfold pickR; rw [List.length_map]; exact hl) fun q hq => List.mem_append_right _ (pick_mem h q hq)
theorem grp_small {xs ys : List Nat} (h : (grpT xs ys).Sm2) : xs.length ≤ 1000 ∧ ys.length ≤ 1000 := by
  have h1 := h.2 (.tup (xs.map nth)) (by simp)
  have h2 := h.2 (.tup (ys.map nth)) (by simp)
  simpa [Th.len] using And.intro h1 h2
def pickF (o : List Rat) : PyData → PyData
  | .int i => fr (o.getD i.toNat 0)
  | e => e
theorem pick_map (o : List Rat) (xs : List Nat) : (xs.map fun (i : Nat) => PyData.int (i : Nat)).map (pickF o) = (pickR o xs).map fr := by
  unfold pickR
  rw [List.map_map, List.map_map]
  refine List.map_congr_left fun i _ => ?_
  simp [pickF]
theorem im_nats {H : Hp} (xs : List Nat) : ImL H (xs.map fun (i : Nat) => V.int (i : Nat)) (xs.map fun (i : Nat) => PyData.int (i : Nat)) := by
  induction xs with
  | nil => simp [ImL]
  | cons x xs ih => simp only [List.map_cons, ImL, Im]; exact ⟨trivial, ih⟩
theorem ThL.rev {P : Addr → Prop} {H : Hp} : ∀ {vs : List V} {ds : List Th}, ThL P H vs ds → ThL P H vs.reverse ds.reverse
  | [], [], _ => by simp [ThL]
  | v :: vs, d :: ds, h => by
    simp only [ThL] at h
    rw [List.reverse_cons, List.reverse_cons]
    exact ThL.append (ThL.rev h.2) (by simp only [ThL]; exact ⟨h.1, trivial⟩)
  | [], _ :: _, h => by simp [ThL] at h
  | _ :: _, [], h => by simp [ThL] at h
theorem i_revTh {K : PySem.W.Frag} {H : Hp} {Q : VK} {P : Addr → Prop} {x : V} {ds : List Th} (h : ThR P H x (.tup ds)) (q : ∀ v H', Same H H' → ThR P H' v (.tup ds.reverse) → Q v H') : RevTO K x H Q := by
  obtain ⟨a, vs, rfl, ha, hl⟩ := h.tup_at
  refine ⟨a, vs, rfl, SqT.of ha, new_obj fun p H' hp s e => q _ _ s ?_⟩
  exact ThR.tup_of e ((hl.mon (Same.kp s)).rev)
end QW

namespace L2
open PySem PySem.Spec PyProof.Rows
/-! ### C(e, ..) where C's __init__ may raise, within a try -/
section
variable {X : Cx} {CX : CXT} {k : Nat} {f C : Addr} {fd : FuncData} {ps : List Str} {sp : Sp} {E : St → XK} {x : Str} {p pos : Pos} {e : Expr} {es : List Expr} {t : TA}
theorem run_makeS {pins : List (Addr × Obj)} {σ : St} {H : Hp} {s : Shared} {Q : VK} {us : List Value} {vs : List V} (M : Mk X.K C f) (F : FnOk X.prog X.w X.K X.mg X.base CX k f fd ps sp) (hr : Room (k + 1) X.A) (hb : Binds X.K fd ps [])
    (hx : PassesAt CX X σ (E σ)) (I : Inv X pins σ H s) (r : Vals vs us)
    (h : ∀ x dx, H x = none → H dx = none → dx ≠ x → sp (.ref x :: vs) (upd (upd H dx (.own x)) x (.ins C dx [])) (fun v H2 => v = .non ∧ Q (.ref x) H2) (E σ)) :
    wpAny (model X.prog X.w) X.A (call (.ref C) us) (EP X pins σ Q) X.xe s := by
  have hq := h (s.heap.objs.size + 1) s.heap.objs.size (I.hok.fresh (Nat.le_succ _)) (I.hok.fresh (Nat.le_refl _)) (Nat.ne_of_lt (Nat.lt_succ_self _))
  have I2 := Inv.made (C := C) I
  have r2 : Vals (V.ref (s.heap.objs.size + 1) :: vs) (Value.ref (s.heap.objs.size + 1) :: us) := .cons rfl r
  have hl : (Value.ref (s.heap.objs.size + 1) :: us).length = ps.length := by
    have e := r2.length
    rw [F.len _ _ _ _ hq] at e
    exact e.symm
  have b := hb _ (Value.ref (s.heap.objs.size + 1) :: us) I2.kIn (by rw [List.append_nil]; exact hl)
  rw [List.append_nil] at b
  refine wpAny_call (make_map (f := f) I.kIn M.makes M.init (beq_iff_eq.mp M.fn) (codeAny_mono (F.run _ X.stack _ _ ⟨Value.ref (s.heap.objs.size + 1) :: us, []⟩ (Value.ref (s.heap.objs.size + 1) :: us) _ _ (E σ) (hr.make C us [])
    (I2.env0.make C us []) b r2 hq) fun r s' hq' => ?_))
  cases r with
  | error e => exact hx pins _ _ e s' I2 hq'
  | ok fl =>
    cases fl with
    | ret u =>
      obtain ⟨v, H', I3, rv, ev, q3⟩ := I2.after hq'
      subst ev
      exact ⟨rv, ⟨V.ref (s.heap.objs.size + 1), H', I3, rfl, q3⟩⟩
    | next => exact False.elim hq'
    | brk => exact False.elim hq'
    | cont => exact False.elim hq'
def tMakeS (C : Addr) (sp : Sp) (E : St → XK) (t : TA) : TE := fun σ H Q => t σ H fun vs H1 => ∀ x dx, H1 x = none → H1 dx = none → dx ≠ x → sp (.ref x :: vs) (upd (upd H1 dx (.own x)) x (.ins C dx [])) (fun v H2 => v = .non ∧ Q (.ref x) H2) (E σ)
theorem pe_makeS (M : Mk X.K C f) (F : FnOk X.prog X.w X.K X.mg X.base CX k f fd ps sp) (hr : Room (k + 1) X.A) (hg : Gl X x) (hm : X.mg x = some (.ref C)) (hb : Binds X.K fd ps []) (hx : ∀ σ, PassesAt CX X σ (E σ))
    (ha : PA X (e :: es) t) (hdb : (x == ("__debug__" : Str)) = false := by decide) (he : starEach (e :: es) X.env = (false, eval e X.env) :: starEach es X.env := by rfl) (hpl : (backTo pos (starEach es X.env)).any (·.1) = false := by rfl) :
    PE X (.Call (.Name x p) (e :: es) [] pos) (tMakeS C sp E t) := by
  refine ⟨fun pins s σ H Q I h => ?_⟩
  refine wpAny_Call_Name_kw (ld_glob I hg hm ?_ hdb)
  refine PySem.W.callWith_K (h₀ := X.base) I.ok.mod.kin M.kp (thn (ha.run pos pins s σ H _ I h) fun us s1 ⟨vs, H1, I1, r, q⟩ => ⟨I1.kIn, ?_⟩) he hpl
  exact run_makeS M F hr hb (hx σ) I1 r q
end
end L2
namespace QW
open PySem L2
structure OkmX (P : Program) (w : World) (K : PySem.W.Frag) (mg : Str → Option Value) (base : Heap) (k : Nat) (x : Str) (Cc : Addr) (ps : List Str) (sp : Sp) : Prop where
  ex : ∃ f fd, Mk K Cc f ∧ FnOk P w K mg base (L2.CX P w) k f fd ps sp ∧ mg x = some (.ref Cc) ∧ Binds K fd ps []
theorem MethAt.okmX {P : Program} {w : World} {K : PySem.W.Frag} {mg : Str → Option Value} {base : Heap} {k : Nat} {x q : Str} {ps : List Str} {sp : Sp} {st : Stmt} {Cc : Addr} (D : MethAt K Cc "__init__" q st) (hm : mg x = some (.ref Cc)) (mk : PySem.W.makesIn K Cc = true) (kc : PySem.W.keepIn K (.ref Cc) = true) (hb : BindsBy "__init__" q st ps) (ok : ∀ f fd, Fun K "__init__" q st f fd → FnOk P w K mg base (L2.CX P w) k f fd ps sp) :
    OkmX P w K mg base k x Cc ps sp := by
  obtain ⟨f, oc, od, kV, doc, pm, an, cdv, ct, osl, a, i, l, c, kp⟩ := D
  have F := fun_mk (st := st) l c kp
  exact ⟨⟨f, _, ⟨mk, a, i, kc⟩, ok _ _ F, hm, F.binds hb⟩⟩
theorem pe_makeDX {X : Cx} {x : Str} {p pos : Pos} {e : Expr} {es : List Expr} {t : TA} {k : Nat} {Cc : Addr} {ps : List Str} {sp : Sp} {W : WX} (Dd : OkmX X.prog X.w X.K X.mg X.base k x Cc ps sp) (hr : Room (k + 1) X.A) (tk : Takes X W) (ha : PA X (e :: es) t) (hg : Gl X x := by rfl) (hdb : (x == ("__debug__" : Str)) = false := by decide)
    (he : starEach (e :: es) X.env = (false, eval e X.env) :: starEach es X.env := by rfl) (hpl : (backTo pos (starEach es X.env)).any (·.1) = false := by rfl) : PE X (.Call (.Name x p) (e :: es) [] pos) (tMakeS Cc sp (WE W) t) := by
  obtain ⟨f, fd, M, F, h1, h3⟩ := Dd.ex
  exact pe_makeS M F hr hg h1 h3 (fun σ => passAt tk σ) ha hdb he hpl
def MakeSO (Cc : Addr) (sp : Sp) (vs : List V) (H1 : Hp) (Q : VK) (E : XK) : Prop := ∀ x dx, H1 x = none → H1 dx = none → dx ≠ x → sp (.ref x :: vs) (upd (upd H1 dx (.own x)) x (.ins Cc dx [])) (fun v H2 => v = .non ∧ Q (.ref x) H2) E
theorem i_makeS {Cc : Addr} {sp : Sp} {t : TA} {E : St → XK} {σ : St} {H : Hp} {Q : VK} (h : t σ H fun vs H1 => MakeSO Cc sp vs H1 Q (E σ)) : tMakeS Cc sp E t σ H Q := h
theorem makeSO_of {Cc : Addr} {sp : Sp} {vs : List V} {E : XK} {H : Hp} {Q : VK} (h : ∀ x dx H', H x = none → Same H H' → H' x = some (.ins Cc dx []) → sp (.ref x :: vs) H' (fun v H2 => v = .non ∧ Q (.ref x) H2) E) : MakeSO Cc sp vs H Q E :=
  fun x dx nx nd ne => h x dx _ nx (fun b u hb => by rw [upd_ne (ne_of_none hb nx), upd_ne (ne_of_none hb nd)]; exact hb) upd_same
/-! ### an own exception with a field -/
structure ExcF (K : PySem.W.Frag) (c : Addr) (f : Str) : Prop where
  ox : OexC K c
  no : PySem.W.findIn K (.ref c) f = some none
  te : PySem.W.exmOne K (.ref c) (.ref c) = some true
  xf : XfC K c
def MkOO (C : Addr) (sp : Sp) (vs : List V) (H1 : Hp) (Q : XK) : Prop := vs.length ≤ 1000 ∧ ∀ a, H1 a = none → sp (.ref a :: (vs ++ [])) (upd H1 a (exo a C none))
  (fun v H2 => v = .non ∧ ∃ (d : Addr) (fs : List (Str × V)), H2 a = some (exo a C (some d)) ∧ H2 d = some (exd d fs) ∧ H1 d = none ∧ Q (.ref C) (some d) (upd (del H2 a) d (.xd fs))) (fun _ _ _ => False)
theorem i_mkO {C : Addr} {sp : Sp} {ta : TA} {σ : St} {H : Hp} {Q : XK} (h : ta σ H fun vs H1 => MkOO C sp vs H1 Q) : tMkO C sp [] ta σ H Q := h
/-- an __init__ that keeps its one argument under f -/
def spKeep (K : PySem.W.Frag) (c : Addr) (f : Str) : Sp := fun vs H Q _ => ∃ (a : Addr) (v : V), vs = [.ref a, v] ∧ OexC K c ∧ PySem.W.findIn K (.ref c) f = some none ∧ H a = some (exo a c none) ∧ ∀ dx, H dx = none → dx ≠ a → Q .non (upd (upd H dx (exd dx [(f, v)])) a (exo a c (some dx)))
theorem mkKeep {K : PySem.W.Frag} {c : Addr} {f : Str} {v : V} {H : Hp} {Q : XK} (TF : ExcF K c f) (q : ∀ d H', Same H H' → H' d = some (.xd [(f, v)]) → Q (.ref c) (some d) H') : MkOO c (spKeep K c f) [v] H Q := by
  refine ⟨by simp, fun a ha => ⟨a, v, rfl, TF.ox, TF.no, upd_same, fun dx hdx hne => ⟨rfl, dx, [(f, v)], upd_same, ?_, ?_, q dx _ (fun b o e => ?_) upd_same⟩⟩⟩
  · rw [upd_ne hne]; exact upd_same
  · rw [upd_ne hne] at hdx; exact hdx
  · have h1 : H dx = none := by rw [upd_ne hne] at hdx; exact hdx
    have n1 := ne_of_none e ha
    have n2 := ne_of_none e h1
    rw [upd_ne n2, del_ne n1, upd_ne n1, upd_ne n2, upd_ne n1]
    exact e
def OstO (K : PySem.W.Frag) (f : Str) (D : Ends) (σ : St) (y x : V) (H2 : Hp) : Prop := ∃ a C : Addr, x = .ref a ∧ OexC K C ∧ PySem.W.findIn K (.ref C) f = some none ∧
  ((H2 a = some (exo a C none) ∧ ∀ dx, H2 dx = none → dx ≠ a → D.nx σ (upd (upd H2 dx (exd dx [(f, y)])) a (exo a C (some dx)))) ∨
    ∃ (dx : Addr) (fs : List (Str × V)), H2 a = some (exo a C (some dx)) ∧ H2 dx = some (exd dx fs) ∧ fs.length ≤ 900 ∧ D.nx σ (upd H2 dx (exd dx ((f, y) :: fs))))
theorem i_ost {K : PySem.W.Frag} {f : Str} {to te : TE} {D : Ends} {σ : St} {H : Hp} (h : te σ H fun y H1 => to σ H1 fun x H2 => OstO K f D σ y x H2) : tOst K f to te D σ H := h
theorem i_xf {a : Addr} {cls : Value} {d : Option Addr} {C : Addr} {f : Str} {te : TE} {σ : St} {H : Hp} {Q : VK} (h : te σ H fun x H1 => x = .ref a ∧ cls = .ref C ∧ ∃ (dd : Addr) (fs : List (Str × V)) (v : V), d = some dd ∧ H1 dd = some (.xd fs) ∧ fs.lookup f = some v ∧ Q v H1) : tXf a cls d C f te σ H Q := h
/-! ### tuples of things repeated, sliced -/
theorem ThL.rep {P : Addr → Prop} {H : Hp} {vs : List V} {ds : List Th} (h : ThL P H vs ds) : ∀ n : Nat, ThL P H (List.replicate n vs).flatten (List.replicate n ds).flatten
  | 0 => by simp [ThL]
  | n + 1 => by
    rw [List.replicate_succ, List.replicate_succ, List.flatten_cons, List.flatten_cons]
    exact ThL.append h (ThL.rep h n)
theorem i_repTh {K : PySem.W.Frag} {H : Hp} {Q : VK} {P : Addr → Prop} {x : V} {k : Int} {ds : List Th} (h : ThR P H x (.tup ds)) (hn : ds ≠ []) (h1 : 2 ≤ k) (h2 : k ≤ 1000) (hz : ds.length ≤ 1000) (q : ∀ v H', Same H H' → ThR P H' v (.tup (List.replicate k.toNat ds).flatten) → Q v H') : rRepA K x (.int k) H Q := by
  obtain ⟨a, xs, rfl, ha, hl⟩ := h.tup_at
  have e := hl.length
  refine .inr ⟨a, k, xs, rfl, rfl, SqT.of ha, fun z => hn (List.eq_nil_of_length_eq_zero (by rw [← e, z]; rfl)), by omega, h2, by omega, new_obj fun p H' hp s ee => q _ _ s (ThR.tup_of ee ((hl.mon (Same.kp s)).rep _))⟩
/-- a slice, its items among the tuple's -/
theorem i_slTh' {K : PySem.W.Frag} {H : Hp} {Q : VK} {P : Addr → Prop} {x : V} {ds : List Th} {lo hi : Option Int} (h : ThR P H x (.tup ds))
    (q : ∀ v H' es, Same H H' → es.length ≤ ds.length → (∀ e ∈ es, e ∈ ds) → ThR P H' v (.tup es) → Q v H') : rSlA K x lo hi H Q := by
  have h' := h
  simp only [ThR] at h'
  obtain ⟨a, xs, rfl, ha, la⟩ := h'
  refine ⟨a, xs, rfl, SqT.of ha, fun _ => q _ _ ds (Same.refl _) (Nat.le_refl _) (fun _ h => h) h, fun _ => new_obj fun p H' hp s e => ?_⟩
  refine q _ _ ((ds.drop (HT.sIx xs.length 0 lo)).take (HT.sIx xs.length xs.length hi - HT.sIx xs.length 0 lo)) s ?_ (fun e he => List.mem_of_mem_drop (List.mem_of_mem_take he)) ?_
  · rw [List.length_take, List.length_drop]; omega
  · simp only [ThR]
    refine ⟨p, _, rfl, e, ?_⟩
    unfold cutV
    exact ThL.take _ (ThL.drop _ (la.mon (Same.kp s)))
theorem cut_le101 {xs : List V} {ds : List Th} (h : xs.length = ds.length) : ((ds.drop (HT.sIx xs.length 0 none)).take (HT.sIx xs.length xs.length (some 101) - HT.sIx xs.length 0 none)).length ≤ 101 := by
  rw [List.length_take, List.length_drop]
  have e : HT.sIx xs.length xs.length (some ((101 : Nat) : Int)) = min 101 xs.length := HT.sIx_nat _ _ _
  have e' : HT.sIx xs.length xs.length (some 101) = min 101 xs.length := e
  rw [e']
  omega
theorem i_slTh101 {K : PySem.W.Frag} {H : Hp} {Q : VK} {P : Addr → Prop} {x : V} {ds : List Th} (h : ThR P H x (.tup ds))
    (q : ∀ v H' es, Same H H' → es.length ≤ 101 → (∀ e ∈ es, e ∈ ds) → ThR P H' v (.tup es) → Q v H') : rSlA K x none (some 101) H Q := by
  have h' := h
  simp only [ThR] at h'
  obtain ⟨a, xs, rfl, ha, la⟩ := h'
  have hl := la.length
  refine ⟨a, xs, rfl, SqT.of ha, fun z => q _ _ ds (Same.refl _) ?_ (fun _ h => h) h, fun _ => new_obj fun p H' hp s e => ?_⟩
  · have e : HT.sIx xs.length xs.length (some ((101 : Nat) : Int)) = min 101 xs.length := HT.sIx_nat _ _ _
    have e' : HT.sIx xs.length xs.length (some 101) = min 101 xs.length := e
    have := z.2
    rw [e'] at this
    omega
  refine q _ _ ((ds.drop (HT.sIx xs.length 0 none)).take (HT.sIx xs.length xs.length (some 101) - HT.sIx xs.length 0 none)) s (cut_le101 hl) (fun e he => List.mem_of_mem_drop (List.mem_of_mem_take he)) ?_
  · simp only [ThR]
    refine ⟨p, _, rfl, e, ?_⟩
    unfold cutV
    exact ThL.take _ (ThL.drop _ (la.mon (Same.kp s)))
/-! ### amounts among things -/
def Th.frac : Th → Bool
  | .tup [.int i, .int j] => decide (0 < j ∧ i.natAbs.gcd j.natAbs = 1)
  | _ => false
def Th.amt : Th → Bool
  | .tup [.int i, .int j] => decide (0 < i ∧ 0 < j ∧ i.natAbs.gcd j.natAbs = 1)
  | _ => false
def Th.side : Th → Bool
  | .tup l => decide (1 ≤ l.length ∧ l.length ≤ 100) && l.all Th.amt
  | _ => false
def frT (q : Rat) : Th := .tup [.int q.num, .int (q.den : Nat)]
theorem amt_iff {d : Th} : d.amt = true ↔ ∃ q : Rat, d = frT q ∧ 0 < q.num := by
  constructor
  · intro h
    match d, h with
    | .tup [.int i, .int j], h =>
      simp only [Th.amt, decide_eq_true_eq] at h
      obtain ⟨h1, h2, h3⟩ := h
      have e : (j.toNat : Int) = j := Int.toNat_of_nonneg (by omega)
      refine ⟨⟨i, j.toNat, by omega, ?_⟩, ?_, h1⟩
      · have e2 : j.natAbs = j.toNat := by omega
        rw [← e2]; exact h3
      · simp only [frT]
        rw [e]
  · rintro ⟨q, rfl, h⟩
    have hd : 0 < q.den := Nat.pos_of_ne_zero q.den_nz
    simp only [frT, Th.amt, decide_eq_true_eq]
    refine ⟨h, by omega, ?_⟩
    rw [Int.natAbs_natCast]
    exact q.reduced
theorem amt_frac {i j : Int} : (Th.tup [.int i, .int j]).amt = ((Th.tup [.int i, .int j]).frac && decide (0 < i)) := by
  simp only [Th.amt, Th.frac]
  rw [Bool.eq_iff_iff]
  simp only [decide_eq_true_eq, Bool.and_eq_true]
  constructor
  · rintro ⟨a, b, c⟩; exact ⟨⟨b, c⟩, a⟩
  · rintro ⟨⟨a, b⟩, c⟩; exact ⟨c, a, b⟩
theorem all_amt {l : List Th} (h : l.all Th.amt = true) : ∃ qs : List Rat, l = qs.map frT ∧ ∀ q ∈ qs, 0 < q.num := by
  induction l with
  | nil => exact ⟨[], rfl, by simp⟩
  | cons a l ih =>
    rw [List.all_cons, Bool.and_eq_true] at h
    obtain ⟨qs, e, hq⟩ := ih h.2
    obtain ⟨q, e1, h1⟩ := amt_iff.mp h.1
    refine ⟨q :: qs, by rw [e, e1]; rfl, fun r hr => ?_⟩
    rcases List.mem_cons.mp hr with rfl | hr
    · exact h1
    · exact hq r hr
theorem ThR.frD {P : Addr → Prop} {H : Hp} {v : V} {q : Rat} (h : ThR P H v (frT q)) : Im H v (fr q) := by
  obtain ⟨a, vs, rfl, ha, hl⟩ := h.tup_at
  match vs, hl, ha with
  | [x, y], hl, ha =>
    simp only [ThL, ThR] at hl
    obtain ⟨rfl, rfl, _⟩ := hl
    exact Im.fr_of ha
theorem ThL.frsD {P : Addr → Prop} {H : Hp} : ∀ {vs : List V} {qs : List Rat}, ThL P H vs (qs.map frT) → ImL H vs (qs.map fr)
  | [], [], _ => by simp [ImL]
  | v :: vs, q :: qs, h => by
    simp only [List.map_cons, ThL] at h
    simp only [List.map_cons, ImL]
    exact ⟨h.1.frD, ThL.frsD h.2⟩
  | [], _ :: _, h => by simp [ThL] at h
  | _ :: _, [], h => by simp [ThL] at h
theorem ThR.frsD {P : Addr → Prop} {H : Hp} {v : V} {qs : List Rat} (h : ThR P H v (.tup (qs.map frT))) : Im H v (.tuple (qs.map fr)) := by
  obtain ⟨a, vs, rfl, ha, hl⟩ := h.tup_at
  exact Im.tup ha hl.frsD
theorem thOf_fr (q : Rat) : thOf (fr q) = frT q := rfl
theorem frs_th {P : Addr → Prop} {H : Hp} {v : V} {qs : List Rat} (h : Im H v (.tuple (qs.map fr))) : ThR P H v (.tup (qs.map frT)) := by
  have := Im.th (P := P) _ h
  simp only [thOf, thAll_map, List.map_map] at this
  exact this
/-- what is known of all that may come as a side: its pairs are not great, the amounts' bottoms go into M -/
structure SideT (M : Nat) (d : Th) : Prop where
  ln : d.len ≤ 1000
  el : ∀ l, d = .tup l → ∀ x ∈ l, x.len ≤ 1000 ∧ ∀ i j, x = .tup [.int i, .int j] → i.natAbs < 2 ^ 100 ∧ j.natAbs < 2 ^ 100 ∧ (x.amt = true → j.toNat ∣ M)
theorem SideT.bw {M : Nat} (m0 : 0 < M) (m1 : M < 2 ^ 48) {qs : List Rat} (h : SideT M (.tup (qs.map frT))) (hp : ∀ q ∈ qs, 0 < q.num) : Bw qs := by
  have hl := h.ln
  simp only [Th.len, List.length_map] at hl
  refine ⟨hl, ⟨M, ⟨m0, fun q hq => ?_⟩, m1⟩, fun q hq => ?_⟩
  · obtain ⟨_, h2⟩ := h.el _ rfl (frT q) (List.mem_map_of_mem hq)
    have := (h2 q.num (q.den : Nat) rfl).2.2 (amt_iff.mpr ⟨q, rfl, hp q hq⟩)
    simpa using this
  · obtain ⟨_, h2⟩ := h.el _ rfl (frT q) (List.mem_map_of_mem hq)
    exact Nat.lt_trans (h2 q.num (q.den : Nat) rfl).1 (Nat.pow_lt_pow_right (by decide) (by decide))
theorem Bw.bd {qs : List Rat} (h : Bw qs) : Bd 8000 qs := by
  obtain ⟨h1, ⟨M, h2, h3⟩, h4⟩ := h
  exact ⟨h1, ⟨M, h2, Nat.lt_trans h3 (Nat.pow_lt_pow_right (by decide) (by decide))⟩, fun q hq => Nat.lt_trans (h4 q hq) (Nat.pow_lt_pow_right (by decide) (by decide))⟩
abbrev cStrI : List V → Hp → VK → Prop := fun xs H Q => ∃ i, xs = [.int i] ∧ i.natAbs.log2 < 1920 ∧ Q (.str (toString i)) H
end QW

namespace QW
open PySem L2

structure CA where
  Evening : Addr
  Tally : Addr
  NotEven : Addr
  QuitsError : Addr
  BadEvening : Addr
  NoPair : Addr
structure CT (K : PySem.W.Frag) (C : CA) : Prop where
  cl : Cls K C.Evening
  nO : NoAttr K C.Evening "owed"
  nD : NoAttr K C.Evening "due"
/-- an evening at v -/
def EvAt (C : CA) (H : Hp) (v : V) (o d : List Rat) : Prop := ∃ e dx vo vd, v = .ref e ∧ H e = some (.ins C.Evening dx [("owed", vo), ("due", vd)]) ∧ Im H vo (.tuple (o.map fr)) ∧ Im H vd (.tuple (d.map fr))
theorem sm_ev {C : CA} {H H' : Hp} {v : V} {o d : List Rat} (s : Same H H') (h : EvAt C H v o d) : EvAt C H' v o d := by
  obtain ⟨e, dx, vo, vd, h1, h2, h3, h4⟩ := h
  exact ⟨e, dx, vo, vd, h1, s _ _ h2, sm_im s h3, sm_im s h4⟩
theorem kl_ev {C : CA} {m : Addr} {H H' : Hp} {v : V} {o d : List Rat} (s : KL m H H') (h : EvAt C H v o d) : EvAt C H' v o d := by
  obtain ⟨e, dx, vo, vd, h1, h2, h3, h4⟩ := h
  exact ⟨e, dx, vo, vd, h1, s.ins _ _ _ _ h2, kl_im s h3, kl_im s h4⟩
/-- g is the greatest divisor of all tops -/
def TopG (qs : List Rat) (g : Nat) : Prop := (∀ q ∈ qs, g ∣ q.num.natAbs) ∧ ∀ m : Nat, (∀ q ∈ qs, m ∣ q.num.natAbs) → m ∣ g
/-- L is the least common bottom -/
def BotL (qs : List Rat) (L : Nat) : Prop := 0 < L ∧ (∀ q ∈ qs, q.den ∣ L) ∧ ∀ m : Nat, (∀ q ∈ qs, q.den ∣ m) → L ∣ m
structure CTT (K : PySem.W.Frag) (C : CA) : Prop where
  cl : Cls K C.Tally
  nB : NoAttr K C.Tally "bottom"
  nO : NoAttr K C.Tally "owing"
  nA : NoAttr K C.Tally "awaiting"
/-- a tally at t: its unit, its two lists -/
def TalAt (C : CA) (H : Hp) (t : Addr) (D : Nat) (a b : Addr) (os ds : List Int) : Prop := ∃ dx, H t = some (.ins C.Tally dx [("bottom", .int (D : Nat)), ("owing", .ref a), ("awaiting", .ref b)]) ∧ H a = some (.lst (os.map V.int)) ∧ H b = some (.lst (ds.map V.int)) ∧ a ≠ b ∧ 0 < D ∧ D < 2 ^ 9000
theorem sm_tal {C : CA} {H H' : Hp} {t : Addr} {D : Nat} {a b : Addr} {os ds : List Int} (s : Same H H') (h : TalAt C H t D a b os ds) : TalAt C H' t D a b os ds := by
  obtain ⟨dx, h1, h2, h3, h4, h5, h6⟩ := h
  exact ⟨dx, s _ _ h1, s _ _ h2, s _ _ h3, h4, h5, h6⟩
/-- units as fractions -/
def uq (D : Nat) (os : List Int) : List Rat := os.map fun i => mkRat i D
theorem uq_get {D : Nat} {os : List Int} {i : Nat} (h : i < os.length) : (uq D os).getD i 0 = mkRat (os.getD i 0) D := by
  unfold uq
  rw [List.getD_eq_getElem?_getD, List.getD_eq_getElem?_getD, List.getElem?_map, List.getElem?_eq_getElem h]; rfl
theorem uq_len (D : Nat) (os : List Int) : (uq D os).length = os.length := List.length_map _
theorem mkRat_lt {D : Nat} (hD : 0 < D) {i j : Int} : mkRat i D < mkRat j D ↔ i < j := by
  have hD' : (0 : Rat) < (D : Rat) := by exact_mod_cast hD
  rw [Rat.mkRat_eq_div, Rat.mkRat_eq_div, Rat.div_lt_iff hD', Rat.div_mul_cancel (by grind)]
  exact_mod_cast Iff.rfl
theorem mkRat_pos {D : Nat} (hD : 0 < D) {i : Int} : 0 < mkRat i D ↔ 0 < i := by
  have := mkRat_lt hD (i := 0) (j := i)
  rwa [Rat.zero_mkRat] at this
theorem uq_can {D : Nat} (hD : 0 < D) {os ds : List Int} {p : Nat × Nat} (c : canR (uq D os, uq D ds) p) : p.1 < os.length ∧ p.2 < ds.length ∧ 0 < os.getD p.1 0 ∧ 0 < ds.getD p.2 0 := by
  obtain ⟨c1, c2, c3, c4⟩ := c
  simp only [uq_len] at c1 c2
  simp only [uq_get c1, uq_get c2, mkRat_pos hD] at c3 c4
  exact ⟨c1, c2, c3, c4⟩
theorem uq_amt {D : Nat} (hD : 0 < D) {os ds : List Int} {p : Nat × Nat} (c : canR (uq D os, uq D ds) p) : amtR (uq D os, uq D ds) p = mkRat (min (os.getD p.1 0) (ds.getD p.2 0)) D := by
  obtain ⟨c1, c2, _, _⟩ := uq_can hD c
  unfold amtR minR
  simp only [uq_get c1, uq_get c2, mkRat_lt hD]
  split
  · rw [Int.min_eq_right (by omega)]
  · rw [Int.min_eq_left (by omega)]
theorem uq_pay {D : Nat} (hD : 0 < D) {os ds : List Int} {p : Nat × Nat} (c : canR (uq D os, uq D ds) p) :
    payR (uq D os, uq D ds) p = (uq D (os.set p.1 (os.getD p.1 0 - min (os.getD p.1 0) (ds.getD p.2 0))), uq D (ds.set p.2 (ds.getD p.2 0 - min (os.getD p.1 0) (ds.getD p.2 0)))) := by
  obtain ⟨c1, c2, _, _⟩ := uq_can hD c
  unfold payR
  rw [uq_amt hD c]
  simp only [uq_get c1, uq_get c2, mkRat_sub' _ _ hD]
  unfold uq
  rw [List.map_set, List.map_set]
/-- a pair of people as data -/
def pd (p : Nat × Nat) : PyData := .tuple [.int (p.1 : Nat), .int (p.2 : Nat)]
theorem Im.pd_at {H : Hp} {v : V} {p : Nat × Nat} (h : Im H v (pd p)) : ∃ a, v = .ref a ∧ H a = some (.tup [.int (p.1 : Nat), .int (p.2 : Nat)]) := by
  simp only [pd, Im] at h
  obtain ⟨a, vs, e, ha, hl⟩ := h
  match vs, hl with
  | [x, y], hl =>
    simp only [ImL, Im] at hl
    obtain ⟨rfl, rfl, _⟩ := hl
    exact ⟨a, e, ha⟩
theorem Im.pd_of {H : Hp} {a : Addr} {p : Nat × Nat} (h : H a = some (.tup [.int (p.1 : Nat), .int (p.2 : Nat)])) : Im H (.ref a) (pd p) := by
  simp only [pd, Im, ImL]; exact ⟨a, _, rfl, h, rfl, rfl, trivial⟩
theorem get_pds {ps : List (Nat × Nat)} {i : Nat} {e : PyData} (h : (ps.map pd)[i]? = some e) : ∃ p, ps[i]? = some p ∧ e = pd p := by
  rw [List.getElem?_map] at h
  cases e1 : ps[i]? with
  | none => rw [e1] at h; cases h
  | some q => rw [e1] at h; exact ⟨q, rfl, (Option.some.inj h).symm⟩
/-- both sides as data -/
def stD (s : Sta) : PyData := .tuple [.tuple (s.1.map fr), .tuple (s.2.map fr)]
theorem map_get {ns : List Int} {i : Nat} (h : i < ns.length) : (ns.map V.int)[i]? = some (.int (ns.getD i 0)) := by
  rw [List.getElem?_map, List.getD_eq_getElem?_getD, List.getElem?_eq_getElem h]; rfl
theorem atI_nn {xs : List V} {i : Nat} {v : V} (h : xs[i]? = some v) : atI xs (i : Nat) = some v := atI_nat h
theorem ixN_nn {n i : Nat} (h : i < n) : ixN n ((i : Nat) : Int) = some i := by
  unfold ixN
  rw [if_pos (by omega), if_pos (by omega)]; rfl
theorem eqv_stD (s t : Sta) : PyData.eqv (stD s) (stD t) = decide (s = t) := by
  simp only [stD, PyData.eqv, PyData.eqvAll, Bool.and_true]
  rw [eqvAll_frs, eqvAll_frs]
  obtain ⟨a, b⟩ := s
  obtain ⟨c, d⟩ := t
  by_cases h1 : a = c <;> by_cases h2 : b = d <;> simp [h1, h2]
theorem stD_shaped (s : Sta) : SeqAt.shaped (stD s) = true := shaped_tup (n := 2) (by decide) fun d hd => by
  have h : ∀ l : List Rat, (PyData.tuple (l.map fr)).canLay0 = true ∧ (PyData.tuple (l.map fr)).depth ≤ 2 := fun l => by
    refine ⟨?_, ?_⟩
    · simp only [PyData.canLay0]
      exact canAll_of fun d hd => by
        obtain ⟨q, _, rfl⟩ := List.mem_map.mp hd
        exact (fr_can q).1
    · simp only [PyData.depth]
      have := depthAll_of (n := 1) (ds := l.map fr) fun d hd => by
        obtain ⟨q, _, rfl⟩ := List.mem_map.mp hd
        exact (fr_can q).2
      omega
  rcases List.mem_cons.mp hd with rfl | hd
  · exact h _
  · rcases List.mem_cons.mp hd with rfl | hd
    · exact h _
    · cases hd
structure CNe (K : PySem.W.Frag) (C : CA) : Prop where
  mro : PySem.W.mroIn K C.Evening (.type "object") = some true
  ne : PySem.W.findIn K (.ref C.Evening) "__ne__" = some (some (.builtin "object.__ne__"))
  cls : PySem.W.findIn K (.ref C.Evening) "__class__" = some (some (.builtin "object.__class__"))
  get : PySem.W.specialIn K (.builtin "object.__class__") "__get__" = some (some (.builtin "getset_descriptor.__get__"))
  set : PySem.W.takesIn K (.builtin "object.__class__") = some true
  isc1 : PySem.W.isClsIn K C.Evening = true
  isc2 : PySem.W.typeIn K (.ref C.Evening) = some (.type "type")
theorem CNe.isc {K : PySem.W.Frag} {C : CA} (h : CNe K C) : ((PySem.W.clsIn K C.Evening).isSome && PySem.W.typeIn K (.ref C.Evening) == some (.type "type")) = true := by
  have h1 : (PySem.W.clsIn K C.Evening).isSome = true := h.isc1
  rw [h1, h.isc2]
  simp
/-- bounds for the program's own product -/
def Bq (qs : List Rat) : Prop := qs.length ≤ 1000 ∧ ∀ q ∈ qs, q.num.natAbs < 2 ^ 4000 ∧ q.den < 2 ^ 4000
theorem mul_mkRat (p r : Rat) : mkRat (p.num * r.num) (p.den * r.den) = p * r := by
  rw [← Rat.mkRat_mul_mkRat, Rat.mkRat_self, Rat.mkRat_self]
/-- what is no evening -/
def Foreign (K : PySem.W.Frag) (C : CA) (H : Hp) (y : V) : Prop := ∃ n, TyX K H y (.type n) ∧ PySem.W.subIn K (.type n) (.ref C.Evening) = some false
theorem sub_of {K : PySem.W.Frag} {n : String} (h : ((PySem.fastBuiltinMro n).any fun l => l.all fun v => match v with | .type _ => true | _ => false) = true) (c : Addr) : PySem.W.subIn K (.type n) (.ref c) = some false := by
  show (PySem.fastBuiltinMro n).map (·.contains (.ref c)) = some false
  revert h
  generalize PySem.fastBuiltinMro n = o
  intro h
  cases o with
  | none => cases h
  | some l =>
    show some (l.contains (.ref c)) = some false
    congr 1
    rw [← Bool.not_eq_true]
    intro hc
    rw [List.contains_iff_mem] at hc
    have := List.all_eq_true.mp (show (l.all _) = true from h) _ hc
    simp at this
theorem kit_foreign {K : PySem.W.Frag} {C : CA} {n : String} (TN : CNe K C) (h : PySem.W.subIn K (.type n) (.ref C.Evening) = some false) : PySem.W.kitOne K (.type n) (.ref C.Evening) = some false := by
  unfold PySem.W.kitOne
  rw [if_neg (by simp)]
  show (if _ then PySem.W.subIn K (.type n) (.ref C.Evening) else none) = some false
  rw [if_pos TN.isc, h]

local macro_rules | `(tactic| walk_at "side") => `(tactic| first
  | exact ⟨by decide, by decide⟩
  | exact ⟨by decide, by decide, by decide⟩
  | decide
  | assumption
  | omega
  | (show (0 : Int) < _; omega)
  | exact ⟨by omega, by assumption⟩
  | exact IntMulOk.of_right (PySem.intBits_le_64 (by omega) (by omega))
  | exact IntMulOk.of_left (PySem.intBits_le_64 (by omega) (by omega)))
local macro_rules | `(tactic| walk_at "ne") => `(tactic| first
  | assumption
  | (apply Ne.symm; assumption)
  | ((with_reducible apply ne_fresh); (focus assumption); walk_at "keep")
  | ((with_reducible apply ne_fresh'); (focus assumption); walk_at "keep"))
local macro_rules | `(tactic| walk_at "keep") => `(tactic| first
  | assumption
  | (with_reducible exact upd_same)
  | ((with_reducible apply sm_at); (focus assumption); walk_at "keep")
  | ((with_reducible apply sm_im); (focus assumption); walk_at "keep")
  | ((with_reducible apply sm_iml); (focus assumption); walk_at "keep")
  | ((with_reducible apply sm_hand); (focus assumption); walk_at "keep")
  | ((with_reducible apply kl_im); (focus assumption); walk_at "keep")
  | ((with_reducible apply sm_th); (focus assumption); walk_at "keep")
  | ((with_reducible apply kl_th); (focus assumption); walk_at "keep")
  | ((with_reducible apply sm_ev); (focus assumption); walk_at "keep")
  | ((with_reducible apply kl_ev); (focus assumption); walk_at "keep")
  | ((with_reducible apply kl_iml); (focus assumption); walk_at "keep")
  | ((with_reducible apply kl_tup); (focus assumption); walk_at "keep")
  | ((with_reducible apply kl_ins); (focus assumption); walk_at "keep")
  | ((with_reducible apply kl_at); (focus assumption); (focus (walk_at "ne")); walk_at "keep")
  | ((with_reducible refine kl_hand (by assumption) (by assumption) ?_ ?_) <;> walk_at "keep"))
local macro_rules | `(tactic| walk_at "sm") => `(tactic| first
  | assumption
  | (with_reducible exact Same.refl _)
  | (with_reducible exact KL.refl)
  | ((with_reducible refine Same.trans ?_ (by assumption)); walk_at "sm")
  | ((with_reducible refine KL.same ?_ (by assumption)); walk_at "sm")
  | ((with_reducible refine KL.trans ?_ (by assumption)); walk_at "sm")
  | ((with_reducible refine same_loc ?_ (by assumption) ?_); (focus (walk_at "sm")); walk_at "free")
  | ((with_reducible refine KL.loc ?_ (by assumption) ?_); (focus (walk_at "sm")); walk_at "free")
  | ((with_reducible refine Same.kl ?_); walk_at "sm"))
local macro_rules | `(tactic| walk_at "free") => `(tactic| first
  | assumption
  | ((with_reducible refine' Same.free' (by assumption) ?_); walk_at "free")
  | ((with_reducible refine' KL.free (by assumption) ?_); walk_at "free"))
local macro_rules | `(tactic| walk_at "st") => `(tactic| first
  | with_reducible apply i_seq
  | with_reducible apply i_set
  | ((with_reducible apply i_var); exact rfl)
  | with_reducible apply i_c
  | with_reducible apply i_op
  | with_reducible apply i_rI0
  | with_reducible apply i_ret
  | with_reducible apply i_test
  | with_reducible apply i_bk
  | with_reducible apply i_nil
  | with_reducible apply i_cons
  | with_reducible apply i_drop
  | with_reducible apply i_ifS
  | with_reducible apply i_and
  | with_reducible apply i_or
  | with_reducible apply i_not
  | with_reducible apply i_andV
  | with_reducible apply i_orV
  | with_reducible apply i_notV
  | with_reducible apply i_ifE
  | with_reducible apply i_chain
  | with_reducible apply i_b
  | with_reducible apply i_cb
  | with_reducible apply i_un
  | with_reducible apply i_rU
  | with_reducible apply i_next
  | with_reducible apply i_break
  | with_reducible apply i_cont
  | with_reducible apply i_asg
  | with_reducible apply i_gname
  | with_reducible apply i_gsub
  | with_reducible apply i_tupE
  | with_reducible apply i_lstE
  | with_reducible apply i_callE
  | with_reducible apply i_make
  | with_reducible apply i_abs
  | with_reducible apply i_int1
  | with_reducible apply i_max2
  | with_reducible apply i_min2
  | with_reducible apply i_bm
  | with_reducible apply i_sl
  | with_reducible apply i_noPart
  | with_reducible apply i_part
  | with_reducible apply i_partI
  | with_reducible apply i_gcd
  | with_reducible apply i_fld
  | with_reducible apply i_revL
  | with_reducible apply i_forR
  | with_reducible apply i_forT
  | with_reducible apply i_forL
  | with_reducible apply i_lcR
  | with_reducible apply i_meth
  | with_reducible apply i_sfld
  | with_reducible apply i_augS
  | with_reducible apply i_ipI
  | with_reducible apply i_lcT
  | with_reducible apply i_lcL
  | with_reducible apply i_isi_ii
  | with_reducible apply i_isi_bb
  | with_reducible apply i_notB
  | with_reducible apply i_isB
  | with_reducible apply i_lcTt
  | with_reducible apply i_lcR2
  | with_reducible apply i_rz
  | with_reducible apply i_makeS
  | with_reducible apply i_mkO
  | with_reducible apply i_ost
  | with_reducible apply i_xf
  | with_reducible apply i_yes
  | with_reducible apply i_tryMany
  | with_reducible apply i_tryAs
  | with_reducible apply i_callS
  | with_reducible apply i_tupRg1
  | with_reducible apply i_lstRg1
  | with_reducible apply i_revT
  | ((with_reducible refine i_dnew ?_); intro p H' hp s e)
  | ((with_reducible refine i_disp1 ?_); intro p H' kvs hp s e)
  | with_reducible apply i_isi_ib
  | ((with_reducible refine' i_isi_tt ?h ?_); (case h => walk_at "keep"))
  | ((with_reducible apply i_eq); exact rfl)
  | ((with_reducible apply i_ne); exact rfl)
  | ((with_reducible apply i_ixL); (focus (walk_at "keep")); (focus (exact rfl)))
  | ((with_reducible apply i_ixT); (focus (walk_at "keep")); (focus (exact rfl)))
  | ((with_reducible refine' i_setL ?h ?e ?_); (case h => walk_at "keep"); (case e => exact rfl); intro H' s e)
  | ((with_reducible apply i_len); (focus (walk_at "keep")))
  | ((with_reducible apply i_lenT); (focus (walk_at "keep")))
  | ((with_reducible refine' i_revL' ?h ?_); (case h => walk_at "keep"); intro p H' hp s e)
  | ((with_reducible refine' i_slL ?h ?_); (case h => walk_at "keep"); intro p H' hp s e)
  | ((with_reducible refine' i_gtup2 ?h ?_); (case h => walk_at "keep"))
  | ((with_reducible refine' i_gtup3 ?h ?_); (case h => walk_at "keep"))
  | ((with_reducible refine' i_tyL ?h ?_); (case h => walk_at "keep"))
  | ((with_reducible refine' i_newO ?h ?_); (case h => (simp only [List.length_cons, List.length_nil]; decide)); intro p H' hp s e)
  | ((with_reducible refine' i_rI ?c ?_); (case c => walk_at "side"))
  | (with_reducible refine' ite_ndT ?_)
  | (with_reducible refine' ite_dT ?_)
  | (with_reducible refine' iteT ?_)
  | (with_reducible refine' iteF ?_)
  | (with_reducible refine' ite_nT ?_)
  | (with_reducible refine' ite_nF ?_))
local macro_rules | `(tactic| walk_at "go") => `(tactic| repeat (walk_at "st"))

structure Bi (mg : Str → Option Value) (C : CA) : Prop where
  b_abs : mg "abs" = none
  b_all : mg "all" = none
  b_bool : mg "bool" = none
  b_int : mg "int" = none
  b_isinstance : mg "isinstance" = none
  b_len : mg "len" = none
  b_list : mg "list" = none
  b_max : mg "max" = none
  b_min : mg "min" = none
  b_range : mg "range" = none
  b_str : mg "str" = none
  b_sum : mg "sum" = none
  b_tuple : mg "tuple" = none
  g_BadEvening : mg "BadEvening" = some (.ref C.BadEvening)
  g_Evening : mg "Evening" = some (.ref C.Evening)
  g_MOST_SUMS : ∃ u, mg "MOST_SUMS" = some (u) ∧ RelV (.int 100) u
  g_gcd : mg "gcd" = some (.builtin "math.gcd")
  g_lcm : mg "lcm" = some (.builtin "math.lcm")

def top (i : Nat) : Stmt := PySem.Challenge.pw_quitsways_k00_evenings_judged.main.body.getD i (.Pass ⟨0, 0, 0, 0⟩)

/-! ### _law_hand -/
abbrev s_L_hand : Stmt := top 18
def sp_L_hand (K : PySem.W.Frag) (C : CA) : Sp := fun vs H Q _ => ∃ (a : Addr) (ns : List Int), vs = [.ref a] ∧ SqL K H a (ns.map V.int) ∧ ns.length ≤ 63 ∧
  ∀ m c H', Same H H' → Hand H' m c → Q (.ref m) H'

@[reducible] def N_L_hand : List Str := ["_law_script", "_law_cells", "_law_cell"]
def t_L_hand (K : PySem.W.Frag) (C : CA) : TS :=
  (tSeq (tAsg (tLc (iList K (tSl (rSlL K) (tVar 0) tNoPart (tPart (tC (.int 63))))) (gName 2) tYes (tCB cAbs (tCons (tCB cInt1 (tCons (tVar 2) tNil)) tNil)) [2]) (gName 1)) (tRet (tLst (tCons (tVar 1) (tCons (tC (.int 0)) (tCons (tC (.int 0)) (tCons (tOp oAdd (tC (.int 1)) (tCB (cLen K) (tCons (tVar 1) tNil))) (tCons (tC (.int 0)) tNil))))))))

theorem rd_L_hand {K : PySem.W.Frag} {C : CA} {vs : List V} {H : Hp} {Q : VK} {E : XK} (h : sp_L_hand K C vs H Q E) : t_L_hand K C { nx := fun _ H' => Q .non H', rt := Q } (start N_L_hand vs) H := by
  obtain ⟨a, ns, rfl, hs, hn, q⟩ := h
  unfold t_L_hand
  walk_at "go"
  refine i_slLq hs ?_
  intro p H1 hp s1 e1
  obtain ⟨ms, em, hl⟩ := cutV_map ns none (some 63)
  rw [em] at e1
  refine lcL_of (es := ms.map PyData.int) (fun d => match d with | .int i => .int (i.natAbs : Nat) | d => d) (SqL.of e1) (ImL.ints ms) (by rw [List.length_map]; exact small1000 (by omega)) (fun e x H2 N he s2 hx hN => ?_) (fun D H2 ys hD s2 e2 hy => ?_)
  · obtain ⟨i, _, rfl⟩ := List.mem_map.mp he
    simp only [Im] at hx
    subst hx
    walk_at "go"
    refine ⟨rfl, ?_⟩
    walk_at "go"
    exact hN _ _ (Same.refl _) Im.int'
  · have ey : ∃ ks : List Int, ys = ks.map V.int := by
      rw [List.map_map] at hy
      clear e2 em hl e1
      induction ms generalizing ys with
      | nil => cases ys with
        | nil => exact ⟨[], rfl⟩
        | cons y ys => simp [ImL] at hy
      | cons z zs ih => cases ys with
        | nil => simp [ImL] at hy
        | cons y ys =>
          simp only [List.map_cons, ImL, Function.comp, Im] at hy
          obtain ⟨ks, rfl⟩ := ih ys hy.2
          exact ⟨_ :: ks, by rw [hy.1]; rfl⟩
    obtain ⟨ks, rfl⟩ := ey
    walk_at "go"
    refine q _ D _ ?_ ?_
    · walk_at "sm"
    · exact ⟨_, _, _, _, _, by assumption, by walk_at "keep", by walk_at "ne", by omega⟩

theorem sc_L_hand : FnScope N_L_hand ["_law_script"] (defScope s_L_hand) := ⟨rfl, rfl, rfl, by decide +kernel, rfl, by decide +kernel, by decide +kernel⟩
theorem ok_L_hand {P : Program} {w : World} {K : PySem.W.Frag} {mg : Str → Option Value} {base : Heap} {C : CA} {f : Addr} {fd : FuncData} (T : CT K C) (B : Bi mg C) (F : Fun K "_law_hand" "_law_hand" s_L_hand f fd)  : FnOk P w K mg base CX0 1 f fd ["_law_script"] (sp_L_hand K C) := by
  refine F.ok sc_L_hand (fun vs H Q E h => ?_) (fun cdv A outer s H vs Q E hr h => ⟨t_L_hand K C, ?_, rd_L_hand h⟩)
  · obtain ⟨_, _, rfl, _⟩ := h
    rfl
  · exact (pss_cons (ps_setLc (i := 1) (own := [("_law_cell", 2)]) (g := (gName 2)) (tt := tYes) rfl sc_L_hand.nd rfl rfl (sw_true rfl rfl rfl (by decide +kernel)) (pi_list (pe_slice sl_list (pv 0) po_none (po_some pe_int))) (blkOk_by (own := [("_law_cell", 2)]) (N := N_L_hand) (sc := defScope s_L_hand) (by decide +kernel)) (fun _ _ _ _ _ => (pg_name (i := 2) sc_L_hand.nd rfl (Or.inl rfl))) (fun _ _ _ _ _ => pts_nil) (fun _ _ _ _ _ => (pe_callB call_abs (by rfl) B.b_abs bt_abs (pa_cons (pe_callTy call_int1 (by rfl) B.b_int bt_int (pa_cons (pv 2) pa_nil)) pa_nil)))) (pss_one (ps_ret (pe_lst (pa_cons (pv 1) (pa_cons pe_int (pa_cons pe_int (pa_cons (pe_op op_add pe_int (pe_callB call_len (by rfl) B.b_len bt_len (pa_cons (pv 1) pa_nil))) (pa_cons pe_int pa_nil)))))))))

/-! ### _law_draw -/
abbrev s_L_draw : Stmt := top 19
def sp_L_draw (K : PySem.W.Frag) (C : CA) : Sp := fun vs H Q _ => ∃ (m c : Addr) (n : Int), vs = [.ref m, .int n] ∧ Hand H m c ∧ 0 < n ∧ n.natAbs.log2 < 9000 ∧
  ∀ d H', 0 ≤ d → d < n → KL m H H' → Hand H' m c → Q (.int d) H'

@[reducible] def N_L_draw : List Str := ["_law_hand_here", "_law_many", "_law_cell", "_law_digit", "_law_number"]
def t_L_draw (K : PySem.W.Frag) (C : CA) : TS :=
  (tSeq (tIfS (tAnd (tTest (tOp rEq (tOp (rIxL K) (tVar 0) (tC (.int 2))) (tC (.int 0)))) (tTest (tOp oLt (tOp (rIxL K) (tVar 0) (tC (.int 1))) (tCB (cLen K) (tCons (tOp (rIxL K) (tVar 0) (tC (.int 0))) tNil))))) (tSeq (tAsg (tOp (rIxL K) (tOp (rIxL K) (tVar 0) (tC (.int 0))) (tOp (rIxL K) (tVar 0) (tC (.int 1)))) (gName 2)) (tSeq (tAsg (tOp oAdd (tOp (rIxL K) (tVar 0) (tC (.int 1))) (tC (.int 1))) (gSub (tVar 0) (tC (.int 1)) rSetL)) (tSeq (tAsg (tOp oMod (tCB cInt1 (tCons (tOp oAdd (tOp oAdd (tOp oMul (tOp (rIxL K) (tVar 0) (tC (.int 3))) (tC (.int 69621))) (tVar 2)) (tC (.int 11))) tNil)) (tC (.int 2147483629))) (gSub (tVar 0) (tC (.int 3)) rSetL)) (tIfS (tTest (tOp oGe (tVar 2) (tOp oPow (tC (.int 10)) (tC (.int 18))))) (tAsg (tVar 2) (gSub (tVar 0) (tC (.int 2)) rSetL)) tNext)))) tNext) (tSeq (tIfS (tTest (tOp oGt (tOp (rIxL K) (tVar 0) (tC (.int 2))) (tC (.int 0)))) (tSeq (tAsg (tOp oMod (tCB cInt1 (tCons (tOp (rIxL K) (tVar 0) (tC (.int 2))) tNil)) (tVar 1)) (gName 3)) (tSeq (tAsg (tOp oDiv (tOp (rIxL K) (tVar 0) (tC (.int 2))) (tVar 1)) (gSub (tVar 0) (tC (.int 2)) rSetL)) (tRet (tVar 3)))) tNext) (tSeq (tAsg (tOp oAdd (tOp (rIxL K) (tVar 0) (tC (.int 4))) (tC (.int 1))) (gSub (tVar 0) (tC (.int 4)) rSetL)) (tSeq (tAsg (tOp oMod (tCB cInt1 (tCons (tOp oMul (tCB cInt1 (tCons (tOp oAdd (tOp (rIxL K) (tVar 0) (tC (.int 3))) (tOp oMul (tC (.int 7919)) (tOp (rIxL K) (tVar 0) (tC (.int 4))))) tNil)) (tC (.int 48271))) tNil)) (tC (.int 2147483647))) (gName 4)) (tSeq (tAsg (tOp oMod (tCB cInt1 (tCons (tOp oMul (tVar 4) (tOp oAdd (tOp oDiv (tVar 4) (tC (.int 1009))) (tC (.int 69621)))) tNil)) (tC (.int 2147483647))) (gName 4)) (tSeq (tAsg (tOp oMod (tCB cInt1 (tCons (tOp oMul (tVar 4) (tOp oAdd (tOp oDiv (tVar 4) (tC (.int 2003))) (tC (.int 40692)))) tNil)) (tC (.int 2147483399))) (gName 4)) (tRet (tOp oMod (tCB cInt1 (tCons (tOp oDiv (tVar 4) (tC (.int 16))) tNil)) (tVar 1)))))))))

theorem rd_L_draw {K : PySem.W.Frag} {C : CA} {vs : List V} {H : Hp} {Q : VK} {E : XK} (h : sp_L_draw K C vs H Q E) : t_L_draw K C { nx := fun _ H' => Q .non H', rt := Q } (start N_L_draw vs) H := by
  obtain ⟨m, c, n, rfl, ⟨i, x, s, k, cells, hm, hc, ne, i0⟩, n0, n1, q⟩ := h
  unfold t_L_draw
  refine i_cut (fun σ' H' => ∃ y, σ' = [some (.ref m), some (.int n), y, none, none] ∧ KL m H H' ∧ Hand H' m c) (fun N hN => ?_) ?_
  · walk_at "go"
    refine ite_d (fun hx => ?_) (fun hx => ?_)
    · walk_at "go"
      refine ite_d (fun hi => ?_) (fun hi => ?_)
      · obtain ⟨z, _, ez⟩ := atI_ints i0 (by simpa using hi)
        walk_at "go"
        refine i_ixL hc ez ?_
        walk_at "go"
        refine ite_d (fun hi => ?_) (fun hi => ?_)
        all_goals (walk_at "go"; exact hN _ _ ⟨_, rfl, by walk_at "sm", _, _, _, _, _, by assumption, by walk_at "keep", ne, by omega⟩)
      · walk_at "go"
        exact hN _ _ ⟨none, rfl, KL.refl, i, x, s, k, cells, hm, hc, ne, i0⟩
    · walk_at "go"
      exact hN _ _ ⟨none, rfl, KL.refl, i, x, s, k, cells, hm, hc, ne, i0⟩
  · rintro σ H1 ⟨y, rfl, kl, i, x, s, k, cells, hm, hc, ne, i0⟩
    walk_at "go"
    refine ite_d (fun hx => ?_) (fun hx => ?_)
    · walk_at "go"
      exact q _ _ (Int.emod_nonneg _ (by omega)) (Int.emod_lt_of_pos _ n0) (by walk_at "sm") ⟨_, _, _, _, _, by assumption, by walk_at "keep", ne, i0⟩
    · walk_at "go"
      exact q _ _ (Int.emod_nonneg _ (by omega)) (Int.emod_lt_of_pos _ n0) (by walk_at "sm") ⟨_, _, _, _, _, by assumption, by walk_at "keep", ne, i0⟩

theorem sc_L_draw : FnScope N_L_draw ["_law_hand_here", "_law_many"] (defScope s_L_draw) := ⟨rfl, rfl, rfl, by decide +kernel, rfl, by decide +kernel, by decide +kernel⟩
theorem ok_L_draw {P : Program} {w : World} {K : PySem.W.Frag} {mg : Str → Option Value} {base : Heap} {C : CA} {f : Addr} {fd : FuncData} (T : CT K C) (B : Bi mg C) (F : Fun K "_law_draw" "_law_draw" s_L_draw f fd)  : FnOk P w K mg base CX0 1 f fd ["_law_hand_here", "_law_many"] (sp_L_draw K C) := by
  refine F.ok sc_L_draw (fun vs H Q E h => ?_) (fun cdv A outer s H vs Q E hr h => ⟨t_L_draw K C, ?_, rd_L_draw h⟩)
  · obtain ⟨_, _, _, rfl, _⟩ := h
    rfl
  · exact (pss_cons (ps_if (PW.pt (pw_and (pt_cmpR op_eq (pe_ix ix_list (pv 0) pe_int (fun _ _ => rfl)) pe_int (nomark _)) (pw_and1 (pt_cmpR op_lt (pe_ix ix_list (pv 0) pe_int (fun _ _ => rfl)) (pe_callB call_len (by rfl) B.b_len bt_len (pa_cons (pe_ix ix_list (pv 0) pe_int (fun _ _ => rfl)) pa_nil)) (nomark _))))) (pss_cons (ps_set (i := 2) sc_L_draw.nd rfl (Or.inl rfl) (pe_ix ix_list (pe_ix ix_list (pv 0) pe_int (fun _ _ => rfl)) (pe_ix ix_list (pv 0) pe_int (fun _ _ => rfl)) (fun _ _ => rfl))) (pss_cons (ps_asg (pe_op op_add (pe_ix ix_list (pv 0) pe_int (fun _ _ => rfl)) pe_int) (pg_sub (pv 0) pe_int set_list)) (pss_cons (ps_asg (pe_op op_mod (pe_callTy call_int1 (by rfl) B.b_int bt_int (pa_cons (pe_op op_add (pe_op op_add (pe_op op_mulA (pe_ix ix_list (pv 0) pe_int (fun _ _ => rfl)) pe_int) (pv 2)) pe_int) pa_nil)) pe_int) (pg_sub (pv 0) pe_int set_list)) (pss_one (ps_if (pt_cmpR op_ge (pv 2) (pe_op op_pow pe_int pe_int) (nomark _)) (pss_one (ps_asg (pv 2) (pg_sub (pv 0) pe_int set_list))) pss_nil))))) pss_nil) (pss_cons (ps_if (pt_cmpR op_gt (pe_ix ix_list (pv 0) pe_int (fun _ _ => rfl)) pe_int (nomark _)) (pss_cons (ps_set (i := 3) sc_L_draw.nd rfl (Or.inl rfl) (pe_op op_mod (pe_callTy call_int1 (by rfl) B.b_int bt_int (pa_cons (pe_ix ix_list (pv 0) pe_int (fun _ _ => rfl)) pa_nil)) (pv 1))) (pss_cons (ps_asg (pe_op op_fdivW (pe_ix ix_list (pv 0) pe_int (fun _ _ => rfl)) (pv 1)) (pg_sub (pv 0) pe_int set_list)) (pss_one (ps_ret (pv 3))))) pss_nil) (pss_cons (ps_asg (pe_op op_add (pe_ix ix_list (pv 0) pe_int (fun _ _ => rfl)) pe_int) (pg_sub (pv 0) pe_int set_list)) (pss_cons (ps_set (i := 4) sc_L_draw.nd rfl (Or.inl rfl) (pe_op op_mod (pe_callTy call_int1 (by rfl) B.b_int bt_int (pa_cons (pe_op op_mulA (pe_callTy call_int1 (by rfl) B.b_int bt_int (pa_cons (pe_op op_add (pe_ix ix_list (pv 0) pe_int (fun _ _ => rfl)) (pe_op op_mulA pe_int (pe_ix ix_list (pv 0) pe_int (fun _ _ => rfl)))) pa_nil)) pe_int) pa_nil)) pe_int)) (pss_cons (ps_set (i := 4) sc_L_draw.nd rfl (Or.inl rfl) (pe_op op_mod (pe_callTy call_int1 (by rfl) B.b_int bt_int (pa_cons (pe_op op_mulA (pv 4) (pe_op op_add (pe_op op_fdivW (pv 4) pe_int) pe_int)) pa_nil)) pe_int)) (pss_cons (ps_set (i := 4) sc_L_draw.nd rfl (Or.inl rfl) (pe_op op_mod (pe_callTy call_int1 (by rfl) B.b_int bt_int (pa_cons (pe_op op_mulA (pv 4) (pe_op op_add (pe_op op_fdivW (pv 4) pe_int) pe_int)) pa_nil)) pe_int)) (pss_one (ps_ret (pe_op op_mod (pe_callTy call_int1 (by rfl) B.b_int bt_int (pa_cons (pe_op op_fdivW (pv 4) pe_int) pa_nil)) (pv 1))))))))))

/-! ### _law_common -/
abbrev s_L_common : Stmt := top 20
def sp_L_common (K : PySem.W.Frag) (C : CA) : Sp := fun vs H Q _ => ∃ a b : Int, vs = [.int a, .int b] ∧ a.natAbs * b.natAbs < 2 ^ 598 ∧ Q (.int ((a.natAbs.gcd b.natAbs : Nat) : Int)) H

@[reducible] def N_L_common : List Str := ["_law_one", "_law_other", "_law_turn", "_law_rest"]
def t_L_common (K : PySem.W.Frag) (C : CA) : TS :=
  (tSeq (tAsg (tCB cAbs (tCons (tVar 0) tNil)) (gName 0)) (tSeq (tAsg (tCB cAbs (tCons (tVar 1) tNil)) (gName 1)) (tSeq (tFor (iRng1 (tCons (tC (.int 600)) tNil)) (gName 2) (tSeq (tIfS (tTest (tOp rEq (tVar 1) (tC (.int 0)))) tBreak tNext) (tSeq (tAsg (tOp oMod (tCB cInt1 (tCons (tVar 0) tNil)) (tVar 1)) (gName 3)) (tSeq (tAsg (tVar 1) (gName 0)) (tAsg (tVar 3) (gName 1)))))) (tRet (tVar 0)))))

theorem euclid_half {x y : Nat} (h : y < x) (h0 : 0 < y) : 2 * (y * (x % y)) < x * y := by
  have h1 := Nat.div_add_mod x y
  have h2 := Nat.mod_lt x h0
  have h3 : 1 ≤ x / y := (Nat.le_div_iff_mul_le h0).mpr (by omega)
  have h4 : y * 1 ≤ y * (x / y) := Nat.mul_le_mul_left _ h3
  have h5 : 2 * (x % y) < x := by omega
  have h6 : y * (2 * (x % y)) < y * x := Nat.mul_lt_mul_of_pos_left h5 h0
  calc 2 * (y * (x % y)) = y * (2 * (x % y)) := by rw [Nat.mul_left_comm]
    _ < y * x := h6
    _ = x * y := Nat.mul_comm _ _
theorem rd_L_common {K : PySem.W.Frag} {C : CA} {vs : List V} {H : Hp} {Q : VK} {E : XK} (h : sp_L_common K C vs H Q E) : t_L_common K C { nx := fun _ H' => Q .non H', rt := Q } (start N_L_common vs) H := by
  obtain ⟨a, b, rfl, hb, q⟩ := h
  unfold t_L_common
  walk_at "go"
  refine forR_of (n := 600) (fun i σ H' => H' = H ∧ ∃ (x y : Nat) (v w : Option V), σ = [some (.int (x : Nat)), some (.int (y : Nat)), v, w] ∧ x.gcd y = a.natAbs.gcd b.natAbs ∧ (i = 0 → x * y < 2 ^ 598) ∧ (1 ≤ i → y < x ∧ x * y < 2 ^ (599 - i)))
    (fun σ H' => H' = H ∧ ∃ (x : Nat) (u v w : Option V), σ = [some (.int (x : Nat)), u, v, w] ∧ x = a.natAbs.gcd b.natAbs) rfl (by decide)
    ⟨rfl, a.natAbs, b.natAbs, none, none, rfl, rfl, fun _ => hb, fun h => absurd h (by decide)⟩ ?_ ?_ ?_
  · rintro i σ H' N B hi ⟨rfl, x, y, v, w, rfl, hg, h0, h1⟩ hN hB
    walk_at "go"
    refine ite_d (fun hy => ?_) (fun hy => ?_)
    · walk_at "go"
      have hy0 : y = 0 := by injection hy with e; omega
      subst hy0
      exact hB _ _ ⟨rfl, x, _, _, _, rfl, by rw [← hg, Nat.gcd_zero_right]⟩
    · have hy0 : 0 < y := by
        rcases Nat.eq_zero_or_pos y with e | e
        · subst e; exact absurd rfl hy
        · exact e
      walk_at "go"
      rw [← Int.natCast_emod]
      refine hN _ _ ⟨rfl, y, x % y, _, _, rfl, ?_, fun h => absurd h (by omega), fun _ => ⟨Nat.mod_lt _ hy0, ?_⟩⟩
      · rw [← hg, Nat.gcd_comm x y, Nat.gcd_rec y x, Nat.gcd_comm]
      · by_cases hi0 : i = 0
        · subst hi0
          have e := h0 rfl
          exact Nat.lt_of_le_of_lt (Nat.le_trans (Nat.mul_le_mul_left y (Nat.mod_le x y)) (Nat.le_of_eq (Nat.mul_comm y x))) e
        · obtain ⟨l1, l2⟩ := h1 (by omega)
          have e := euclid_half l1 hy0
          have e2 : 599 - i = (599 - (i + 1)) + 1 := by
            have : i ≠ 599 := by
              rintro rfl
              have : x * y = 0 := by simpa using l2
              have : 0 < x * y := Nat.mul_pos (by omega) hy0
              omega
            omega
          rw [e2, Nat.pow_succ] at l2
          omega
  · rintro σ H' ⟨rfl, x, y, v, w, rfl, hg, h0, h1⟩
    obtain ⟨l1, l2⟩ := h1 (by decide)
    have hy0 : y = 0 := by
      have l3 : x * y < 1 := l2
      rcases Nat.eq_zero_or_pos y with e | e
      · exact e
      · have := Nat.mul_pos (show 0 < x by omega) e
        omega
    subst hy0
    rw [Nat.gcd_zero_right] at hg
    walk_at "go"
    rw [hg]
    exact q
  · rintro σ H' ⟨rfl, x, u, v, w, rfl, hg⟩
    walk_at "go"
    rw [hg]
    exact q

theorem sc_L_common : FnScope N_L_common ["_law_one", "_law_other"] (defScope s_L_common) := ⟨rfl, rfl, rfl, by decide +kernel, rfl, by decide +kernel, by decide +kernel⟩
theorem ok_L_common {P : Program} {w : World} {K : PySem.W.Frag} {mg : Str → Option Value} {base : Heap} {C : CA} {f : Addr} {fd : FuncData} (T : CT K C) (B : Bi mg C) (F : Fun K "_law_common" "_law_common" s_L_common f fd)  : FnOk P w K mg base CX0 1 f fd ["_law_one", "_law_other"] (sp_L_common K C) := by
  refine F.ok sc_L_common (fun vs H Q E h => ?_) (fun cdv A outer s H vs Q E hr h => ⟨t_L_common K C, ?_, rd_L_common h⟩)
  · obtain ⟨_, _, rfl, _⟩ := h
    rfl
  · exact (pss_cons (ps_set (i := 0) sc_L_common.nd rfl (Or.inl rfl) (pe_callB call_abs (by rfl) B.b_abs bt_abs (pa_cons (pv 0) pa_nil))) (pss_cons (ps_set (i := 1) sc_L_common.nd rfl (Or.inl rfl) (pe_callB call_abs (by rfl) B.b_abs bt_abs (pa_cons (pv 1) pa_nil))) (pss_cons (ps_for PassesOwn.never rfl (pi_range1 rfl B.b_range (pa_cons pe_int pa_nil)) (pg_name (i := 2) sc_L_common.nd rfl (Or.inl rfl)) (pss_cons (ps_if (pt_cmpR op_eq (pv 1) pe_int (nomark _)) (pss_one ps_break) pss_nil) (pss_cons (ps_set (i := 3) sc_L_common.nd rfl (Or.inl rfl) (pe_op op_mod (pe_callTy call_int1 (by rfl) B.b_int bt_int (pa_cons (pv 0) pa_nil)) (pv 1))) (pss_cons (ps_set (i := 0) sc_L_common.nd rfl (Or.inl rfl) (pv 1)) (pss_one (ps_set (i := 1) sc_L_common.nd rfl (Or.inl rfl) (pv 3))))))) (pss_one (ps_ret (pv 0))))))

/-! ### _law_fraction -/
abbrev s_L_fraction : Stmt := top 21
def sp_L_fraction (K : PySem.W.Frag) (C : CA) : Sp := fun vs H Q _ => ∃ (n : Int) (d : Nat), vs = [.int n, .int (d : Nat)] ∧ 0 < d ∧ d < 2 ^ 299 ∧ n.natAbs < 2 ^ 299 ∧ Ret H Q (fr (mkRat n d))

@[reducible] def N_L_fraction : List Str := ["_law_top", "_law_bottom", "_law_divisor"]
def t_L_fraction (K : PySem.W.Frag) (C : CA) : TS :=
  (tSeq (tAsg (tCall (sp_L_common K C) [] E0 (tCons (tVar 0) (tCons (tVar 1) tNil))) (gName 2)) (tRet (tTup (tCons (tOp oDiv (tVar 0) (tVar 2)) (tCons (tOp oDiv (tVar 1) (tVar 2)) tNil)))))

theorem rd_L_fraction {K : PySem.W.Frag} {C : CA} {vs : List V} {H : Hp} {Q : VK} {E : XK} (h : sp_L_fraction K C vs H Q E) : t_L_fraction K C { nx := fun _ H' => Q .non H', rt := Q } (start N_L_fraction vs) H := by
  obtain ⟨n, d, rfl, hd, hl, hn, q⟩ := h
  obtain ⟨g0, g1⟩ := gcd_le n d hd
  have hl9 : (n.natAbs.gcd d).log2 < 9000 := log2_of_lt (Nat.lt_of_le_of_lt g1 (Nat.lt_trans hl (Nat.pow_lt_pow_right (by decide) (by decide)))) (by decide)
  unfold t_L_fraction
  walk_at "go"
  refine ⟨n, (d : Nat), rfl, ?_, ?_⟩
  · rw [Int.natAbs_natCast]
    exact Nat.lt_of_lt_of_le (Nat.mul_lt_mul'' hn hl) (by rw [← Nat.pow_add]; exact Nat.le_refl _)
  rw [Int.natAbs_natCast]
  walk_at "go"
  exact q _ _ (by assumption) (Im.fr_of (by rw [low_num n d hd, low_den n d hd]; assumption))

theorem sc_L_fraction : FnScope N_L_fraction ["_law_top", "_law_bottom"] (defScope s_L_fraction) := ⟨rfl, rfl, rfl, by decide +kernel, rfl, by decide +kernel, by decide +kernel⟩
theorem ok_L_fraction {P : Program} {w : World} {K : PySem.W.Frag} {mg : Str → Option Value} {base : Heap} {C : CA} {f : Addr} {fd : FuncData} (T : CT K C) (B : Bi mg C) (F : Fun K "_law_fraction" "_law_fraction" s_L_fraction f fd) (D_L_common : Okd P w K mg base 1 "_law_common" ["_law_one", "_law_other"] (sp_L_common K C)) : FnOk P w K mg base CX0 2 f fd ["_law_top", "_law_bottom"] (sp_L_fraction K C) := by
  refine F.ok sc_L_fraction (fun vs H Q E h => ?_) (fun cdv A outer s H vs Q E hr h => ⟨t_L_fraction K C, ?_, rd_L_fraction h⟩)
  · obtain ⟨_, _, rfl, _⟩ := h
    rfl
  · exact (pss_cons (ps_set (i := 2) sc_L_fraction.nd rfl (Or.inl rfl) (pe_callD D_L_common (hr.mono (by decide)) (pa_cons (pv 0) (pa_cons (pv 1) pa_nil)))) (pss_one (ps_ret (pe_tup (pa_cons (pe_op op_fdivW (pv 0) (pv 2)) (pa_cons (pe_op op_fdivW (pv 1) (pv 2)) pa_nil))))))

/-! ### _law_times -/
abbrev s_L_times : Stmt := top 24
def sp_L_times (K : PySem.W.Frag) (C : CA) : Sp := fun vs H Q _ => ∃ (v w : V) (p r : Rat), vs = [v, w] ∧ Im H v (fr p) ∧ Im H w (fr r) ∧ p.num.natAbs < 2 ^ 148 ∧ p.den < 2 ^ 148 ∧ r.num.natAbs < 2 ^ 148 ∧ r.den < 2 ^ 148 ∧ Ret H Q (fr (p * r))

@[reducible] def N_L_times : List Str := ["_law_one", "_law_other"]
def t_L_times (K : PySem.W.Frag) (C : CA) : TS :=
  (tRet (tCall (sp_L_fraction K C) [] E0 (tCons (tOp oMul (tOp (rIxT K) (tVar 0) (tC (.int 0))) (tOp (rIxT K) (tVar 1) (tC (.int 0)))) (tCons (tOp oMul (tOp (rIxT K) (tVar 0) (tC (.int 1))) (tOp (rIxT K) (tVar 1) (tC (.int 1)))) tNil))))

theorem rd_L_times {K : PySem.W.Frag} {C : CA} {vs : List V} {H : Hp} {Q : VK} {E : XK} (h : sp_L_times K C vs H Q E) : t_L_times K C { nx := fun _ H' => Q .non H', rt := Q } (start N_L_times vs) H := by
  obtain ⟨v, w, p, r, rfl, hv, hw, h1, h2, h3, h4, q⟩ := h
  obtain ⟨a, rfl, ha⟩ := hv.fr_at
  obtain ⟨b, rfl, hb⟩ := hw.fr_at
  have hp : 0 < p.den := Nat.pos_of_ne_zero p.den_nz
  have hr : 0 < r.den := Nat.pos_of_ne_zero r.den_nz
  unfold t_L_times
  walk_at "go"
  refine i_rI (mul_wide h1 h3 (by decide)) ?_
  walk_at "go"
  refine i_rI (mul_wide (by rw [Int.natAbs_natCast]; exact h2) (by rw [Int.natAbs_natCast]; exact h4) (by decide)) ?_
  walk_at "go"
  have l1 : p.den * r.den < 2 ^ 299 := Nat.lt_of_lt_of_le (Nat.mul_lt_mul'' h2 h4) (by rw [← Nat.pow_add]; decide)
  have l2 : (p.num * r.num).natAbs < 2 ^ 299 := by
    rw [Int.natAbs_mul]
    exact Nat.lt_of_lt_of_le (Nat.mul_lt_mul'' h1 h3) (by rw [← Nat.pow_add]; decide)
  refine ⟨p.num * r.num, p.den * r.den, by simp, Nat.mul_pos hp hr, l1, l2, ?_⟩
  have e : mkRat (p.num * r.num) (p.den * r.den) = p * r := by
    rw [← Rat.mkRat_mul_mkRat, Rat.mkRat_self, Rat.mkRat_self]
  rw [e]
  exact q

theorem sc_L_times : FnScope N_L_times ["_law_one", "_law_other"] (defScope s_L_times) := ⟨rfl, rfl, rfl, by decide +kernel, rfl, by decide +kernel, by decide +kernel⟩
theorem ok_L_times {P : Program} {w : World} {K : PySem.W.Frag} {mg : Str → Option Value} {base : Heap} {C : CA} {f : Addr} {fd : FuncData} (T : CT K C) (B : Bi mg C) (F : Fun K "_law_times" "_law_times" s_L_times f fd) (D_L_fraction : Okd P w K mg base 2 "_law_fraction" ["_law_top", "_law_bottom"] (sp_L_fraction K C)) : FnOk P w K mg base CX0 3 f fd ["_law_one", "_law_other"] (sp_L_times K C) := by
  refine F.ok sc_L_times (fun vs H Q E h => ?_) (fun cdv A outer s H vs Q E hr h => ⟨t_L_times K C, ?_, rd_L_times h⟩)
  · obtain ⟨_, _, _, _, rfl, _⟩ := h
    rfl
  · exact (pss_one (ps_ret (pe_callD D_L_fraction (hr.mono (by decide)) (pa_cons (pe_op op_mulA (pe_ix ix_tup (pv 0) pe_int (fun _ _ => rfl)) (pe_ix ix_tup (pv 1) pe_int (fun _ _ => rfl))) (pa_cons (pe_op op_mulA (pe_ix ix_tup (pv 0) pe_int (fun _ _ => rfl)) (pe_ix ix_tup (pv 1) pe_int (fun _ _ => rfl))) pa_nil)))))

/-! ### _law_cut -/
abbrev s_L_cut : Stmt := top 27
def sp_L_cut (K : PySem.W.Frag) (C : CA) : Sp := fun vs H Q _ => ∃ (m c : Addr) (full many : Nat), vs = [.ref m, .int (full : Nat), .int (many : Nat)] ∧ Hand H m c ∧ 1 ≤ many ∧ many ≤ full ∧ many ≤ 1000 ∧ full < 2 ^ 62 ∧
  ∀ (p : Addr) (ns : List Int) (H' : Hp), KL m H H' → Hand H' m c → H p = none → ns.length = many → ns.sum = (full : Nat) → (∀ n ∈ ns, 1 ≤ n) → H' p = some (.lst (ns.map V.int)) → Q (.ref p) H'

@[reducible] def N_L_cut : List Str := ["_law_hand_here", "_law_full", "_law_many", "_law_left", "_law_parts", "_law_k", "_law_more", "_law_at"]
def t_L_cut (K : PySem.W.Frag) (C : CA) : TS :=
  (tSeq (tAsg (tOp oSub (tVar 1) (tVar 2)) (gName 3)) (tSeq (tAsg (tLst tNil) (gName 4)) (tSeq (tFor (iRng1 (tCons (tOp oSub (tVar 2) (tC (.int 1))) tNil)) (gName 5) (tSeq (tAsg (tCall (sp_L_draw K C) [] E0 (tCons (tVar 0) (tCons (tOp oAdd (tCB cMin2 (tCons (tVar 3) (tCons (tOp oAdd (tOp oMul (tC (.int 2)) (tOp oDiv (tVar 3) (tOp oSub (tVar 2) (tVar 5)))) (tC (.int 1))) tNil))) (tC (.int 1))) tNil))) (gName 6)) (tSeq (tDrop (tBM K "list" rAppend (tVar 4) (tCons (tOp oAdd (tC (.int 1)) (tVar 6)) tNil))) (tAsg (tOp oSub (tVar 3) (tVar 6)) (gName 3))))) (tSeq (tDrop (tBM K "list" rAppend (tVar 4) (tCons (tOp oAdd (tC (.int 1)) (tVar 3)) tNil))) (tSeq (tAsg (tCall (sp_L_draw K C) [] E0 (tCons (tVar 0) (tCons (tVar 2) tNil))) (gName 7)) (tRet (tOp rCat (tSl (rSlL K) (tVar 4) (tPart (tVar 7)) tNoPart) (tSl (rSlL K) (tVar 4) tNoPart (tPart (tVar 7))))))))))

theorem rd_L_cut {K : PySem.W.Frag} {C : CA} {vs : List V} {H : Hp} {Q : VK} {E : XK} (h : sp_L_cut K C vs H Q E) : t_L_cut K C { nx := fun _ H' => Q .non H', rt := Q } (start N_L_cut vs) H := by
  obtain ⟨m, c, full, many, rfl, hm, h1, h2, hmx, h3, q⟩ := h
  unfold t_L_cut
  walk_at "go"
  rename_i l Hl nl sl el
  obtain ⟨nm, nc⟩ := hand_ne nl hm
  refine forR_of (n := many - 1) (fun i σ H' => KL m H H' ∧ Hand H' m c ∧ ∃ (left : Int) (ns : List Int) (x y z : Option V), σ = [some (.ref m), some (.int (full : Nat)), some (.int (many : Nat)), some (.int left), some (.ref l), x, y, z] ∧ H' l = some (.lst (ns.map V.int)) ∧
      ns.length = i ∧ 0 ≤ left ∧ (∀ n ∈ ns, 1 ≤ n) ∧ ns.sum + left + ((many : Int) - i) = full) (fun _ _ => False) (by omega) (by omega)
    ⟨by walk_at "sm", by walk_at "keep", _, [], none, none, none, rfl, el, rfl, by omega, by simp, by simp⟩ ?_ ?_ (fun _ _ h => h.elim)
  · rintro i σ H1 N B hi ⟨kl, hm1, left, ns, x, y, z, rfl, hl, hlen, l0, hpos, hsum⟩ hN hB
    walk_at "go"
    refine i_rI ⟨by omega, small_log (by omega)⟩ ?_
    walk_at "go"
    have hp : 0 ≤ left / ((many : Int) - i) := Int.ediv_nonneg l0 (by omega)
    have hle : left ≤ full := by
      have : 0 ≤ ns.sum := by
        clear hsum hl hlen
        induction ns with
        | nil => simp
        | cons n ns ih =>
          have a1 := hpos n List.mem_cons_self
          have a2 := ih fun k hk => hpos k (List.mem_cons_of_mem _ hk)
          rw [List.sum_cons]; omega
      omega
    refine ⟨m, c, _, rfl, hm1, by omega, small_log (by omega), fun d H2 d0 d1 kl2 hm2 => ?_⟩
    walk_at "go"
    refine i_append (xs := ns.map V.int) (by walk_at "keep") (small1000 (by rw [List.length_map]; omega)) (fun H3 kl3 e3 => ?_)
    walk_at "go"
    refine hN _ _ ⟨(kl.trans kl2).loc kl3 nl, kl_hand kl3 nl hm hm2, left - d, ns ++ [1 + d], _, _, _, rfl, ?_, ?_, by omega, ?_, ?_⟩
    · rw [e3, List.map_append]; rfl
    · rw [List.length_append, hlen]; rfl
    · intro n hn
      rcases List.mem_append.mp hn with hn | hn
      · exact hpos n hn
      · have : n = 1 + d := by simpa using hn
        omega
    · rw [List.sum_append]
      simp only [List.sum_cons, List.sum_nil]
      omega
  · rintro σ H1 ⟨kl, hm1, left, ns, x, y, z, rfl, hl, hlen, l0, hpos, hsum⟩
    walk_at "go"
    refine i_append (xs := ns.map V.int) hl (small1000 (by rw [List.length_map]; omega)) (fun H3 kl3 e3 => ?_)
    have hm3 := kl_hand kl3 nl hm hm1
    walk_at "go"
    refine ⟨m, c, _, rfl, hm3, by omega, small_log (by omega), fun d H4 d0 d1 kl4 hm4 => ?_⟩
    have e4 : H4 l = some (.lst ((ns ++ [1 + left]).map V.int)) := kl4.keep _ _ (Ne.symm nm) (by rw [e3, List.map_append]; rfl)
    have hl4 : ((ns ++ [1 + left]).map V.int).length = many := by rw [List.length_map, List.length_append, hlen]; show many - 1 + 1 = many; omega
    walk_at "go"
    rename_i p1 H5 n5 s5 e5 p2 H6 n6 s6 e6
    rw [cutV_from d0 (by omega)] at e5
    rw [cutV_to d0 (by omega)] at e6
    refine i_cat (s6 _ _ e5) e6 (by rw [List.length_drop, List.length_take, hl4]; exact Nat.le_of_lt (small1000 (by omega))) (fun p H7 n7 s7 e7 => ?_)
    have kl6 : KL m H H6 := ((((kl.loc kl3 nl).trans kl4).same s5).same s6)
    refine q p ((ns ++ [1 + left]).drop d.toNat ++ (ns ++ [1 + left]).take d.toNat) H7 (kl6.same s7) (by walk_at "keep") (kl6.live _ n7) ?_ ?_ ?_ ?_
    · rw [List.length_append, List.length_drop, List.length_take]
      rw [List.length_map] at hl4
      omega
    · rw [sum_rot, List.sum_append]
      simp only [List.sum_cons, List.sum_nil]
      omega
    · intro n hn
      have hn' : n ∈ ns ++ [1 + left] := by
        rcases List.mem_append.mp hn with hn | hn
        · exact List.mem_of_mem_drop hn
        · exact List.mem_of_mem_take hn
      rcases List.mem_append.mp hn' with hn | hn
      · exact hpos n hn
      · have : n = 1 + left := by simpa using hn
        omega
    · rw [e7]; simp only [List.map_append, List.map_drop, List.map_take]

theorem sc_L_cut : FnScope N_L_cut ["_law_hand_here", "_law_full", "_law_many"] (defScope s_L_cut) := ⟨rfl, rfl, rfl, by decide +kernel, rfl, by decide +kernel, by decide +kernel⟩
theorem ok_L_cut {P : Program} {w : World} {K : PySem.W.Frag} {mg : Str → Option Value} {base : Heap} {C : CA} {f : Addr} {fd : FuncData} (T : CT K C) (B : Bi mg C) (F : Fun K "_law_cut" "_law_cut" s_L_cut f fd) (D_L_draw : Okd P w K mg base 1 "_law_draw" ["_law_hand_here", "_law_many"] (sp_L_draw K C)) : FnOk P w K mg base CX0 2 f fd ["_law_hand_here", "_law_full", "_law_many"] (sp_L_cut K C) := by
  refine F.ok sc_L_cut (fun vs H Q E h => ?_) (fun cdv A outer s H vs Q E hr h => ⟨t_L_cut K C, ?_, rd_L_cut h⟩)
  · obtain ⟨_, _, _, _, rfl, _⟩ := h
    rfl
  · exact (pss_cons (ps_set (i := 3) sc_L_cut.nd rfl (Or.inl rfl) (pe_op op_sub (pv 1) (pv 2))) (pss_cons (ps_set (i := 4) sc_L_cut.nd rfl (Or.inl rfl) (pe_lst pa_nil)) (pss_cons (ps_for PassesOwn.never rfl (pi_range1 rfl B.b_range (pa_cons (pe_op op_sub (pv 2) pe_int) pa_nil)) (pg_name (i := 5) sc_L_cut.nd rfl (Or.inl rfl)) (pss_cons (ps_set (i := 6) sc_L_cut.nd rfl (Or.inl rfl) (pe_callD D_L_draw (hr.mono (by decide)) (pa_cons (pv 0) (pa_cons (pe_op op_add (pe_callB (call_min2 rfl) (by rfl) B.b_min bt_min (pa_cons (pv 3) (pa_cons (pe_op op_add (pe_op op_mulA pe_int (pe_op op_fdivW (pv 3) (pe_op op_sub (pv 2) (pv 5)))) pe_int) pa_nil))) pe_int) pa_nil)))) (pss_cons (ps_expr (pe_bm PySem.F.plainAttrs_list PySem.F.slot_list_append PySem.F.type_list_append mt_append (pv 4) (pa_cons (pe_op op_add pe_int (pv 6)) pa_nil))) (pss_one (ps_set (i := 3) sc_L_cut.nd rfl (Or.inl rfl) (pe_op op_sub (pv 3) (pv 6))))))) (pss_cons (ps_expr (pe_bm PySem.F.plainAttrs_list PySem.F.slot_list_append PySem.F.type_list_append mt_append (pv 4) (pa_cons (pe_op op_add pe_int (pv 3)) pa_nil))) (pss_cons (ps_set (i := 7) sc_L_cut.nd rfl (Or.inl rfl) (pe_callD D_L_draw (hr.mono (by decide)) (pa_cons (pv 0) (pa_cons (pv 2) pa_nil)))) (pss_one (ps_ret (pe_op op_cat (pe_slice sl_list (pv 4) (po_some (pv 7)) po_none) (pe_slice sl_list (pv 4) po_none (po_some (pv 7)))))))))))

/-! ### _law_numbers -/
abbrev s_L_numbers : Stmt := top 28
def sp_L_numbers (K : PySem.W.Frag) (C : CA) : Sp := fun vs H Q _ => ∃ (m c : Addr) (side most : Nat), vs = [.ref m, .int (side : Nat), .int (most : Nat)] ∧ Hand H m c ∧ 1 ≤ side ∧ side ≤ 100 ∧ 1 ≤ most ∧ most ≤ 1000000000000 ∧
  ∀ (w a b : Addr) (ns ks : List Int) (H' : Hp), KL m H H' → Hand H' m c → a ≠ m → b ≠ m → H' w = some (.tup [.ref a, .ref b]) → H' a = some (.lst (ns.map V.int)) → H' b = some (.lst (ks.map V.int)) → ns.sum = ks.sum → ns.sum < 2000000000000 →
    1 ≤ ns.length → ns.length ≤ side → 1 ≤ ks.length → ks.length ≤ side → (∀ n ∈ ns, 1 ≤ n) → (∀ n ∈ ks, 1 ≤ n) → Q (.ref w) H'

@[reducible] def N_L_numbers : List Str := ["_law_hand_here", "_law_side", "_law_most", "_law_one", "_law_other", "_law_full", "_law_kind", "_law_owed"]
def t_L_numbers (K : PySem.W.Frag) (C : CA) : TS :=
  (tSeq (tAsg (tOp oAdd (tC (.int 1)) (tCall (sp_L_draw K C) [] E0 (tCons (tVar 0) (tCons (tVar 1) tNil)))) (gName 3)) (tSeq (tAsg (tOp oAdd (tC (.int 1)) (tCall (sp_L_draw K C) [] E0 (tCons (tVar 0) (tCons (tVar 1) tNil)))) (gName 4)) (tSeq (tAsg (tOp oAdd (tCB cMax2 (tCons (tVar 3) (tCons (tVar 4) tNil))) (tCall (sp_L_draw K C) [] E0 (tCons (tVar 0) (tCons (tVar 2) tNil)))) (gName 5)) (tSeq (tAsg (tCall (sp_L_draw K C) [] E0 (tCons (tVar 0) (tCons (tC (.int 4)) tNil))) (gName 6)) (tSeq (tIfS (tTest (tOp rEq (tVar 6) (tC (.int 0)))) (tRet (tTup (tCons (tCall (sp_L_cut K C) [] E0 (tCons (tVar 0) (tCons (tVar 5) (tCons (tVar 3) tNil)))) (tCons (tRevL K (tCall (sp_L_cut K C) [] E0 (tCons (tVar 0) (tCons (tVar 5) (tCons (tVar 3) tNil))))) tNil)))) tNext) (tSeq (tAsg (tCall (sp_L_cut K C) [] E0 (tCons (tVar 0) (tCons (tVar 5) (tCons (tVar 3) tNil)))) (gName 7)) (tSeq (tIfS (tTest (tOp rEq (tVar 6) (tC (.int 1)))) (tRet (tTup (tCons (tVar 7) (tCons (tRevL K (tVar 7)) tNil)))) tNext) (tRet (tTup (tCons (tVar 7) (tCons (tCall (sp_L_cut K C) [] E0 (tCons (tVar 0) (tCons (tVar 5) (tCons (tVar 4) tNil)))) tNil)))))))))))

theorem rd_L_numbers {K : PySem.W.Frag} {C : CA} {vs : List V} {H : Hp} {Q : VK} {E : XK} (h : sp_L_numbers K C vs H Q E) : t_L_numbers K C { nx := fun _ H' => Q .non H', rt := Q } (start N_L_numbers vs) H := by
  obtain ⟨m, c, side, most, rfl, hm, h1, h2, h3, h4, q⟩ := h
  unfold t_L_numbers
  walk_at "go"
  refine ⟨m, c, _, rfl, hm, by omega, small_log (by omega), fun d1 H1 d10 d11 kl1 hm1 => ?_⟩
  walk_at "go"
  refine ⟨m, c, _, rfl, hm1, by omega, small_log (by omega), fun d2 H2 d20 d21 kl2 hm2 => ?_⟩
  walk_at "go"
  refine ⟨m, c, _, rfl, hm2, by omega, small_log (by omega), fun d3 H3 d30 d31 kl3 hm3 => ?_⟩
  walk_at "go"
  refine ⟨m, c, _, rfl, hm3, by omega, small_log (by omega), fun d4 H4 d40 d41 kl4 hm4 => ?_⟩
  obtain ⟨full, hf⟩ : ∃ full : Nat, max (1 + d1) (1 + d2) + d3 = (full : Nat) := ⟨(max (1 + d1) (1 + d2) + d3).toNat, by omega⟩
  obtain ⟨one, ho⟩ : ∃ one : Nat, 1 + d1 = (one : Nat) := ⟨(1 + d1).toNat, by omega⟩
  obtain ⟨other, ht⟩ : ∃ other : Nat, 1 + d2 = (other : Nat) := ⟨(1 + d2).toNat, by omega⟩
  have klA : KL m H H4 := ((kl1.trans kl2).trans kl3).trans kl4
  simp only [hf]
  simp only [ho, ht]
  walk_at "go"
  refine ite_d (fun hk => ?_) (fun hk => ?_)
  · walk_at "go"
    refine ⟨m, c, full, one, rfl, hm4, by omega, by omega, by omega, by omega, fun p1 ns H5 kl5 hm5 n5 l5 su5 po5 e5 => ?_⟩
    walk_at "go"
    refine ⟨m, c, full, one, rfl, hm5, by omega, by omega, by omega, by omega, fun p2 ks H6 kl6 hm6 n6 l6 su6 po6 e6 => ?_⟩
    walk_at "go"
    rename_i p3 H7 n7 s7 e7 p4 H8 n8 s8 e8
    have hp1 : p1 ≠ m := (hand_ne n5 hm4).1.symm
    have hp3 : p3 ≠ m := (hand_ne n7 hm6).1.symm
    rw [← List.map_reverse] at e7
    refine q p4 p1 p3 ns ks.reverse H8 (((klA.trans kl5).trans kl6).same (s7.trans s8)) (by walk_at "keep") hp1 hp3 e8 (by walk_at "keep") (s8 _ _ e7) (by rw [sum_rev]; omega) (by omega) (by omega) (by omega) (by rw [List.length_reverse]; omega) (by rw [List.length_reverse]; omega) po5 (fun n hn => po6 n (List.mem_reverse.mp hn))
  · walk_at "go"
    refine ⟨m, c, full, one, rfl, hm4, by omega, by omega, by omega, by omega, fun p1 ns H5 kl5 hm5 n5 l5 su5 po5 e5 => ?_⟩
    have hp1 : p1 ≠ m := (hand_ne n5 hm4).1.symm
    walk_at "go"
    refine ite_d (fun hk => ?_) (fun hk => ?_)
    · walk_at "go"
      rename_i p3 H7 n7 s7 e7 p4 H8 n8 s8 e8
      have hp3 : p3 ≠ m := (hand_ne n7 hm5).1.symm
      rw [← List.map_reverse] at e7
      refine q p4 p1 p3 ns ns.reverse H8 ((klA.trans kl5).same (s7.trans s8)) (by walk_at "keep") hp1 hp3 e8 (by walk_at "keep") (s8 _ _ e7) (by rw [sum_rev]) (by omega) (by omega) (by omega) (by rw [List.length_reverse]; omega) (by rw [List.length_reverse]; omega) po5 (fun n hn => po5 n (List.mem_reverse.mp hn))
    · walk_at "go"
      refine ⟨m, c, full, other, rfl, hm5, by omega, by omega, by omega, by omega, fun p2 ks H6 kl6 hm6 n6 l6 su6 po6 e6 => ?_⟩
      have hp2 : p2 ≠ m := (hand_ne n6 hm5).1.symm
      walk_at "go"
      rename_i p4 H8 n8 s8 e8
      refine q p4 p1 p2 ns ks H8 (((klA.trans kl5).trans kl6).same s8) (by walk_at "keep") hp1 hp2 e8 (by walk_at "keep") (s8 _ _ e6) (by omega) (by omega) (by omega) (by omega) (by omega) (by omega) po5 po6

theorem sc_L_numbers : FnScope N_L_numbers ["_law_hand_here", "_law_side", "_law_most"] (defScope s_L_numbers) := ⟨rfl, rfl, rfl, by decide +kernel, rfl, by decide +kernel, by decide +kernel⟩
theorem ok_L_numbers {P : Program} {w : World} {K : PySem.W.Frag} {mg : Str → Option Value} {base : Heap} {C : CA} {f : Addr} {fd : FuncData} (T : CT K C) (B : Bi mg C) (F : Fun K "_law_numbers" "_law_numbers" s_L_numbers f fd) (D_L_draw : Okd P w K mg base 1 "_law_draw" ["_law_hand_here", "_law_many"] (sp_L_draw K C)) (D_L_cut : Okd P w K mg base 2 "_law_cut" ["_law_hand_here", "_law_full", "_law_many"] (sp_L_cut K C)) : FnOk P w K mg base CX0 3 f fd ["_law_hand_here", "_law_side", "_law_most"] (sp_L_numbers K C) := by
  refine F.ok sc_L_numbers (fun vs H Q E h => ?_) (fun cdv A outer s H vs Q E hr h => ⟨t_L_numbers K C, ?_, rd_L_numbers h⟩)
  · obtain ⟨_, _, _, _, rfl, _⟩ := h
    rfl
  · exact (pss_cons (ps_set (i := 3) sc_L_numbers.nd rfl (Or.inl rfl) (pe_op op_add pe_int (pe_callD D_L_draw (hr.mono (by decide)) (pa_cons (pv 0) (pa_cons (pv 1) pa_nil))))) (pss_cons (ps_set (i := 4) sc_L_numbers.nd rfl (Or.inl rfl) (pe_op op_add pe_int (pe_callD D_L_draw (hr.mono (by decide)) (pa_cons (pv 0) (pa_cons (pv 1) pa_nil))))) (pss_cons (ps_set (i := 5) sc_L_numbers.nd rfl (Or.inl rfl) (pe_op op_add (pe_callB (call_max2 rfl) (by rfl) B.b_max bt_max (pa_cons (pv 3) (pa_cons (pv 4) pa_nil))) (pe_callD D_L_draw (hr.mono (by decide)) (pa_cons (pv 0) (pa_cons (pv 2) pa_nil))))) (pss_cons (ps_set (i := 6) sc_L_numbers.nd rfl (Or.inl rfl) (pe_callD D_L_draw (hr.mono (by decide)) (pa_cons (pv 0) (pa_cons pe_int pa_nil)))) (pss_cons (ps_if (pt_cmpR op_eq (pv 6) pe_int (nomark _)) (pss_one (ps_ret (pe_tup (pa_cons (pe_callD D_L_cut (hr.mono (by decide)) (pa_cons (pv 0) (pa_cons (pv 5) (pa_cons (pv 3) pa_nil)))) (pa_cons (pe_revL (pe_callD D_L_cut (hr.mono (by decide)) (pa_cons (pv 0) (pa_cons (pv 5) (pa_cons (pv 3) pa_nil))))) pa_nil))))) pss_nil) (pss_cons (ps_set (i := 7) sc_L_numbers.nd rfl (Or.inl rfl) (pe_callD D_L_cut (hr.mono (by decide)) (pa_cons (pv 0) (pa_cons (pv 5) (pa_cons (pv 3) pa_nil))))) (pss_cons (ps_if (pt_cmpR op_eq (pv 6) pe_int (nomark _)) (pss_one (ps_ret (pe_tup (pa_cons (pv 7) (pa_cons (pe_revL (pv 7)) pa_nil))))) pss_nil) (pss_one (ps_ret (pe_tup (pa_cons (pv 7) (pa_cons (pe_callD D_L_cut (hr.mono (by decide)) (pa_cons (pv 0) (pa_cons (pv 5) (pa_cons (pv 4) pa_nil)))) pa_nil))))))))))))

/-! ### _law_unit -/
abbrev s_L_unit : Stmt := top 29
def sp_L_unit (K : PySem.W.Frag) (C : CA) : Sp := fun vs H Q _ => ∃ (m c : Addr), vs = [.ref m] ∧ Hand H m c ∧
  ∀ (u : Rat) (w : V) (H' : Hp), 0 < u.num → u.num ≤ 1000000000000 → u.den ≤ 1000000000 → KL m H H' → Hand H' m c → Im H' w (fr u) → Q w H'

@[reducible] def N_L_unit : List Str := ["_law_hand_here", "_law_menu"]
def t_L_unit (K : PySem.W.Frag) (C : CA) : TS :=
  (tSeq (tAsg (tLst (tCons (tTup (tCons (tC (.int 1)) (tCons (tC (.int 1)) tNil))) (tCons (tTup (tCons (tC (.int 1)) (tCons (tC (.int 1)) tNil))) (tCons (tTup (tCons (tC (.int 2)) (tCons (tC (.int 1)) tNil))) (tCons (tTup (tCons (tC (.int 1)) (tCons (tC (.int 2)) tNil))) (tCons (tTup (tCons (tC (.int 3)) (tCons (tC (.int 4)) tNil))) (tCons (tTup (tCons (tC (.int 10)) (tCons (tC (.int 1)) tNil))) (tCons (tTup (tCons (tC (.int 7)) (tCons (tC (.int 3)) tNil))) (tCons (tTup (tCons (tOp oPow (tC (.int 10)) (tC (.int 12))) (tCons (tC (.int 1)) tNil))) (tCons (tTup (tCons (tC (.int 1)) (tCons (tOp oPow (tC (.int 10)) (tC (.int 9))) tNil))) tNil)))))))))) (gName 1)) (tRet (tOp (rIxL K) (tVar 1) (tCall (sp_L_draw K C) [] E0 (tCons (tVar 0) (tCons (tC (.int 9)) tNil))))))

theorem rd_L_unit {K : PySem.W.Frag} {C : CA} {vs : List V} {H : Hp} {Q : VK} {E : XK} (h : sp_L_unit K C vs H Q E) : t_L_unit K C { nx := fun _ H' => Q .non H', rt := Q } (start N_L_unit vs) H := by
  obtain ⟨m, c, rfl, hm, q⟩ := h
  unfold t_L_unit
  walk_at "go"
  rename_i l Hl nl sl el
  refine ⟨m, c, 9, rfl, by walk_at "keep", by decide, by decide, fun d H1 h0 h1 kl hm1 => ?_⟩
  have nml : l ≠ m := ((hand_ne (m := m) (c := c) nl (by walk_at "keep")).1).symm
  have hd : d = 0 ∨ d = 1 ∨ d = 2 ∨ d = 3 ∨ d = 4 ∨ d = 5 ∨ d = 6 ∨ d = 7 ∨ d = 8 := by omega
  rcases hd with rfl | rfl | rfl | rfl | rfl | rfl | rfl | rfl | rfl
  all_goals
    walk_at "go"
  · exact q 1 _ _ (by decide) (by decide) (by decide) (by walk_at "sm") hm1 (Im.fr_of (by walk_at "keep"))
  · exact q 1 _ _ (by decide) (by decide) (by decide) (by walk_at "sm") hm1 (Im.fr_of (by walk_at "keep"))
  · exact q 2 _ _ (by decide) (by decide) (by decide) (by walk_at "sm") hm1 (Im.fr_of (by walk_at "keep"))
  · exact q (mkRat 1 2) _ _ (by decide) (by decide) (by decide) (by walk_at "sm") hm1 (Im.fr_of (by walk_at "keep"))
  · exact q (mkRat 3 4) _ _ (by decide) (by decide) (by decide) (by walk_at "sm") hm1 (Im.fr_of (by walk_at "keep"))
  · exact q 10 _ _ (by decide) (by decide) (by decide) (by walk_at "sm") hm1 (Im.fr_of (by walk_at "keep"))
  · exact q (mkRat 7 3) _ _ (by decide) (by decide) (by decide) (by walk_at "sm") hm1 (Im.fr_of (by walk_at "keep"))
  · exact q 1000000000000 _ _ (by decide) (by decide) (by decide) (by walk_at "sm") hm1 (Im.fr_of (by walk_at "keep"))
  · exact q (mkRat 1 1000000000) _ _ (by decide) (by decide) (by decide) (by walk_at "sm") hm1 (Im.fr_of (by walk_at "keep"))

theorem sc_L_unit : FnScope N_L_unit ["_law_hand_here"] (defScope s_L_unit) := ⟨rfl, rfl, rfl, by decide +kernel, rfl, by decide +kernel, by decide +kernel⟩
theorem ok_L_unit {P : Program} {w : World} {K : PySem.W.Frag} {mg : Str → Option Value} {base : Heap} {C : CA} {f : Addr} {fd : FuncData} (T : CT K C) (B : Bi mg C) (F : Fun K "_law_unit" "_law_unit" s_L_unit f fd) (D_L_draw : Okd P w K mg base 1 "_law_draw" ["_law_hand_here", "_law_many"] (sp_L_draw K C)) : FnOk P w K mg base CX0 2 f fd ["_law_hand_here"] (sp_L_unit K C) := by
  refine F.ok sc_L_unit (fun vs H Q E h => ?_) (fun cdv A outer s H vs Q E hr h => ⟨t_L_unit K C, ?_, rd_L_unit h⟩)
  · obtain ⟨_, _, rfl, _⟩ := h
    rfl
  · exact (pss_cons (ps_set (i := 1) sc_L_unit.nd rfl (Or.inl rfl) (pe_lst (pa_cons (pe_tup (pa_cons pe_int (pa_cons pe_int pa_nil))) (pa_cons (pe_tup (pa_cons pe_int (pa_cons pe_int pa_nil))) (pa_cons (pe_tup (pa_cons pe_int (pa_cons pe_int pa_nil))) (pa_cons (pe_tup (pa_cons pe_int (pa_cons pe_int pa_nil))) (pa_cons (pe_tup (pa_cons pe_int (pa_cons pe_int pa_nil))) (pa_cons (pe_tup (pa_cons pe_int (pa_cons pe_int pa_nil))) (pa_cons (pe_tup (pa_cons pe_int (pa_cons pe_int pa_nil))) (pa_cons (pe_tup (pa_cons (pe_op op_pow pe_int pe_int) (pa_cons pe_int pa_nil))) (pa_cons (pe_tup (pa_cons pe_int (pa_cons (pe_op op_pow pe_int pe_int) pa_nil))) pa_nil))))))))))) (pss_one (ps_ret (pe_ix ix_list (pv 1) (pe_callD D_L_draw (hr.mono (by decide)) (pa_cons (pv 0) (pa_cons pe_int pa_nil))) (fun _ _ => rfl)))))

/-! ### _law_sums -/
abbrev s_L_sums : Stmt := top 30
def sp_L_sums (K : PySem.W.Frag) (C : CA) : Sp := fun vs H Q _ => ∃ (m c : Addr) (side most : Nat), vs = [.ref m, .int (side : Nat), .int (most : Nat)] ∧ Hand H m c ∧ 1 ≤ side ∧ side ≤ 100 ∧ 1 ≤ most ∧ most ≤ 1000000000000 ∧
  ∀ (w a b : V) (p : Addr) (o d : List Rat) (H' : Hp), KL m H H' → Hand H' m c → w = .ref p → H' p = some (.tup [a, b]) → Im H' a (.tuple (o.map fr)) → Im H' b (.tuple (d.map fr)) → Drawn side o d → Q w H'

@[reducible] def N_L_sums : List Str := ["_law_hand_here", "_law_side", "_law_most", "_law_owed", "_law_due_here", "_law_unit_here", "_law_number"]
def t_L_sums (K : PySem.W.Frag) (C : CA) : TS :=
  (tSeq (tAsg (tCall (sp_L_numbers K C) [] E0 (tCons (tVar 0) (tCons (tVar 1) (tCons (tVar 2) tNil)))) (gTup K 2 (gCons (gName 3) (gCons (gName 4) gNil)))) (tSeq (tAsg (tCall (sp_L_unit K C) [] E0 (tCons (tVar 0) tNil)) (gName 5)) (tRet (tTup (tCons (tCB (cTup K) (tCons (tLc (iList K (tVar 3)) (gName 6) tYes (tCall (sp_L_times K C) [] E0 (tCons (tTup (tCons (tVar 6) (tCons (tC (.int 1)) tNil))) (tCons (tVar 5) tNil))) [6]) tNil)) (tCons (tCB (cTup K) (tCons (tLc (iList K (tVar 4)) (gName 6) tYes (tCall (sp_L_times K C) [] E0 (tCons (tTup (tCons (tVar 6) (tCons (tC (.int 1)) tNil))) (tCons (tVar 5) tNil))) [6]) tNil)) tNil))))))

theorem rd_L_sums {K : PySem.W.Frag} {C : CA} {vs : List V} {H : Hp} {Q : VK} {E : XK} (h : sp_L_sums K C vs H Q E) : t_L_sums K C { nx := fun _ H' => Q .non H', rt := Q } (start N_L_sums vs) H := by
  obtain ⟨m, c, side, most, rfl, hm, h1, h2, h3, h4, q⟩ := h
  unfold t_L_sums
  walk_at "go"
  refine ⟨m, c, side, most, rfl, hm, h1, h2, h3, h4, fun w a b ns ks H1 kl1 hm1 nam nbm hw ha hb es sb n1 n2 k1 k2 po pk => ?_⟩
  walk_at "go"
  refine ⟨m, c, rfl, hm1, fun u wu H2 u0 u1 ud kl2 hm2 hu => ?_⟩
  have ha2 : H2 a = some (.lst (ns.map V.int)) := kl2.keep _ _ nam ha
  have hb2 : H2 b = some (.lst (ks.map V.int)) := kl2.keep _ _ nbm hb
  have hu148 : u.num.natAbs < 2 ^ 148 ∧ u.den < 2 ^ 148 := by
    have : 1000000000000 < 2 ^ 148 := by decide
    omega
  have turn : ∀ (zs : List Int), zs.sum < 2000000000000 → (∀ n ∈ zs, 1 ≤ n) → ∀ (e : PyData), e ∈ zs.map PyData.int → ∃ n : Int, e = .int n ∧ 1 ≤ n ∧ n.natAbs < 2 ^ 148 := by
    intro zs hs hz e he
    obtain ⟨n, hn, rfl⟩ := List.mem_map.mp he
    have l1 := le_sum hz n hn
    have l2 := hz n hn
    have : 2000000000000 < 2 ^ 148 := by decide
    exact ⟨n, rfl, l2, by omega⟩
  have fmap : ∀ zs : List Int, (zs.map PyData.int).map (fun d => match d with | .int n => fr ((n : Rat) * u) | d => d) = (zs.map fun n : Int => (n : Rat) * u).map fr := by
    intro zs
    rw [List.map_map, List.map_map]
    rfl
  walk_at "go"
  refine lcL_of (es := ns.map PyData.int) (fun d => match d with | .int n => fr ((n : Rat) * u) | d => d) (SqL.of ha2) (ImL.ints ns) (by rw [List.length_map]; exact small1000 (by omega)) (fun e x H3 N he s3 hx hN => ?_) (fun D H3 ys hD s3 e3 hy => ?_)
  · obtain ⟨n, rfl, hn1, hn2⟩ := turn ns sb po e he
    simp only [Im] at hx
    subst hx
    walk_at "go"
    refine ⟨rfl, ?_⟩
    walk_at "go"
    rename_i p4 H4 n4 s4 e4
    refine ⟨_, wu, (n : Rat), u, rfl, Im.fr_of (by simpa using e4), by walk_at "keep", by simpa using hn2, by simp, hu148.1, hu148.2, fun z H5 s5 hz => ?_⟩
    exact hN z H5 (s4.trans s5) hz
  · rw [fmap] at hy
    walk_at "go"
    refine i_ctupL e3 (fun t1 H4 n4 s4 e4 => ?_)
    walk_at "go"
    refine lcL_of (es := ks.map PyData.int) (fun d => match d with | .int n => fr ((n : Rat) * u) | d => d) (SqL.of (by walk_at "keep")) (ImL.ints ks) (by rw [List.length_map]; exact small1000 (by omega)) (fun e x H5 N he s5 hx hN => ?_) (fun D2 H5 ys2 hD2 s5 e5 hy2 => ?_)
    · obtain ⟨n, rfl, hn1, hn2⟩ := turn ks (by omega) pk e he
      simp only [Im] at hx
      subst hx
      walk_at "go"
      refine ⟨rfl, ?_⟩
      walk_at "go"
      rename_i p6 H6 n6 s6 e6
      refine ⟨_, wu, (n : Rat), u, rfl, Im.fr_of (by simpa using e6), by walk_at "keep", by simpa using hn2, by simp, hu148.1, hu148.2, fun z H7 s7 hz => ?_⟩
      exact hN z H7 (s6.trans s7) hz
    · rw [fmap] at hy2
      walk_at "go"
      refine i_ctupL e5 (fun t2 H6 n6 s6 e6 => ?_)
      walk_at "go"
      rename_i t3 H7 n7 s7 e7
      have b1 := drawn_bs po sb u0 u1
      have b2 := drawn_bs pk (by omega) u0 u1
      have hd0 : 0 < u.den := Nat.pos_of_ne_zero u.den_nz
      refine q _ _ _ t3 _ _ H7 ?_ ?_ rfl e7 (Im.tup (by walk_at "keep") (by walk_at "keep")) (Im.tup (by walk_at "keep") (by walk_at "keep")) ⟨by simpa using n1, by simpa using n2, by simpa using k1, by simpa using k2, by rw [sum_mul, sum_mul, es], fun q hq => (b1 q hq).1, fun q hq => (b2 q hq).1, ?_, ⟨u.den, ⟨hd0, ?_⟩, ?_⟩, ?_⟩
      · walk_at "sm"
      · walk_at "keep"
      · rw [List.length_append, List.length_map, List.length_map]; omega
      · intro q hq
        rcases List.mem_append.mp hq with hq | hq
        · exact (b1 q hq).2.2
        · exact (b2 q hq).2.2
      · have : 1000000000 < 2 ^ 48 := by decide
        omega
      · intro q hq
        rcases List.mem_append.mp hq with hq | hq
        · exact (b1 q hq).2.1
        · exact (b2 q hq).2.1

theorem sc_L_sums : FnScope N_L_sums ["_law_hand_here", "_law_side", "_law_most"] (defScope s_L_sums) := ⟨rfl, rfl, rfl, by decide +kernel, rfl, by decide +kernel, by decide +kernel⟩
theorem ok_L_sums {P : Program} {w : World} {K : PySem.W.Frag} {mg : Str → Option Value} {base : Heap} {C : CA} {f : Addr} {fd : FuncData} (T : CT K C) (B : Bi mg C) (F : Fun K "_law_sums" "_law_sums" s_L_sums f fd) (D_L_times : Okd P w K mg base 3 "_law_times" ["_law_one", "_law_other"] (sp_L_times K C)) (D_L_numbers : Okd P w K mg base 3 "_law_numbers" ["_law_hand_here", "_law_side", "_law_most"] (sp_L_numbers K C)) (D_L_unit : Okd P w K mg base 2 "_law_unit" ["_law_hand_here"] (sp_L_unit K C)) : FnOk P w K mg base CX0 4 f fd ["_law_hand_here", "_law_side", "_law_most"] (sp_L_sums K C) := by
  refine F.ok sc_L_sums (fun vs H Q E h => ?_) (fun cdv A outer s H vs Q E hr h => ⟨t_L_sums K C, ?_, rd_L_sums h⟩)
  · obtain ⟨_, _, _, _, rfl, _⟩ := h
    rfl
  · exact (pss_cons (ps_asg (pe_callD D_L_numbers (hr.mono (by decide)) (pa_cons (pv 0) (pa_cons (pv 1) (pa_cons (pv 2) pa_nil)))) (pg_tup rfl (pgs_cons (pg_name (i := 3) sc_L_sums.nd rfl (Or.inl rfl)) (pgs_cons (pg_name (i := 4) sc_L_sums.nd rfl (Or.inl rfl)) pgs_nil)))) (pss_cons (ps_set (i := 5) sc_L_sums.nd rfl (Or.inr rfl) (pe_callD D_L_unit (hr.mono (by decide)) (pa_cons (pv 0) pa_nil))) (pss_one (ps_ret (pe_tup (pa_cons (pe_callTy call_tuple_of (by rfl) B.b_tuple bt_tuple (pa_cons (pe_lc (own := [("_law_number", 6)]) (g := (gName 6)) (tt := tYes) rfl sc_L_sums.nd (pi_list (pv 3)) (blkOk_by (own := [("_law_number", 6)]) (N := N_L_sums) (sc := defScope s_L_sums) (by decide +kernel)) (fun _ _ _ _ _ => (pg_name (i := 6) sc_L_sums.nd rfl (Or.inl rfl))) (fun _ _ _ _ _ => pts_nil) (fun _ _ _ _ _ => (pe_callD D_L_times (hr.mono (by decide)) (pa_cons (pe_tup (pa_cons (pv 6) (pa_cons pe_int pa_nil))) (pa_cons (pv 5) pa_nil))))) pa_nil)) (pa_cons (pe_callTy call_tuple_of (by rfl) B.b_tuple bt_tuple (pa_cons (pe_lc (own := [("_law_number", 6)]) (g := (gName 6)) (tt := tYes) rfl sc_L_sums.nd (pi_list (pv 4)) (blkOk_by (own := [("_law_number", 6)]) (N := N_L_sums) (sc := defScope s_L_sums) (by decide +kernel)) (fun _ _ _ _ _ => (pg_name (i := 6) sc_L_sums.nd rfl (Or.inl rfl))) (fun _ _ _ _ _ => pts_nil) (fun _ _ _ _ _ => (pe_callD D_L_times (hr.mono (by decide)) (pa_cons (pe_tup (pa_cons (pv 6) (pa_cons pe_int pa_nil))) (pa_cons (pv 5) pa_nil))))) pa_nil)) pa_nil)))))))

/-! ### _law_plus -/
abbrev s_L_plus : Stmt := top 22
def sp_L_plus (K : PySem.W.Frag) (C : CA) : Sp := fun vs H Q _ => ∃ (v w : V) (p r : Rat), vs = [v, w] ∧ Im H v (fr p) ∧ Im H w (fr r) ∧ p.num.natAbs < 2 ^ 230 ∧ p.den < 2 ^ 60 ∧ r.num.natAbs < 2 ^ 230 ∧ r.den < 2 ^ 60 ∧ Ret H Q (fr (p + r))

@[reducible] def N_L_plus : List Str := ["_law_one", "_law_other"]
def t_L_plus (K : PySem.W.Frag) (C : CA) : TS :=
  (tRet (tCall (sp_L_fraction K C) [] E0 (tCons (tOp oAdd (tOp oMul (tOp (rIxT K) (tVar 0) (tC (.int 0))) (tOp (rIxT K) (tVar 1) (tC (.int 1)))) (tOp oMul (tOp (rIxT K) (tVar 1) (tC (.int 0))) (tOp (rIxT K) (tVar 0) (tC (.int 1))))) (tCons (tOp oMul (tOp (rIxT K) (tVar 0) (tC (.int 1))) (tOp (rIxT K) (tVar 1) (tC (.int 1)))) tNil))))

theorem plus_lt {a b c d : Nat} (ha : a < 2 ^ 230) (hb : b < 2 ^ 60) (hc : c < 2 ^ 230) (hd : d < 2 ^ 60) : a * b + c * d < 2 ^ 299 := by
  have h1 : a * b < 2 ^ 290 := Nat.lt_of_lt_of_le (Nat.mul_lt_mul'' ha hb) (by rw [← Nat.pow_add]; exact Nat.le_refl _)
  have h2 : c * d < 2 ^ 290 := Nat.lt_of_lt_of_le (Nat.mul_lt_mul'' hc hd) (by rw [← Nat.pow_add]; exact Nat.le_refl _)
  have h3 : 2 ^ 290 + 2 ^ 290 ≤ 2 ^ 299 := by decide
  omega
theorem rd_L_plus {K : PySem.W.Frag} {C : CA} {vs : List V} {H : Hp} {Q : VK} {E : XK} (h : sp_L_plus K C vs H Q E) : t_L_plus K C { nx := fun _ H' => Q .non H', rt := Q } (start N_L_plus vs) H := by
  obtain ⟨v, w, p, r, rfl, hv, hw, h1, h2, h3, h4, q⟩ := h
  obtain ⟨a, rfl, ha⟩ := hv.fr_at
  obtain ⟨b, rfl, hb⟩ := hw.fr_at
  have hp : 0 < p.den := Nat.pos_of_ne_zero p.den_nz
  have hr : 0 < r.den := Nat.pos_of_ne_zero r.den_nz
  unfold t_L_plus
  walk_at "go"
  refine ⟨p.num * r.den + r.num * p.den, p.den * r.den, by simp, Nat.mul_pos hp hr, ?_, ?_, ?_⟩
  · exact Nat.lt_trans (Nat.mul_lt_mul'' h2 h4) (by rw [← Nat.pow_add]; decide)
  · have e : (p.num * r.den + r.num * p.den).natAbs ≤ p.num.natAbs * r.den + r.num.natAbs * p.den := by
      refine Nat.le_trans (Int.natAbs_add_le _ _) ?_
      rw [Int.natAbs_mul, Int.natAbs_mul, Int.natAbs_natCast, Int.natAbs_natCast]
      exact Nat.le_refl _
    exact Nat.lt_of_le_of_lt e (plus_lt h1 h4 h3 h2)
  · have e : mkRat (p.num * r.den + r.num * p.den) (p.den * r.den) = p + r := by
      rw [← Rat.mkRat_add_mkRat _ _ (by omega) (by omega), Rat.mkRat_self, Rat.mkRat_self]
    rw [e]
    exact q

theorem sc_L_plus : FnScope N_L_plus ["_law_one", "_law_other"] (defScope s_L_plus) := ⟨rfl, rfl, rfl, by decide +kernel, rfl, by decide +kernel, by decide +kernel⟩
theorem ok_L_plus {P : Program} {w : World} {K : PySem.W.Frag} {mg : Str → Option Value} {base : Heap} {C : CA} {f : Addr} {fd : FuncData} (T : CT K C) (B : Bi mg C) (F : Fun K "_law_plus" "_law_plus" s_L_plus f fd) (D_L_fraction : Okd P w K mg base 2 "_law_fraction" ["_law_top", "_law_bottom"] (sp_L_fraction K C)) : FnOk P w K mg base CX0 3 f fd ["_law_one", "_law_other"] (sp_L_plus K C) := by
  refine F.ok sc_L_plus (fun vs H Q E h => ?_) (fun cdv A outer s H vs Q E hr h => ⟨t_L_plus K C, ?_, rd_L_plus h⟩)
  · obtain ⟨_, _, _, _, rfl, _⟩ := h
    rfl
  · exact (pss_one (ps_ret (pe_callD D_L_fraction (hr.mono (by decide)) (pa_cons (pe_op op_add (pe_op op_mulA (pe_ix ix_tup (pv 0) pe_int (fun _ _ => rfl)) (pe_ix ix_tup (pv 1) pe_int (fun _ _ => rfl))) (pe_op op_mulA (pe_ix ix_tup (pv 1) pe_int (fun _ _ => rfl)) (pe_ix ix_tup (pv 0) pe_int (fun _ _ => rfl)))) (pa_cons (pe_op op_mulA (pe_ix ix_tup (pv 0) pe_int (fun _ _ => rfl)) (pe_ix ix_tup (pv 1) pe_int (fun _ _ => rfl))) pa_nil)))))

/-! ### _law_sum -/
abbrev s_L_sum : Stmt := top 26
def sp_L_sum (K : PySem.W.Frag) (C : CA) : Sp := fun vs H Q _ => ∃ (v : V) (qs : List Rat), vs = [v] ∧ Im H v (.tuple (qs.map fr)) ∧ Bw qs ∧ Ret H Q (fr qs.sum)

@[reducible] def N_L_sum : List Str := ["_law_fractions", "_law_full", "_law_fraction_here"]
def t_L_sum (K : PySem.W.Frag) (C : CA) : TS :=
  (tSeq (tAsg (tTup (tCons (tC (.int 0)) (tCons (tC (.int 1)) tNil))) (gName 1)) (tSeq (tFor (iTup K (tVar 0)) (gName 2) (tAsg (tCall (sp_L_plus K C) [] E0 (tCons (tVar 1) (tCons (tVar 2) tNil))) (gName 1))) (tRet (tVar 1))))

theorem rd_L_sum {K : PySem.W.Frag} {C : CA} {vs : List V} {H : Hp} {Q : VK} {E : XK} (h : sp_L_sum K C vs H Q E) : t_L_sum K C { nx := fun _ H' => Q .non H', rt := Q } (start N_L_sum vs) H := by
  obtain ⟨v, qs, rfl, hv, hb, q⟩ := h
  obtain ⟨a, xs, rfl, ha, hl⟩ := hv.tup_at
  have hxl : xs.length = qs.length := by rw [hl.length, List.length_map]
  unfold t_L_sum
  walk_at "go"
  rename_i p0 H0 n0 s0 e0
  refine forT_of (sm_at s0 ha) (fun i σ H' => Same H0 H' ∧ ∃ (w : V) (y : Option V), σ = [some (.ref a), some w, y] ∧ Im H' w (fr (qs.take i).sum)) (fun _ _ => False)
    ⟨Same.refl _, _, none, rfl, Im.fr_of (by simpa using e0)⟩ (fun i σ H' p b ys e => p.1 _ _ e) ?_ ?_ (fun _ _ h => h.elim)
  · rintro i x σ H' N B hx ⟨s, w, y1, rfl, hw⟩ hN hB
    obtain ⟨e, he, hi⟩ := hl.get hx
    obtain ⟨r, hr, rfl⟩ := get_frs he
    have hrm : r ∈ qs := List.mem_of_getElem? hr
    obtain ⟨b1, b2⟩ := (hb.take i).sum
    obtain ⟨b3, b4⟩ := hb.den hrm
    walk_at "go"
    refine ⟨w, x, _, r, rfl, hw, sm_im s (sm_im s0 hi), b1, b2, b3, b4, fun z H2 s2 hz => ?_⟩
    walk_at "go"
    refine hN _ _ ⟨s.trans s2, z, _, rfl, ?_⟩
    rw [List.take_add_one, hr, List.sum_append]
    simpa [Rat.add_zero] using hz
  · rintro σ H' ⟨s, w, y1, rfl, hw⟩
    rw [hxl, List.take_length] at hw
    walk_at "go"
    exact q w H' (s0.trans s) hw

theorem sc_L_sum : FnScope N_L_sum ["_law_fractions"] (defScope s_L_sum) := ⟨rfl, rfl, rfl, by decide +kernel, rfl, by decide +kernel, by decide +kernel⟩
theorem ok_L_sum {P : Program} {w : World} {K : PySem.W.Frag} {mg : Str → Option Value} {base : Heap} {C : CA} {f : Addr} {fd : FuncData} (T : CT K C) (B : Bi mg C) (F : Fun K "_law_sum" "_law_sum" s_L_sum f fd) (D_L_plus : Okd P w K mg base 3 "_law_plus" ["_law_one", "_law_other"] (sp_L_plus K C)) : FnOk P w K mg base CX0 4 f fd ["_law_fractions"] (sp_L_sum K C) := by
  refine F.ok sc_L_sum (fun vs H Q E h => ?_) (fun cdv A outer s H vs Q E hr h => ⟨t_L_sum K C, ?_, rd_L_sum h⟩)
  · obtain ⟨_, _, rfl, _⟩ := h
    rfl
  · exact (pss_cons (ps_set (i := 1) sc_L_sum.nd rfl (Or.inl rfl) (pe_tup (pa_cons pe_int (pa_cons pe_int pa_nil)))) (pss_cons (ps_for PassesOwn.never rfl (pi_tup (pv 0)) (pg_name (i := 2) sc_L_sum.nd rfl (Or.inl rfl)) (pss_one (ps_set (i := 1) sc_L_sum.nd rfl (Or.inl rfl) (pe_callD D_L_plus (hr.mono (by decide)) (pa_cons (pv 1) (pa_cons (pv 2) pa_nil)))))) (pss_one (ps_ret (pv 1)))))

/-! ### _law_is_amount -/
abbrev s_L_is_amount : Stmt := top 33
def sp_L_is_amount (K : PySem.W.Frag) (C : CA) : Sp := fun vs H Q _ => ∃ (v : V) (d : Th) (P : Addr → Prop), vs = [v] ∧ ThR P H v d ∧ d.len ≤ 1000 ∧ (∀ i j, d = .tup [.int i, .int j] → i.natAbs < 2 ^ 100 ∧ j.natAbs < 2 ^ 100) ∧ ∀ H', Same H H' → Q (.bl d.amt) H'
theorem amt_len {l : List Th} (h : l.length ≠ 2) : (Th.tup l).amt = false := by
  match l, h with
  | [], _ => rfl
  | [x], _ => cases x <;> rfl
  | [_, _], h => exact absurd rfl h
  | x :: y :: _ :: _, _ => cases x <;> cases y <;> rfl
theorem amt_no {d : Th} (h : d.isTup = false) : d.amt = false := by
  cases d with
  | tup l => simp [Th.isTup] at h
  | int i => rfl
  | bl b => rfl
  | oth => rfl
def Th.isNum : Th → Bool
  | .int _ => true
  | _ => false

@[reducible] def N_L_is_amount : List Str := ["_law_thing", "_law_part"]
def t_L_is_amount (K : PySem.W.Frag) (C : CA) : TS :=
  (tSeq (tIfS (tOr (tNot (tB (tCB (rIsi K) (tCons (tVar 0) (tCons (tC (.ty "tuple")) tNil))))) (tTest (tOp rNe (tCB (cLen K) (tCons (tVar 0) tNil)) (tC (.int 2))))) (tRet (tC (.bl false))) tNext) (tSeq (tIfS (tTest (tOp oGt (tCB (cLen K) (tCons (tLc (iTup K (tVar 0)) (gName 1) (tOr (tNot (tB (tCB (rIsi K) (tCons (tVar 1) (tCons (tC (.ty "int")) tNil))))) (tB (tCB (rIsi K) (tCons (tVar 1) (tCons (tC (.ty "bool")) tNil))))) (tVar 1) [1]) tNil)) (tC (.int 0)))) (tRet (tC (.bl false))) tNext) (tRet (tAndV (tOp oGt (tOp (rIxT K) (tVar 0) (tC (.int 0))) (tC (.int 0))) (tAndV (tOp oGt (tOp (rIxT K) (tVar 0) (tC (.int 1))) (tC (.int 0))) (tOp rEq (tCall (sp_L_common K C) [] E0 (tCons (tOp (rIxT K) (tVar 0) (tC (.int 0))) (tCons (tOp (rIxT K) (tVar 0) (tC (.int 1))) tNil))) (tC (.int 1))))))))

theorem rd_L_is_amount {K : PySem.W.Frag} {C : CA} {vs : List V} {H : Hp} {Q : VK} {E : XK} (h : sp_L_is_amount K C vs H Q E) : t_L_is_amount K C { nx := fun _ H' => Q .non H', rt := Q } (start N_L_is_amount vs) H := by
  obtain ⟨v, d, P, rfl, hv, hs, hb, q⟩ := h
  unfold t_L_is_amount
  rcases th_cases d with ⟨l, rfl⟩ | ⟨h1, _⟩
  · obtain ⟨a, xs, rfl, ha, hl⟩ := hv.tup_at
    have hlen := hl.length
    simp only [Th.len] at hs
    walk_at "go"
    refine ite_nd (fun h => ?_) (fun h => ?_)
    · walk_at "go"
      rw [← amt_len (fun z => h (by rw [hlen, z]; rfl))]
      exact q _ (Same.refl _)
    · have h' : xs.length = 2 := by injection h with h; omega
      obtain ⟨vx, vy, rfl⟩ := len_two h'
      match l, hl, ha with
      | [x, y], hl, ha =>
        walk_at "go"
        refine lcThT_of (fun e => !e.isNum) ha hl (by simp) (fun e z H1 N M NE he s1 hz hNE hM => ?_) (fun D H1 ys nD s1 e1 hys => ?_)
        · walk_at "go"
          refine ⟨rfl, ?_⟩
          walk_at "go"
          refine i_isi_intT hz ?_
          walk_at "go"
          cases e with
          | int i =>
            simp only [ThR] at hz
            subst hz
            refine ite_nb (fun h => by simp [Th.isInt] at h) (fun h => ?_)
            walk_at "go"
            exact hM _ rfl (Same.refl _)
          | bl b =>
            simp only [ThR] at hz
            subst hz
            refine ite_nb (fun h => by simp [Th.isInt] at h) (fun h => ?_)
            walk_at "go"
            exact hNE _ _ rfl (Same.refl _)
          | tup l =>
            refine ite_nb (fun h => ?_) (fun h => by simp [Th.isInt] at h)
            walk_at "go"
            exact hNE _ _ rfl (Same.refl _)
          | oth =>
            refine ite_nb (fun h => ?_) (fun h => by simp [Th.isInt] at h)
            walk_at "go"
            exact hNE _ _ rfl (Same.refl _)
        · walk_at "go"
          have hz : ys.length = 0 ↔ (x.isNum = true ∧ y.isNum = true) := by
            rw [hys]
            have := all_notfilter Th.isNum [x, y]
            rw [this]
            simp
          refine ite_d (fun h => ?_) (fun h => ?_)
          · walk_at "go"
            have e : (Th.tup [x, y]).amt = false := by
              rw [← Bool.not_eq_true]
              intro z
              obtain ⟨q, e, _⟩ := amt_iff.mp z
              simp only [frT, Th.tup.injEq, List.cons.injEq, and_true] at e
              obtain ⟨rfl, rfl⟩ := e
              have := hz.mpr ⟨rfl, rfl⟩
              omega
            rw [← e]
            exact q _ s1
          · obtain ⟨n1, n2⟩ := hz.mp (by omega)
            cases x with
            | int i =>
              cases y with
              | int j =>
                simp only [ThL, ThR] at hl
                obtain ⟨rfl, rfl, _⟩ := hl
                obtain ⟨b1, b2⟩ := hb i j rfl
                have ha1 := s1 _ _ ha
                walk_at "go"
                refine ite_d (fun h1 => ?_) (fun h1 => ?_)
                · walk_at "go"
                  refine ite_d (fun h2 => ?_) (fun h2 => ?_)
                  · walk_at "go"
                    refine ⟨i, j, rfl, ?_, ?_⟩
                    · have : i.natAbs * j.natAbs < 2 ^ 100 * 2 ^ 100 := Nat.mul_lt_mul'' b1 b2
                      exact Nat.lt_trans this (by decide)
                    · walk_at "go"
                      have e : (Th.tup [.int i, .int j]).amt = decide (V.int ((i.natAbs.gcd j.natAbs : Nat) : Int) = V.int 1) := by
                        simp only [Th.amt]
                        rw [Bool.eq_iff_iff, decide_eq_true_eq, decide_eq_true_eq]
                        constructor
                        · rintro ⟨_, _, h⟩; rw [h]; rfl
                        · intro h; injection h with h; exact ⟨h1, h2, by omega⟩
                      rw [← e]
                      exact q _ s1
                  · have e : (Th.tup [.int i, .int j]).amt = false := decide_eq_false fun z => h2 z.2.1
                    rw [← e]
                    exact q _ s1
                · have e : (Th.tup [.int i, .int j]).amt = false := decide_eq_false fun z => h1 z.1
                  rw [← e]
                  exact q _ s1
              | bl b => simp [Th.isNum] at n2
              | tup l => simp [Th.isNum] at n2
              | oth => simp [Th.isNum] at n2
            | bl b => simp [Th.isNum] at n1
            | tup l => simp [Th.isNum] at n1
            | oth => simp [Th.isNum] at n1
  · walk_at "go"
    refine i_isi_tupT hv ?_
    rw [h1]
    walk_at "go"
    rw [← amt_no h1]
    exact q _ (Same.refl _)

theorem sc_L_is_amount : FnScope N_L_is_amount ["_law_thing"] (defScope s_L_is_amount) := ⟨rfl, rfl, rfl, by decide +kernel, rfl, by decide +kernel, by decide +kernel⟩
theorem ok_L_is_amount {P : Program} {w : World} {K : PySem.W.Frag} {mg : Str → Option Value} {base : Heap} {C : CA} {f : Addr} {fd : FuncData} (T : CT K C) (B : Bi mg C) (F : Fun K "_law_is_amount" "_law_is_amount" s_L_is_amount f fd) (D_L_common : Okd P w K mg base 1 "_law_common" ["_law_one", "_law_other"] (sp_L_common K C)) : FnOk P w K mg base CX0 2 f fd ["_law_thing"] (sp_L_is_amount K C) := by
  refine F.ok sc_L_is_amount (fun vs H Q E h => ?_) (fun cdv A outer s H vs Q E hr h => ⟨t_L_is_amount K C, ?_, rd_L_is_amount h⟩)
  · obtain ⟨_, _, _, rfl, _⟩ := h
    rfl
  · exact (pss_cons (ps_if (PW.pt (pw_or (pt_not (pt_val (pe_callB call_isi (by rfl) B.b_isinstance bt_isinstance (pa_cons (pv 0) (pa_cons (pe_bltn (v := .ty "tuple") (by rfl) B.b_tuple bt_tuple rfl) pa_nil))))) (pw_or1 (pt_cmpR op_ne (pe_callB call_len (by rfl) B.b_len bt_len (pa_cons (pv 0) pa_nil)) pe_int (nomark _))))) (pss_one (ps_ret pe_bl)) pss_nil) (pss_cons (ps_if (pt_cmpR op_gt (pe_callB call_len (by rfl) B.b_len bt_len (pa_cons (pe_lc (own := [("_law_part", 1)]) (g := (gName 1)) (tt := (tOr (tNot (tB (tCB (rIsi K) (tCons (tVar 1) (tCons (tC (.ty "int")) tNil))))) (tB (tCB (rIsi K) (tCons (tVar 1) (tCons (tC (.ty "bool")) tNil)))))) rfl sc_L_is_amount.nd (pi_tup (pv 0)) (blkOk_by (own := [("_law_part", 1)]) (N := N_L_is_amount) (sc := defScope s_L_is_amount) (by decide +kernel)) (fun _ _ _ _ _ => (pg_name (i := 1) sc_L_is_amount.nd rfl (Or.inl rfl))) (fun _ _ _ _ _ => (pts_one (PW.pt (pw_or (pt_not (pt_val (pe_callB call_isi (by rfl) B.b_isinstance bt_isinstance (pa_cons (pv 1) (pa_cons (pe_bltn (v := .ty "int") (by rfl) B.b_int bt_int rfl) pa_nil))))) (pw_or1 (pt_val (pe_callB call_isi (by rfl) B.b_isinstance bt_isinstance (pa_cons (pv 1) (pa_cons (pe_bltn (v := .ty "bool") (by rfl) B.b_bool bt_bool rfl) pa_nil))))))))) (fun _ _ _ _ _ => (pv 1))) pa_nil)) pe_int (nomark _)) (pss_one (ps_ret pe_bl)) pss_nil) (pss_one (ps_ret (pe_and (pe_cmpR op_gt (pe_ix ix_tup (pv 0) pe_int (fun _ _ => rfl)) pe_int (nomark _)) (pe_and (pe_cmpR op_gt (pe_ix ix_tup (pv 0) pe_int (fun _ _ => rfl)) pe_int (nomark _)) (pe_one (pe_cmpR op_eq (pe_callD D_L_common (hr.mono (by decide)) (pa_cons (pe_ix ix_tup (pv 0) pe_int (fun _ _ => rfl)) (pa_cons (pe_ix ix_tup (pv 0) pe_int (fun _ _ => rfl)) pa_nil))) pe_int (nomark _)))))))))

/-! ### _law_are_sums -/
abbrev s_L_are_sums : Stmt := top 34
def sp_L_are_sums (K : PySem.W.Frag) (C : CA) : Sp := fun vs H Q _ => ∃ (v : V) (d : Th) (P : Addr → Prop) (M : Nat), vs = [v] ∧ ThR P H v d ∧ SideT M d ∧ ∀ H', Same H H' → Q (.bl d.side) H'

@[reducible] def N_L_are_sums : List Str := ["_law_thing", "_law_item"]
def t_L_are_sums (K : PySem.W.Frag) (C : CA) : TS :=
  (tSeq (tIfS (tOr (tNot (tB (tCB (rIsi K) (tCons (tVar 0) (tCons (tC (.ty "tuple")) tNil))))) (tNot (tTest (tChain oLe oLe (tC (.int 1)) (tCB (cLen K) (tCons (tVar 0) tNil)) (tC (.int 100)))))) (tRet (tC (.bl false))) tNext) (tRet (tOp rEq (tCB (cLen K) (tCons (tLc (iTup K (tVar 0)) (gName 1) (tNot (tB (tCall (sp_L_is_amount K C) [] E0 (tCons (tVar 1) tNil)))) (tVar 1) [1]) tNil)) (tC (.int 0)))))

theorem rd_L_are_sums {K : PySem.W.Frag} {C : CA} {vs : List V} {H : Hp} {Q : VK} {E : XK} (h : sp_L_are_sums K C vs H Q E) : t_L_are_sums K C { nx := fun _ H' => Q .non H', rt := Q } (start N_L_are_sums vs) H := by
  obtain ⟨v, d, P, M, rfl, hv, hs, q⟩ := h
  unfold t_L_are_sums
  rcases th_cases d with ⟨l, rfl⟩ | ⟨h1, _⟩
  · obtain ⟨a, xs, rfl, ha, hl⟩ := hv.tup_at
    have hlen := hl.length
    have hln := hs.ln
    simp only [Th.len] at hln
    walk_at "go"
    refine ite_d (fun h => ?_) (fun h => ?_)
    · walk_at "go"
      refine ite_nd (fun h2 => ?_) (fun h2 => ?_)
      · walk_at "go"
        have e : (Th.tup l).side = false := by
          simp only [Th.side]
          rw [decide_eq_false (fun z => h2 (by omega)), Bool.false_and]
        rw [← e]
        exact q _ (Same.refl _)
      · walk_at "go"
        refine lcThT_of (fun e => !e.amt) ha hl (by omega) (fun e z H1 N M' NE he s1 hz hNE hM => ?_) (fun D H1 ys nD s1 e1 hys => ?_)
        · obtain ⟨b1, b2⟩ := hs.el l rfl e he
          walk_at "go"
          refine ⟨rfl, ?_⟩
          walk_at "go"
          refine ⟨z, e, P, rfl, hz, b1, fun i j e' => ⟨(b2 i j e').1, (b2 i j e').2.1⟩, fun H2 s2 => ?_⟩
          walk_at "go"
          refine ite_nb (fun h => ?_) (fun h => ?_)
          · walk_at "go"
            exact hNE _ _ (by simp [h]) s2
          · exact hM _ (by simp [h]) s2
        · walk_at "go"
          have hz : ys.length = 0 ↔ l.all Th.amt = true := by rw [hys]; exact all_notfilter Th.amt l
          have e3 : decide (V.int ((ys.length : Nat) : Int) = V.int 0) = (Th.tup l).side := by
            simp only [Th.side]
            rw [show decide (1 ≤ l.length ∧ l.length ≤ 100) = true from decide_eq_true (by omega), Bool.true_and, Bool.eq_iff_iff, decide_eq_true_eq, ← hz]
            constructor
            · intro h; injection h with h; omega
            · intro h; rw [h]; rfl
          rw [e3]
          exact q _ s1
    · walk_at "go"
      have e : (Th.tup l).side = false := by
        simp only [Th.side]
        rw [decide_eq_false (fun z => h (by omega)), Bool.false_and]
      rw [← e]
      exact q _ (Same.refl _)
  · walk_at "go"
    refine i_isi_tupT hv ?_
    rw [h1]
    walk_at "go"
    have e : d.side = false := by
      cases d with
      | tup l => simp [Th.isTup] at h1
      | int i => rfl
      | bl b => rfl
      | oth => rfl
    rw [← e]
    exact q _ (Same.refl _)

theorem sc_L_are_sums : FnScope N_L_are_sums ["_law_thing"] (defScope s_L_are_sums) := ⟨rfl, rfl, rfl, by decide +kernel, rfl, by decide +kernel, by decide +kernel⟩
theorem ok_L_are_sums {P : Program} {w : World} {K : PySem.W.Frag} {mg : Str → Option Value} {base : Heap} {C : CA} {f : Addr} {fd : FuncData} (T : CT K C) (B : Bi mg C) (F : Fun K "_law_are_sums" "_law_are_sums" s_L_are_sums f fd) (D_L_is_amount : Okd P w K mg base 2 "_law_is_amount" ["_law_thing"] (sp_L_is_amount K C)) : FnOk P w K mg base CX0 3 f fd ["_law_thing"] (sp_L_are_sums K C) := by
  refine F.ok sc_L_are_sums (fun vs H Q E h => ?_) (fun cdv A outer s H vs Q E hr h => ⟨t_L_are_sums K C, ?_, rd_L_are_sums h⟩)
  · obtain ⟨_, _, _, _, rfl, _⟩ := h
    rfl
  · exact (pss_cons (ps_if (PW.pt (pw_or (pt_not (pt_val (pe_callB call_isi (by rfl) B.b_isinstance bt_isinstance (pa_cons (pv 0) (pa_cons (pe_bltn (v := .ty "tuple") (by rfl) B.b_tuple bt_tuple rfl) pa_nil))))) (pw_or1 (pt_not (pt_chain op_le op_le pe_int (pe_callB call_len (by rfl) B.b_len bt_len (pa_cons (pv 0) pa_nil)) pe_int))))) (pss_one (ps_ret pe_bl)) pss_nil) (pss_one (ps_ret (pe_cmpR op_eq (pe_callB call_len (by rfl) B.b_len bt_len (pa_cons (pe_lc (own := [("_law_item", 1)]) (g := (gName 1)) (tt := (tNot (tB (tCall (sp_L_is_amount K C) [] E0 (tCons (tVar 1) tNil))))) rfl sc_L_are_sums.nd (pi_tup (pv 0)) (blkOk_by (own := [("_law_item", 1)]) (N := N_L_are_sums) (sc := defScope s_L_are_sums) (by decide +kernel)) (fun _ _ _ _ _ => (pg_name (i := 1) sc_L_are_sums.nd rfl (Or.inl rfl))) (fun _ _ _ _ _ => (pts_one (pt_not (pt_val (pe_callD D_L_is_amount (hr.mono (by decide)) (pa_cons (pv 1) pa_nil)))))) (fun _ _ _ _ _ => (pv 1))) pa_nil)) pe_int (nomark _)))))

/-! ### _law_due -/
abbrev s_L_due : Stmt := top 35
def sp_L_due (K : PySem.W.Frag) (C : CA) : Sp := fun vs H Q _ => ∃ (vo vd : V) (to td : Th) (P : Addr → Prop) (M : Nat), vs = [vo, vd] ∧ ThR P H vo to ∧ ThR P H vd td ∧ SideT M to ∧ SideT M td ∧ 0 < M ∧ M < 2 ^ 48 ∧
  (to.side = false → ∀ H', Same H H' → Q (.str "owed") H') ∧ (to.side = true → td.side = false → ∀ H', Same H H' → Q (.str "due") H') ∧
  (∀ o e : List Rat, to = .tup (o.map frT) → td = .tup (e.map frT) → to.side = true → td.side = true → o.sum ≠ e.sum → ∀ H', Same H H' → Q (.str "sums") H') ∧
  (∀ o e : List Rat, to = .tup (o.map frT) → td = .tup (e.map frT) → to.side = true → td.side = true → o.sum = e.sum → ∀ H', Same H H' → Q (.str "let") H')
theorem Lside_frs {d : Th} (h : d.side = true) : ∃ qs : List Rat, d = .tup (qs.map frT) ∧ ∀ q ∈ qs, 0 < q.num := by
  cases d with
  | tup l =>
    simp only [Th.side, Bool.and_eq_true] at h
    obtain ⟨qs, rfl, hq⟩ := all_amt h.2
    exact ⟨qs, rfl, hq⟩
  | int i => simp [Th.side] at h
  | bl b => simp [Th.side] at h
  | oth => simp [Th.side] at h

@[reducible] def N_L_due : List Str := ["_law_owed", "_law_due_here"]
def t_L_due (K : PySem.W.Frag) (C : CA) : TS :=
  (tSeq (tIfS (tNot (tB (tCall (sp_L_are_sums K C) [] E0 (tCons (tVar 0) tNil)))) (tRet (tC (.str "owed"))) tNext) (tSeq (tIfS (tNot (tB (tCall (sp_L_are_sums K C) [] E0 (tCons (tVar 1) tNil)))) (tRet (tC (.str "due"))) tNext) (tRet (tIf (tTest (tOp (rEqD K) (tCall (sp_L_sum K C) [] E0 (tCons (tVar 0) tNil)) (tCall (sp_L_sum K C) [] E0 (tCons (tVar 1) tNil)))) (tC (.str "let")) (tC (.str "sums"))))))

theorem rd_L_due {K : PySem.W.Frag} {C : CA} {vs : List V} {H : Hp} {Q : VK} {E : XK} (h : sp_L_due K C vs H Q E) : t_L_due K C { nx := fun _ H' => Q .non H', rt := Q } (start N_L_due vs) H := by
  obtain ⟨vo, vd, to, td, P, M, rfl, ho, hd, so, sd, m0, m1, q1, q2, q3, q4⟩ := h
  unfold t_L_due
  walk_at "go"
  refine ⟨vo, to, P, M, rfl, ho, so, fun H1 s1 => ?_⟩
  walk_at "go"
  refine ite_nb (fun h1 => ?_) (fun h1 => ?_)
  · walk_at "go"
    exact q1 h1 _ s1
  walk_at "go"
  refine ⟨vd, td, P, M, rfl, sm_th s1 hd, sd, fun H2 s2 => ?_⟩
  walk_at "go"
  refine ite_nb (fun h2 => ?_) (fun h2 => ?_)
  · walk_at "go"
    exact q2 h1 h2 _ (s1.trans s2)
  obtain ⟨o, rfl, po⟩ := Lside_frs h1
  obtain ⟨e, rfl, pe⟩ := Lside_frs h2
  have bo := so.bw m0 m1 po
  have be := sd.bw m0 m1 pe
  walk_at "go"
  refine ⟨vo, o, rfl, (sm_th s2 (sm_th s1 ho)).frsD, bo, fun w1 H3 s3 e3 => ?_⟩
  walk_at "go"
  refine ⟨vd, e, rfl, (sm_th s3 (sm_th s2 (sm_th s1 hd))).frsD, be, fun w2 H4 s4 e4 => ?_⟩
  have s04 : Same H H4 := s1.trans (s2.trans (s3.trans s4))
  refine i_eqD (d := fr o.sum) (e := fr e.sum) (sm_im s4 e3) e4 (fr_shaped _) (fr_shaped _) ?_
  rw [eqv_fr]
  walk_at "go"
  refine ite_d (fun h3 => ?_) (fun h3 => ?_)
  · walk_at "go"
    exact q4 o e rfl rfl h1 h2 h3 _ s04
  · walk_at "go"
    exact q3 o e rfl rfl h1 h2 h3 _ s04

theorem sc_L_due : FnScope N_L_due ["_law_owed", "_law_due_here"] (defScope s_L_due) := ⟨rfl, rfl, rfl, by decide +kernel, rfl, by decide +kernel, by decide +kernel⟩
theorem ok_L_due {P : Program} {w : World} {K : PySem.W.Frag} {mg : Str → Option Value} {base : Heap} {C : CA} {f : Addr} {fd : FuncData} (T : CT K C) (B : Bi mg C) (F : Fun K "_law_due" "_law_due" s_L_due f fd) (D_L_sum : Okd P w K mg base 4 "_law_sum" ["_law_fractions"] (sp_L_sum K C)) (D_L_are_sums : Okd P w K mg base 3 "_law_are_sums" ["_law_thing"] (sp_L_are_sums K C)) : FnOk P w K mg base CX0 5 f fd ["_law_owed", "_law_due_here"] (sp_L_due K C) := by
  refine F.ok sc_L_due (fun vs H Q E h => ?_) (fun cdv A outer s H vs Q E hr h => ⟨t_L_due K C, ?_, rd_L_due h⟩)
  · obtain ⟨_, _, _, _, _, _, rfl, _⟩ := h
    rfl
  · exact (pss_cons (ps_if (pt_not (pt_val (pe_callD D_L_are_sums (hr.mono (by decide)) (pa_cons (pv 0) pa_nil)))) (pss_one (ps_ret pe_str)) pss_nil) (pss_cons (ps_if (pt_not (pt_val (pe_callD D_L_are_sums (hr.mono (by decide)) (pa_cons (pv 1) pa_nil)))) (pss_one (ps_ret pe_str)) pss_nil) (pss_one (ps_ret (pe_ifExp (pt_cmpR (op_eqD hr.units) (pe_callD D_L_sum (hr.mono (by decide)) (pa_cons (pv 0) pa_nil)) (pe_callD D_L_sum (hr.mono (by decide)) (pa_cons (pv 1) pa_nil)) (nomark _)) pe_str pe_str)))))

/-! ### _law_odd -/
abbrev s_L_odd : Stmt := top 32
def sp_L_odd (K : PySem.W.Frag) (C : CA) : Sp := fun vs H Q _ => ∃ (m c : Addr), vs = [.ref m] ∧ Hand H m c ∧
  ∀ v H', KL m H H' → Hand H' m c → (∃ d, ThR (fun _ => True) H' v d ∧ d.len ≤ 1000 ∧ ∀ i j, d ≠ .tup [.int i, .int j]) → Q v H'
def Thing3 (H : Hp) (v : V) : Prop := ∃ d, ThR (fun _ => True) H v d ∧ d.len ≤ 1000 ∧ ∀ i j, d ≠ .tup [.int i, .int j]
theorem Thing3.kl {m : Addr} {H H' : Hp} {v : V} (s : KL m H H') (h : Thing3 H v) : Thing3 H' v := by
  obtain ⟨d, h1, h2⟩ := h
  exact ⟨d, kl_th s h1, h2⟩

@[reducible] def N_L_odd : List Str := ["_law_hand_here", "_law_deep", "_law_turn", "_law_odd_here"]
def t_L_odd (K : PySem.W.Frag) (C : CA) : TS :=
  (tSeq (tAsg (tLst (tCons (tC .non) tNil)) (gName 1)) (tSeq (tFor (iRng1 (tCons (tC (.int 18)) tNil)) (gName 2) (tAsg (tLst (tCons (tVar 1) tNil)) (gName 1))) (tSeq (tAsg (tLst (tCons (tC .non) (tCons (tC (.bl true)) (tCons (tC (.bl false)) (tCons (tC (.str "1")) (tCons (tC (.str "A b")) (tCons (tLst (tCons (tC (.str "a")) tNil)) (tCons (tDisp (((tC (.str "a")), (tC (.str "b"))) :: [])) (tCons (tLst tNil) (tCons tDNewK (tCons (tTup (tCons (tTup tNil) tNil)) (tCons (tTup (tCons (tC (.str "a")) tNil)) (tCons (tVar 1) (tCons (tTup (tCons (tC .non) tNil)) (tCons (tUn uNeg (tC (.int 1))) (tCons (tLst (tCons (tC (.int 0)) tNil)) (tCons (tTup (tCons (tC (.bl true)) tNil)) tNil))))))))))))))))) (gName 3)) (tRet (tOp (rIxL K) (tVar 3) (tCall (sp_L_draw K C) [] E0 (tCons (tVar 0) (tCons (tCB (cLen K) (tCons (tVar 3) tNil)) tNil))))))))

theorem rd_L_odd {K : PySem.W.Frag} {C : CA} {vs : List V} {H : Hp} {Q : VK} {E : XK} (h : sp_L_odd K C vs H Q E) : t_L_odd K C { nx := fun _ H' => Q .non H', rt := Q } (start N_L_odd vs) H := by
  obtain ⟨m, c, rfl, hm, q⟩ := h
  unfold t_L_odd
  walk_at "go"
  rename_i l0 H0 n0 s0 e0
  refine forR_of (n := 18) (fun i σ H' => Same H H' ∧ ∃ (l : Addr) (zs : List V) (u v : Option V), σ = [some (.ref m), some (.ref l), u, v] ∧ H l = none ∧ H' l = some (.lst zs)) (fun _ _ => False) rfl (by decide)
    ⟨s0, l0, _, none, none, rfl, n0, e0⟩ ?_ ?_ (fun _ _ h => h.elim)
  · rintro i σ H1 N B hi ⟨s1, l, zs, u, v, rfl, nl, el⟩ hN hB
    walk_at "go"
    rename_i l2 H2 n2 s2 e2
    exact hN _ _ ⟨s1.trans s2, l2, _, _, _, rfl, s1.free n2, e2⟩
  · rintro σ H1 ⟨s1, l, zs, u, v, rfl, nl, el⟩
    have hm1 := sm_hand s1 hm
    walk_at "go"
    rename_i p1 G1 n1 t1 f1 p2 G2 kv n2 t2 f2 p3 G3 n3 t3 f3 p4 G4 n4 t4 f4 p5 G5 n5 t5 f5 p6 G6 n6 t6 f6 p7 G7 n7 t7 f7 p8 G8 n8 t8 f8 p9 G9 n9 t9 f9 p10 G10 n10 t10 f10 p11 G11 n11 t11 f11
    obtain ⟨hi, hx, hy, hz, hcells, hmm, hcc, hmc, hh0⟩ := id hm
    have ne_m : ∀ {G : Hp} {p : Addr}, Same H G → G p = none → p ≠ m := fun s hp e => by subst e; rw [s _ _ hmm] at hp; cases hp
    refine ⟨m, c, 16, rfl, sm_hand (by walk_at "sm") hm, by decide, by decide, fun d H2 h0 h1 kl hm2 => ?_⟩
    have pm : p11 ≠ m := ne_m (by walk_at "sm") n11
    obtain ⟨v, hv, ev⟩ := atI_lt (xs := [V.non, V.bl true, V.bl false, V.str (Str.ofString "1"), V.str (Str.ofString "A b"), V.ref p1, V.ref p2, V.ref p3, V.ref p4, V.ref p6, V.ref p7, V.ref l, V.ref p8, V.int (-1), V.ref p9, V.ref p10]) h0 h1
    refine i_ixL (kl.keep _ _ pm f11) ev ?_
    have hT : Thing3 G11 v := by
      simp only [List.mem_cons, List.not_mem_nil, or_false] at hv
      rcases hv with rfl | rfl | rfl | rfl | rfl | rfl | rfl | rfl | rfl | rfl | rfl | rfl | rfl | rfl | rfl | rfl
      · exact ⟨_, th_non, by simp [Th.len], fun i j h => by cases h⟩
      · exact ⟨_, th_bl, by simp [Th.len], fun i j h => by cases h⟩
      · exact ⟨_, th_bl, by simp [Th.len], fun i j h => by cases h⟩
      · exact ⟨_, th_str, by simp [Th.len], fun i j h => by cases h⟩
      · exact ⟨_, th_str, by simp [Th.len], fun i j h => by cases h⟩
      · exact ⟨_, th_lst (xs := [V.str (Str.ofString "a")]) (by walk_at "keep") trivial, by simp [Th.len], fun i j h => by cases h⟩
      · exact ⟨_, th_dK (xs := kv) (by walk_at "keep") trivial, by simp [Th.len], fun i j h => by cases h⟩
      · exact ⟨_, th_lst (xs := []) (by walk_at "keep") trivial, by simp [Th.len], fun i j h => by cases h⟩
      · exact ⟨_, th_dK (xs := []) (by walk_at "keep") trivial, by simp [Th.len], fun i j h => by cases h⟩
      · exact ⟨_, th_t1 (by walk_at "keep") (th_t0 (by walk_at "keep")), by simp [Th.len], fun i j h => by simp at h⟩
      · exact ⟨_, th_t1 (by walk_at "keep") th_str, by simp [Th.len], fun i j h => by simp at h⟩
      · exact ⟨_, th_lst (xs := zs) (by walk_at "keep") trivial, by simp [Th.len], fun i j h => by cases h⟩
      · exact ⟨_, th_t1 (by walk_at "keep") th_non, by simp [Th.len], fun i j h => by simp at h⟩
      · exact ⟨_, th_int, by simp [Th.len], fun i j h => by cases h⟩
      · exact ⟨_, th_lst (xs := [V.int 0]) (by walk_at "keep") trivial, by simp [Th.len], fun i j h => by cases h⟩
      · exact ⟨_, th_t1 (by walk_at "keep") th_bl, by simp [Th.len], fun i j h => by simp at h⟩
    exact q _ _ (by walk_at "sm") hm2 (hT.kl kl)

theorem sc_L_odd : FnScope N_L_odd ["_law_hand_here"] (defScope s_L_odd) := ⟨rfl, rfl, rfl, by decide +kernel, rfl, by decide +kernel, by decide +kernel⟩
theorem ok_L_odd {P : Program} {w : World} {K : PySem.W.Frag} {mg : Str → Option Value} {base : Heap} {C : CA} {f : Addr} {fd : FuncData} (T : CT K C) (B : Bi mg C) (F : Fun K "_law_odd" "_law_odd" s_L_odd f fd) (D_L_draw : Okd P w K mg base 1 "_law_draw" ["_law_hand_here", "_law_many"] (sp_L_draw K C)) : FnOk P w K mg base CX0 2 f fd ["_law_hand_here"] (sp_L_odd K C) := by
  refine F.ok sc_L_odd (fun vs H Q E h => ?_) (fun cdv A outer s H vs Q E hr h => ⟨t_L_odd K C, ?_, rd_L_odd h⟩)
  · obtain ⟨_, _, rfl, _⟩ := h
    rfl
  · exact (pss_cons (ps_set (i := 1) sc_L_odd.nd rfl (Or.inl rfl) (pe_lst (pa_cons pe_non pa_nil))) (pss_cons (ps_for PassesOwn.never rfl (pi_range1 rfl B.b_range (pa_cons pe_int pa_nil)) (pg_name (i := 2) sc_L_odd.nd rfl (Or.inl rfl)) (pss_one (ps_set (i := 1) sc_L_odd.nd rfl (Or.inl rfl) (pe_lst (pa_cons (pv 1) pa_nil))))) (pss_cons (ps_set (i := 3) sc_L_odd.nd rfl (Or.inl rfl) (pe_lst (pa_cons pe_non (pa_cons pe_bl (pa_cons pe_bl (pa_cons pe_str (pa_cons pe_str (pa_cons (pe_lst (pa_cons pe_str pa_nil)) (pa_cons (pe_disp (pps_cons pe_str pe_str pps_nil) (by rfl) (by rfl) (fun z => by cases z) (by decide)) (pa_cons (pe_lst pa_nil) (pa_cons pe_dnewK (pa_cons (pe_tup (pa_cons (pe_tup pa_nil) pa_nil)) (pa_cons (pe_tup (pa_cons pe_str pa_nil)) (pa_cons (pv 1) (pa_cons (pe_tup (pa_cons pe_non pa_nil)) (pa_cons (pe_un un_neg pe_int) (pa_cons (pe_lst (pa_cons pe_int pa_nil)) (pa_cons (pe_tup (pa_cons pe_bl pa_nil)) pa_nil)))))))))))))))))) (pss_one (ps_ret (pe_ix ix_list (pv 3) (pe_callD D_L_draw (hr.mono (by decide)) (pa_cons (pv 0) (pa_cons (pe_callB call_len (by rfl) B.b_len bt_len (pa_cons (pv 3) pa_nil)) pa_nil))) (fun _ _ => rfl)))))))

/-! ### _law_spoiled -/
abbrev s_L_spoiled : Stmt := top 36
def EltT (M : Nat) (d : Th) : Prop := d.len ≤ 1000 ∧ ∀ i j, d = .tup [.int i, .int j] → i.natAbs < 2 ^ 100 ∧ j.natAbs < 2 ^ 100 ∧ (d.amt = true → j.toNat ∣ M)
theorem EltT.of {M : Nat} {d : Th} (h1 : d.len ≤ 1000) (h2 : ∀ i j, d ≠ .tup [.int i, .int j]) : EltT M d := ⟨h1, fun i j e => absurd e (h2 i j)⟩
theorem EltT.pr {M : Nat} {i j : Int} (h1 : i.natAbs < 2 ^ 100) (h2 : j.natAbs < 2 ^ 100) (h3 : (Th.tup [.int i, .int j]).amt = true → j.toNat ∣ M) : EltT M (.tup [.int i, .int j]) := by
  refine ⟨by simp [Th.len], fun a b e => ?_⟩
  simp only [Th.tup.injEq, List.cons.injEq, Th.int.injEq, and_true] at e
  obtain ⟨rfl, rfl⟩ := e
  exact ⟨h1, h2, h3⟩
theorem SideT.of {M : Nat} {l : List Th} (h1 : l.length ≤ 1000) (h2 : ∀ x ∈ l, EltT M x) : SideT M (.tup l) := ⟨h1, fun l' e x hx => by cases e; exact h2 x hx⟩
theorem SideT.no {M : Nat} {d : Th} (h : ∀ l, d ≠ .tup l) : SideT M d := ⟨by cases d with
  | tup l => exact absurd rfl (h l)
  | int i => simp [Th.len]
  | bl b => simp [Th.len]
  | oth => simp [Th.len], fun l e => absurd e (h l)⟩
def QsOk (M : Nat) (qs : List Rat) : Prop := 1 ≤ qs.length ∧ qs.length ≤ 100 ∧ 0 < M ∧ M < 2 ^ 48 ∧ ∀ q ∈ qs, 0 < q.num ∧ q.num.natAbs < 2 ^ 88 ∧ q.den ∣ M
theorem QsOk.elt {M : Nat} {qs : List Rat} (h : QsOk M qs) : ∀ x ∈ qs.map frT, EltT M x := by
  obtain ⟨_, _, m0, m1, hq⟩ := h
  intro x hx
  obtain ⟨q, hq', rfl⟩ := List.mem_map.mp hx
  obtain ⟨a, b, c⟩ := hq q hq'
  have hd := Nat.le_of_dvd m0 c
  have e1 : (2 : Nat) ^ 88 < 2 ^ 100 := by decide
  have e2 : (2 : Nat) ^ 48 < 2 ^ 100 := by decide
  exact EltT.pr (by omega) (by omega) (fun _ => by simpa using c)
theorem QsOk.side {M : Nat} {qs : List Rat} (h : QsOk M qs) : SideT M (.tup (qs.map frT)) := SideT.of (by rw [List.length_map]; have := h.2.1; omega) h.elt
def sp_L_spoiled (K : PySem.W.Frag) (C : CA) : Sp := fun vs H Q _ => ∃ (m c : Addr) (v : V) (qs : List Rat) (M : Nat), vs = [.ref m, v] ∧ Hand H m c ∧ Im H v (.tuple (qs.map fr)) ∧ QsOk M qs ∧
  ∀ w H', KL m H H' → Hand H' m c → (∃ d, ThR (fun _ => True) H' w d ∧ SideT M d) → Q w H'

@[reducible] def N_L_spoiled : List Str := ["_law_hand_here", "_law_side", "_law_at", "_law_top", "_law_bottom", "_law_menu", "_law_bad", "_law_rows"]
def t_L_spoiled (K : PySem.W.Frag) (C : CA) : TS :=
  (tSeq (tAsg (tCall (sp_L_draw K C) [] E0 (tCons (tVar 0) (tCons (tCB (cLen K) (tCons (tVar 1) tNil)) tNil))) (gName 2)) (tSeq (tAsg (tOp (rIxT K) (tVar 1) (tVar 2)) (gTup K 2 (gCons (gName 3) (gCons (gName 4) gNil)))) (tSeq (tAsg (tLst (tCons (tTup (tCons (tOp oAdd (tVar 3) (tC (.int 1))) (tCons (tVar 4) tNil))) (tCons (tTup (tCons (tOp oMul (tC (.int 2)) (tVar 3)) (tCons (tOp oMul (tC (.int 2)) (tVar 4)) tNil))) (tCons (tTup (tCons (tVar 3) (tCons (tUn uNeg (tVar 4)) tNil))) (tCons (tTup (tCons (tC (.int 0)) (tCons (tC (.int 1)) tNil))) (tCons (tTup (tCons (tUn uNeg (tVar 3)) (tCons (tVar 4) tNil))) (tCons (tTup (tCons (tVar 3) (tCons (tC (.int 0)) tNil))) (tCons (tLst (tCons (tVar 3) (tCons (tVar 4) tNil))) (tCons (tVar 3) (tCons (tTup (tCons (tVar 3) tNil)) tNil)))))))))) (gName 5)) (tSeq (tAsg (tOp rCat (tVar 5) (tLst (tCons (tTup (tCons (tVar 3) (tCons (tVar 4) (tCons (tC (.int 1)) tNil)))) (tCons (tTup (tCons (tC (.bl true)) (tCons (tC (.int 1)) tNil))) (tCons (tTup (tCons (tVar 3) (tCons (tC (.bl true)) tNil))) (tCons (tC .non) (tCons (tTup (tCons (tCB cStrI (tCons (tVar 3) tNil)) (tCons (tC (.int 1)) tNil))) (tCons (tCall (sp_L_odd K C) [] E0 (tCons (tVar 0) tNil)) tNil)))))))) (gName 5)) (tSeq (tAsg (tOp (rIxL K) (tVar 5) (tCall (sp_L_draw K C) [] E0 (tCons (tVar 0) (tCons (tC (.int 15)) tNil)))) (gName 6)) (tSeq (tAsg (tLst (tCons (tOp (rCatA K) (tOp (rCatA K) (tSl (rSlA K) (tVar 1) tNoPart (tPart (tVar 2))) (tTup (tCons (tVar 6) tNil))) (tSl (rSlA K) (tVar 1) (tPart (tOp oAdd (tVar 2) (tC (.int 1)))) tNoPart)) (tCons (tOp (rCatA K) (tVar 1) (tTup (tCons (tTup (tCons (tC (.int 1)) (tCons (tC (.int 1)) tNil))) tNil))) (tCons (tSl (rSlA K) (tVar 1) tNoPart (tPart (tUn uNeg (tC (.int 1))))) (tCons (tCB (cList K) (tCons (tVar 1) tNil)) (tCons (tTup tNil) (tCons (tC .non) (tCons (tSl (rSlA K) (tOp (rRepA K) (tVar 1) (tC (.int 101))) tNoPart (tPart (tC (.int 101)))) tNil)))))))) (gName 7)) (tRet (tOp (rIxL K) (tVar 7) (tCB cMax2 (tCons (tC (.int 0)) (tCons (tOp oSub (tCall (sp_L_draw K C) [] E0 (tCons (tVar 0) (tCons (tC (.int 12)) tNil))) (tC (.int 5))) tNil)))))))))))

local macro_rules | `(tactic| walk_at "thr") => `(tactic| first
  | assumption
  | (with_reducible exact th_int)
  | (with_reducible exact th_non)
  | (with_reducible exact th_bl)
  | walk_at "keep"
  | ((with_reducible apply th_t1); (focus (walk_at "keep")); walk_at "thr")
  | ((with_reducible apply th_t2); (focus (walk_at "keep")); (focus (walk_at "thr")); walk_at "thr"))
local macro_rules | `(tactic| walk_at "sp") => `(tactic| repeat (first
  | walk_at "st"
  | ((with_reducible apply i_slTh101); (focus (walk_at "keep")); intro v H' es s le mem r)
  | ((with_reducible apply i_slTh'); (focus (walk_at "keep")); intro v H' es s le mem r)
  | ((with_reducible apply i_catTh); (focus (walk_at "thr")); (focus (walk_at "thr")); (focus ((try simp only [List.length_append, List.length_cons, List.length_nil]); omega)); intro v H' s r)))
theorem rd_L_spoiled {K : PySem.W.Frag} {C : CA} {vs : List V} {H : Hp} {Q : VK} {E : XK} (h : sp_L_spoiled K C vs H Q E) : t_L_spoiled K C { nx := fun _ H' => Q .non H', rt := Q } (start N_L_spoiled vs) H := by
  obtain ⟨m, c, v, qs, M, rfl, hm, hv, hq, q⟩ := h
  have hqs := id hq
  obtain ⟨l1, l2, m0, m1, hel⟩ := hq
  obtain ⟨a, xs, rfl, ha, hl⟩ := hv.tup_at
  have hxl : xs.length = qs.length := by rw [hl.length, List.length_map]
  have hth : ThR (fun _ => True) H (.ref a) (.tup (qs.map frT)) := frs_th hv
  have e0 : sizeLine = 16777216 := PySem.sizeLine_eq
  have ne_m : ∀ {G : Hp} {p : Addr}, Hand G m c → G p = none → p ≠ m := fun h hp => (hand_ne hp h).1.symm
  clear hv
  unfold t_L_spoiled
  walk_at "go"
  refine ⟨m, c, (xs.length : Int), rfl, hm, by omega, small_log (by omega), fun at_ H1 a0 a1 kl1 hm1 => ?_⟩
  obtain ⟨at', rfl⟩ : ∃ n : Nat, at_ = (n : Nat) := ⟨at_.toNat, by omega⟩
  have hat : at' < qs.length := by omega
  obtain ⟨u, eu, iu⟩ := hl.fr_get hat
  obtain ⟨b, rfl, hb⟩ := iu.fr_at
  obtain ⟨p1, p2, p3⟩ := hel _ (getD_mem (x := 0) hat)
  generalize qs.getD at' 0 = r at *
  have hr : 0 < r.den := Nat.pos_of_ne_zero r.den_nz
  have hdM := Nat.le_of_dvd m0 p3
  have x1 : (2 : Nat) ^ 88 < 2 ^ 100 := by decide
  have x2 : (2 : Nat) ^ 48 < 2 ^ 100 := by decide
  have x3 : 2 * (2 : Nat) ^ 88 < 2 ^ 100 := by decide
  have x4 : 2 * (2 : Nat) ^ 48 < 2 ^ 100 := by decide
  have x5 : (2 : Nat) ^ 88 + 1 < 2 ^ 100 := by decide
  walk_at "go"
  refine i_ixT (kl_tup kl1 ha) (atI_nn eu) ?_
  have hb1 := kl_tup kl1 hb
  walk_at "go"
  rename_i q1 G1 n1 t1 f1 q2 G2 n2 t2 f2 q3 G3 n3 t3 f3 q4 G4 n4 t4 f4 q5 G5 n5 t5 f5 q6 G6 n6 t6 f6 q7 G7 n7 t7 f7 q8 G8 n8 t8 f8 q9 G9 n9 t9 f9 q10 G10 n10 t10 f10 q11 G11 n11 t11 f11 q12 G12 n12 t12 f12
  refine ⟨r.num, rfl, Nat.lt_trans (log2_of_lt p2 (by decide)) (by decide), ?_⟩
  walk_at "go"
  rename_i q13 G13 n13 t13 f13
  have T14 : ∀ x ∈ [V.ref q1, V.ref q2, V.ref q3, V.ref q4, V.ref q5, V.ref q6, V.ref q7, V.int r.num, V.ref q8] ++ [V.ref q10, V.ref q11, V.ref q12, V.non, V.ref q13], ∃ d, ThR (fun _ => True) G13 x d ∧ EltT M d := by
    intro x hx
    simp only [List.cons_append, List.nil_append, List.mem_cons, List.not_mem_nil, or_false] at hx
    rcases hx with rfl | rfl | rfl | rfl | rfl | rfl | rfl | rfl | rfl | rfl | rfl | rfl | rfl | rfl
    · exact ⟨_, th_t2 (by walk_at "keep") th_int th_int, EltT.pr (by omega) (by omega) (fun _ => by simpa using p3)⟩
    · refine ⟨_, th_t2 (by walk_at "keep") th_int th_int, EltT.pr (by omega) (by omega) (fun z => ?_)⟩
      exfalso
      simp only [Th.amt, decide_eq_true_eq] at z
      have z3 := z.2.2
      rw [Int.natAbs_mul, Int.natAbs_mul, Nat.gcd_mul_left] at z3
      have : (2 : Int).natAbs = 2 := rfl
      rw [this] at z3
      omega
    · exact ⟨_, th_t2 (by walk_at "keep") th_int th_int, EltT.pr (by omega) (by omega) (fun z => by
        simp only [Th.amt, decide_eq_true_eq] at z
        omega)⟩
    · exact ⟨_, th_t2 (by walk_at "keep") th_int th_int, EltT.pr (by decide) (by decide) (fun z => by
        simp only [Th.amt, decide_eq_true_eq] at z
        omega)⟩
    · exact ⟨_, th_t2 (by walk_at "keep") th_int th_int, EltT.pr (by omega) (by omega) (fun z => by
        simp only [Th.amt, decide_eq_true_eq] at z
        omega)⟩
    · exact ⟨_, th_t2 (by walk_at "keep") th_int th_int, EltT.pr (by omega) (by decide) (fun z => by
        simp only [Th.amt, decide_eq_true_eq] at z
        omega)⟩
    · exact ⟨_, th_lst (xs := [V.int r.num, V.int ((r.den : Nat) : Int)]) (by walk_at "keep") trivial, EltT.of (by simp [Th.len]) (fun i j h => by cases h)⟩
    · exact ⟨_, th_int, EltT.of (by simp [Th.len]) (fun i j h => by cases h)⟩
    · exact ⟨_, th_t1 (by walk_at "keep") th_int, EltT.of (by simp [Th.len]) (fun i j h => by simp at h)⟩
    · exact ⟨_, th_t3 (by walk_at "keep") th_int th_int th_int, EltT.of (by simp [Th.len]) (fun i j h => by simp at h)⟩
    · exact ⟨_, th_t2 (by walk_at "keep") th_bl th_int, EltT.of (by simp [Th.len]) (fun i j h => by simp at h)⟩
    · exact ⟨_, th_t2 (by walk_at "keep") th_int th_bl, EltT.of (by simp [Th.len]) (fun i j h => by simp at h)⟩
    · exact ⟨_, th_non, EltT.of (by simp [Th.len]) (fun i j h => by cases h)⟩
    · exact ⟨_, th_t2 (by walk_at "keep") th_str th_int, EltT.of (by simp [Th.len]) (fun i j h => by simp at h)⟩
  have q9m : q9 ≠ m := ne_m (by walk_at "keep") n9
  have f9' : G13 q9 = some (.lst [V.ref q1, V.ref q2, V.ref q3, V.ref q4, V.ref q5, V.ref q6, V.ref q7, V.int r.num, V.ref q8]) := by walk_at "keep"
  have hm13 : Hand G13 m c := by walk_at "keep"
  have th13 : ThR (fun _ => True) G13 (.ref a) (.tup (qs.map frT)) := by walk_at "keep"
  have ha13 : G13 a = some (.tup xs) := by walk_at "keep"
  have kl13 : KL m H G13 := by walk_at "sm"
  clear f1 f2 f3 f4 f5 f6 f7 f8 f9 f10 f11 f12 f13 t1 t2 t3 t4 t5 t6 t7 t8 t9 t10 t11 t12 t13 kl1 hm1 hb1 hb eu iu n1 n2 n3 n4 n5 n6 n7 n8 n9 n10 n11 n12 n13
  refine ⟨m, c, rfl, hm13, fun ov H2 kl2 hm2 hT2 => ?_⟩
  walk_at "go"
  rename_i c1 C1 y1 r1 s1
  refine i_cat (r1 _ _ (kl2.keep _ _ q9m f9')) s1 (by rw [e0]; simp) (fun c2 C2 y2 r2 s2 => ?_)
  have T15 : ∀ x ∈ [V.ref q1, V.ref q2, V.ref q3, V.ref q4, V.ref q5, V.ref q6, V.ref q7, V.int r.num, V.ref q8] ++ [V.ref q10, V.ref q11, V.ref q12, V.non, V.ref q13, ov], ∃ d, ThR (fun _ => True) C2 x d ∧ EltT M d := by
    intro x hx
    rw [show [V.ref q10, V.ref q11, V.ref q12, V.non, V.ref q13, ov] = [V.ref q10, V.ref q11, V.ref q12, V.non, V.ref q13] ++ [ov] from rfl, ← List.append_assoc] at hx
    rcases List.mem_append.mp hx with hx | hx
    · obtain ⟨d, h1, h2⟩ := T14 x hx
      exact ⟨d, sm_th r2 (sm_th r1 (kl_th kl2 h1)), h2⟩
    · have : x = ov := by simpa using hx
      subst this
      obtain ⟨d, h1, h2, h3⟩ := hT2
      exact ⟨d, sm_th r2 (sm_th r1 h1), EltT.of h2 h3⟩
  have hmC : Hand C2 m c := sm_hand r2 (sm_hand r1 hm2)
  have thC : ThR (fun _ => True) C2 (.ref a) (.tup (qs.map frT)) := sm_th r2 (sm_th r1 (kl_th kl2 th13))
  have haC : C2 a = some (.tup xs) := r2 _ _ (r1 _ _ (kl_tup kl2 ha13))
  have klC : KL m H C2 := ((kl13.trans kl2).same r1).same r2
  have c2m : c2 ≠ m := ne_m (sm_hand r1 hm2) y2
  clear r1 r2 s1 y1 y2 T14 th13 ha13 kl13 kl2 hm2 hT2 f9' hm13
  walk_at "go"
  refine ⟨m, c, 15, rfl, hmC, by decide, by decide, fun dd H3 d0' d1' kl3 hm3 => ?_⟩
  obtain ⟨bv, hw, ew⟩ := atI_lt (xs := [V.ref q1, V.ref q2, V.ref q3, V.ref q4, V.ref q5, V.ref q6, V.ref q7, V.int r.num, V.ref q8] ++ [V.ref q10, V.ref q11, V.ref q12, V.non, V.ref q13, ov]) d0' d1'
  refine i_ixL (kl3.keep _ _ c2m s2) ew ?_
  obtain ⟨bd, hbd, hbe⟩ := T15 bv hw
  have hbd3 := kl_th kl3 hbd
  have th3 := kl_th kl3 thC
  have ha3 := kl_tup kl3 haC
  have kl03 := klC.trans kl3
  have hlq : (qs.map frT).length ≤ 100 := by rw [List.length_map]; exact l2
  clear T15 hbd thC haC klC kl3 hmC s2 ew hw
  walk_at "sp"
  rename_i v1 A1 es1 s1 le1 mem1 r1 p2 A2 n2 s2 e2 v3 A3 s3 r3 v4 A4 es4 s4 le4 mem4 r4 v5 A5 s5 r5 p6 A6 n6 s6 e6 p7 A7 n7 s7 e7 v8 A8 s8 r8 v9 A9 es9 s9 le9 mem9 r9
  refine i_clistT (show A9 a = some (.tup xs) by walk_at "keep") (fun l10 A10 y10 u10 w10 => ?_)
  walk_at "sp"
  rename_i p11 A11 n11 s11 e11
  have th11 : ThR (fun _ => True) A11 (.ref a) (.tup (qs.map frT)) := by walk_at "keep"
  have hne : qs.map frT ≠ [] := fun z => by rw [List.map_eq_nil_iff] at z; rw [z] at l1; simp at l1
  refine i_repTh th11 hne (by decide) (by decide) (by omega) (fun v12 A12 s12 r12 => ?_)
  walk_at "sp"
  rename_i v13 A13 es13 s13 le13 mem13 r13 p14 A14 n14 s14 e14
  have hE := hqs.elt
  have T : ∀ x ∈ [v5, v8, v9, V.ref l10, V.ref p11, V.non, v13], ∃ d, ThR (fun _ => True) A14 x d ∧ SideT M d := by
    intro x hx
    simp only [List.mem_cons, List.not_mem_nil, or_false] at hx
    rcases hx with rfl | rfl | rfl | rfl | rfl | rfl | rfl
    · refine ⟨_, by walk_at "keep", SideT.of (by simp only [List.length_append, List.length_cons, List.length_nil]; omega) (fun y hy => ?_)⟩
      rcases List.mem_append.mp hy with hy | hy
      · rcases List.mem_append.mp hy with hy | hy
        · exact hE y (mem1 y hy)
        · have : y = bd := by simpa using hy
          subst this
          exact hbe
      · exact hE y (mem4 y hy)
    · refine ⟨_, by walk_at "keep", SideT.of (by simp only [List.length_append, List.length_cons, List.length_nil]; omega) (fun y hy => ?_)⟩
      rcases List.mem_append.mp hy with hy | hy
      · exact hE y hy
      · have : y = Th.tup [Th.int 1, Th.int 1] := by simpa using hy
        subst this
        exact EltT.pr (by decide) (by decide) (fun _ => Nat.one_dvd _)
    · exact ⟨_, by walk_at "keep", SideT.of (by omega) (fun y hy => hE y (mem9 y hy))⟩
    · exact ⟨_, th_lst (xs := xs) (by walk_at "keep") trivial, SideT.no (fun l h => by cases h)⟩
    · exact ⟨_, th_t0 (by walk_at "keep"), SideT.of (by simp) (fun y hy => by cases hy)⟩
    · exact ⟨_, th_non, SideT.no (fun l h => by cases h)⟩
    · refine ⟨_, by walk_at "keep", SideT.of (by omega) (fun y hy => ?_)⟩
      obtain ⟨z, hz, hy'⟩ := List.mem_flatten.mp (mem13 y hy)
      rw [List.eq_of_mem_replicate hz] at hy'
      exact hE y hy'
  have hm14 : Hand A14 m c := by walk_at "keep"
  have p14m : p14 ≠ m := ne_m (show Hand A13 m c by walk_at "keep") n14
  have kl14 : KL m H A14 := kl03.trans (Same.kl (show Same H3 A14 by walk_at "sm"))
  refine ⟨m, c, 12, rfl, hm14, by decide, by decide, fun d0 H4 d00 d01 kl4 hm4 => ?_⟩
  walk_at "go"
  obtain ⟨w, hw, ew⟩ := atI_lt (xs := [v5, v8, v9, V.ref l10, V.ref p11, V.non, v13]) (i := max 0 (d0 - 5)) (by omega) (by simp only [List.length_cons, List.length_nil]; omega)
  refine i_ixL (kl4.keep _ _ p14m e14) ew ?_
  obtain ⟨d, hd1, hd2⟩ := T w hw
  exact q _ _ (kl14.trans kl4) hm4 ⟨d, kl_th kl4 hd1, hd2⟩

theorem sc_L_spoiled : FnScope N_L_spoiled ["_law_hand_here", "_law_side"] (defScope s_L_spoiled) := ⟨rfl, rfl, rfl, by decide +kernel, rfl, by decide +kernel, by decide +kernel⟩
theorem ok_L_spoiled {P : Program} {w : World} {K : PySem.W.Frag} {mg : Str → Option Value} {base : Heap} {C : CA} {f : Addr} {fd : FuncData} (T : CT K C) (B : Bi mg C) (F : Fun K "_law_spoiled" "_law_spoiled" s_L_spoiled f fd) (D_L_draw : Okd P w K mg base 1 "_law_draw" ["_law_hand_here", "_law_many"] (sp_L_draw K C)) (D_L_odd : Okd P w K mg base 2 "_law_odd" ["_law_hand_here"] (sp_L_odd K C)) : FnOk P w K mg base CX0 3 f fd ["_law_hand_here", "_law_side"] (sp_L_spoiled K C) := by
  refine F.ok sc_L_spoiled (fun vs H Q E h => ?_) (fun cdv A outer s H vs Q E hr h => ⟨t_L_spoiled K C, ?_, rd_L_spoiled h⟩)
  · obtain ⟨_, _, _, _, _, rfl, _⟩ := h
    rfl
  · exact (pss_cons (ps_set (i := 2) sc_L_spoiled.nd rfl (Or.inl rfl) (pe_callD D_L_draw (hr.mono (by decide)) (pa_cons (pv 0) (pa_cons (pe_callB call_len (by rfl) B.b_len bt_len (pa_cons (pv 1) pa_nil)) pa_nil)))) (pss_cons (ps_asg (pe_ix ix_tup (pv 1) (pv 2) (fun _ _ => rfl)) (pg_tup rfl (pgs_cons (pg_name (i := 3) sc_L_spoiled.nd rfl (Or.inl rfl)) (pgs_cons (pg_name (i := 4) sc_L_spoiled.nd rfl (Or.inl rfl)) pgs_nil)))) (pss_cons (ps_set (i := 5) sc_L_spoiled.nd rfl (Or.inl rfl) (pe_lst (pa_cons (pe_tup (pa_cons (pe_op op_add (pv 3) pe_int) (pa_cons (pv 4) pa_nil))) (pa_cons (pe_tup (pa_cons (pe_op op_mulA pe_int (pv 3)) (pa_cons (pe_op op_mulA pe_int (pv 4)) pa_nil))) (pa_cons (pe_tup (pa_cons (pv 3) (pa_cons (pe_un un_neg (pv 4)) pa_nil))) (pa_cons (pe_tup (pa_cons pe_int (pa_cons pe_int pa_nil))) (pa_cons (pe_tup (pa_cons (pe_un un_neg (pv 3)) (pa_cons (pv 4) pa_nil))) (pa_cons (pe_tup (pa_cons (pv 3) (pa_cons pe_int pa_nil))) (pa_cons (pe_lst (pa_cons (pv 3) (pa_cons (pv 4) pa_nil))) (pa_cons (pv 3) (pa_cons (pe_tup (pa_cons (pv 3) pa_nil)) pa_nil))))))))))) (pss_cons (ps_set (i := 5) sc_L_spoiled.nd rfl (Or.inl rfl) (pe_op op_cat (pv 5) (pe_lst (pa_cons (pe_tup (pa_cons (pv 3) (pa_cons (pv 4) (pa_cons pe_int pa_nil)))) (pa_cons (pe_tup (pa_cons pe_bl (pa_cons pe_int pa_nil))) (pa_cons (pe_tup (pa_cons (pv 3) (pa_cons pe_bl pa_nil))) (pa_cons pe_non (pa_cons (pe_tup (pa_cons (pe_callTy call_str_int (by rfl) B.b_str bt_str (pa_cons (pv 3) pa_nil)) (pa_cons pe_int pa_nil))) (pa_cons (pe_callD D_L_odd (hr.mono (by decide)) (pa_cons (pv 0) pa_nil)) pa_nil))))))))) (pss_cons (ps_set (i := 6) sc_L_spoiled.nd rfl (Or.inl rfl) (pe_ix ix_list (pv 5) (pe_callD D_L_draw (hr.mono (by decide)) (pa_cons (pv 0) (pa_cons pe_int pa_nil))) (fun _ _ => rfl))) (pss_cons (ps_set (i := 7) sc_L_spoiled.nd rfl (Or.inl rfl) (pe_lst (pa_cons (pe_op op_catA (pe_op op_catA (pe_slice sl_tupA (pv 1) po_none (po_some (pv 2))) (pe_tup (pa_cons (pv 6) pa_nil))) (pe_slice sl_tupA (pv 1) (po_some (pe_op op_add (pv 2) pe_int)) po_none)) (pa_cons (pe_op op_catA (pv 1) (pe_tup (pa_cons (pe_tup (pa_cons pe_int (pa_cons pe_int pa_nil))) pa_nil))) (pa_cons (pe_slice sl_tupA (pv 1) po_none (po_some (pe_un un_neg pe_int))) (pa_cons (pe_callTy call_list_of (by rfl) B.b_list bt_list (pa_cons (pv 1) pa_nil)) (pa_cons (pe_tup pa_nil) (pa_cons pe_non (pa_cons (pe_slice sl_tupA (pe_op op_repA (pv 1) pe_int) po_none (po_some pe_int)) pa_nil))))))))) (pss_one (ps_ret (pe_ix ix_list (pv 7) (pe_callB (call_max2 rfl) (by rfl) B.b_max bt_max (pa_cons pe_int (pa_cons (pe_op op_sub (pe_callD D_L_draw (hr.mono (by decide)) (pa_cons (pv 0) (pa_cons pe_int pa_nil))) pe_int) pa_nil))) (fun _ _ => rfl))))))))))

/-! ### lowest -/
abbrev s_lowest : Stmt := top 6
def sp_lowest (K : PySem.W.Frag) (C : CA) : Sp := fun vs H Q _ => ∃ (n : Int) (d : Nat), vs = [.int n, .int (d : Nat)] ∧ 0 < d ∧ d.log2 < 9000 ∧ Ret H Q (fr (mkRat n d))

@[reducible] def N_lowest : List Str := ["top", "bottom", "shared"]
def t_lowest (K : PySem.W.Frag) (C : CA) : TS :=
  (tSeq (tAsg (tCB rGcd (tCons (tVar 0) (tCons (tVar 1) tNil))) (gName 2)) (tRet (tTup (tCons (tOp oDiv (tVar 0) (tVar 2)) (tCons (tOp oDiv (tVar 1) (tVar 2)) tNil)))))

theorem rd_lowest {K : PySem.W.Frag} {C : CA} {vs : List V} {H : Hp} {Q : VK} {E : XK} (h : sp_lowest K C vs H Q E) : t_lowest K C { nx := fun _ H' => Q .non H', rt := Q } (start N_lowest vs) H := by
  obtain ⟨n, d, rfl, hd, hl, q⟩ := h
  obtain ⟨g0, g1⟩ := gcd_le n d hd
  unfold t_lowest
  walk_at "go"
  simp only [Int.natAbs_natCast]
  refine i_rI (div_ok g0 (log2_lt_of_le g1 hl (by decide))) ?_
  walk_at "go"
  refine i_rI (div_ok g0 (log2_lt_of_le g1 hl (by decide))) ?_
  walk_at "go"
  exact q _ _ (by assumption) (Im.fr_of (by rw [low_num n d hd, low_den n d hd]; assumption))

theorem sc_lowest : FnScope N_lowest ["top", "bottom"] (defScope s_lowest) := ⟨rfl, rfl, rfl, by decide +kernel, rfl, by decide +kernel, by decide +kernel⟩
theorem ok_lowest {P : Program} {w : World} {K : PySem.W.Frag} {mg : Str → Option Value} {base : Heap} {C : CA} {f : Addr} {fd : FuncData} (T : CT K C) (B : Bi mg C) (F : Fun K "lowest" "lowest" s_lowest f fd)  : FnOk P w K mg base CX0 1 f fd ["top", "bottom"] (sp_lowest K C) := by
  refine F.ok sc_lowest (fun vs H Q E h => ?_) (fun cdv A outer s H vs Q E hr h => ⟨t_lowest K C, ?_, rd_lowest h⟩)
  · obtain ⟨_, _, rfl, _⟩ := h
    rfl
  · exact (pss_cons (ps_set (i := 2) sc_lowest.nd rfl (Or.inl rfl) (pe_callBfun cr_gcd rfl B.g_gcd (pa_cons (pv 0) (pa_cons (pv 1) pa_nil)))) (pss_one (ps_ret (pe_tup (pa_cons (pe_op op_fdivW (pv 0) (pv 2)) (pa_cons (pe_op op_fdivW (pv 1) (pv 2)) pa_nil))))))

/-! ### common_bottom -/
abbrev s_common_bottom : Stmt := top 7
def sp_common_bottom (K : PySem.W.Frag) (C : CA) : Sp := fun vs H Q _ => ∃ (v : V) (qs : List Rat) (M : Nat), vs = [v] ∧ Im H v (.tuple (qs.map fr)) ∧ ComM qs M ∧ M.log2 < 9000 ∧
  ∀ L : Nat, 0 < L → L ∣ M → (∀ q ∈ qs, q.den ∣ L) → (∀ m, (∀ q ∈ qs, q.den ∣ m) → L ∣ m) → Q (.int (L : Nat)) H

@[reducible] def N_common_bottom : List Str := ["fractions", "shared", "_", "bottom"]
def t_common_bottom (K : PySem.W.Frag) (C : CA) : TS :=
  (tSeq (tAsg (tC (.int 1)) (gName 1)) (tSeq (tFor (iTup K (tVar 0)) (gTup K 2 (gCons (gName 2) (gCons (gName 3) gNil))) (tAsg (tCB rLcm (tCons (tVar 1) (tCons (tVar 3) tNil))) (gName 1))) (tRet (tVar 1))))

theorem rd_common_bottom {K : PySem.W.Frag} {C : CA} {vs : List V} {H : Hp} {Q : VK} {E : XK} (h : sp_common_bottom K C vs H Q E) : t_common_bottom K C { nx := fun _ H' => Q .non H', rt := Q } (start N_common_bottom vs) H := by
  obtain ⟨v, qs, M, rfl, hv, ⟨hM, hdM⟩, hlog, q⟩ := h
  obtain ⟨a, xs, rfl, ha, hl⟩ := hv.tup_at
  have hlen : xs.length = qs.length := by rw [hl.length, List.length_map]
  unfold t_common_bottom
  walk_at "go"
  refine forT_of ha (fun i σ H' => H' = H ∧ ∃ (L : Nat) (x y : Option V), σ = [some (.ref a), some (.int (L : Nat)), x, y] ∧ 0 < L ∧ L ∣ M ∧ (∀ q ∈ qs.take i, q.den ∣ L) ∧ (∀ m, (∀ q ∈ qs.take i, q.den ∣ m) → L ∣ m)) (fun _ _ => False)
    ⟨rfl, 1, none, none, rfl, by decide, Nat.one_dvd _, by simp, fun m _ => Nat.one_dvd _⟩ (fun i σ H' p b ys e => by rw [p.1]; exact e) ?_ ?_ (fun _ _ h => h.elim)
  · rintro i x σ H' N B hx ⟨rfl, L, y1, y2, rfl, h0, h1, h2, h3⟩ hN hB
    obtain ⟨e, he, hi⟩ := hl.get hx
    obtain ⟨r, hr, rfl⟩ := get_frs he
    obtain ⟨b, rfl, hb⟩ := hi.fr_at
    have hrm : r ∈ qs := List.mem_of_getElem? hr
    have hrd : 0 < r.den := Nat.pos_of_ne_zero r.den_nz
    have lL : L.log2 < 13000 := Nat.lt_trans (log2_lt_of_le (Nat.le_of_dvd hM h1) hlog (by decide)) (by decide)
    have lr : r.den.log2 < 13000 := Nat.lt_trans (log2_lt_of_le (Nat.le_of_dvd hM (hdM r hrm)) hlog (by decide)) (by decide)
    walk_at "go"
    refine i_lcm (by omega) (by omega) (by rw [Int.natAbs_natCast]; exact lL) (by rw [Int.natAbs_natCast]; exact lr) ?_
    rw [Int.natAbs_natCast, Int.natAbs_natCast]
    refine hN _ _ ⟨rfl, L.lcm r.den, _, _, rfl, Nat.lcm_pos h0 hrd, Nat.lcm_dvd h1 (hdM r hrm), ?_, ?_⟩
    · intro z hz
      rw [List.take_add_one, hr] at hz
      rcases List.mem_append.mp hz with hz | hz
      · exact Nat.dvd_trans (h2 z hz) (Nat.dvd_lcm_left _ _)
      · have e : z = r := by simpa using hz
        subst e
        exact Nat.dvd_lcm_right _ _
    · intro m hm
      rw [List.take_add_one, hr] at hm
      exact Nat.lcm_dvd (h3 m fun z hz => hm z (List.mem_append_left _ hz)) (hm r (List.mem_append_right _ (by simp)))
  · rintro σ H' ⟨rfl, L, y1, y2, rfl, h0, h1, h2, h3⟩
    rw [hlen, List.take_length] at h2 h3
    walk_at "go"
    exact q L h0 h1 h2 h3

theorem sc_common_bottom : FnScope N_common_bottom ["fractions"] (defScope s_common_bottom) := ⟨rfl, rfl, rfl, by decide +kernel, rfl, by decide +kernel, by decide +kernel⟩
theorem ok_common_bottom {P : Program} {w : World} {K : PySem.W.Frag} {mg : Str → Option Value} {base : Heap} {C : CA} {f : Addr} {fd : FuncData} (T : CT K C) (B : Bi mg C) (F : Fun K "common_bottom" "common_bottom" s_common_bottom f fd)  : FnOk P w K mg base CX0 1 f fd ["fractions"] (sp_common_bottom K C) := by
  refine F.ok sc_common_bottom (fun vs H Q E h => ?_) (fun cdv A outer s H vs Q E hr h => ⟨t_common_bottom K C, ?_, rd_common_bottom h⟩)
  · obtain ⟨_, _, _, rfl, _⟩ := h
    rfl
  · exact (pss_cons (ps_set (i := 1) sc_common_bottom.nd rfl (Or.inl rfl) pe_int) (pss_cons (ps_for PassesOwn.never rfl (pi_tup (pv 0)) (pg_tup rfl (pgs_cons (pg_name (i := 2) sc_common_bottom.nd rfl (Or.inl rfl)) (pgs_cons (pg_name (i := 3) sc_common_bottom.nd rfl (Or.inl rfl)) pgs_nil))) (pss_one (ps_set (i := 1) sc_common_bottom.nd rfl (Or.inl rfl) (pe_callBfun cr_lcm rfl B.g_lcm (pa_cons (pv 1) (pa_cons (pv 3) pa_nil)))))) (pss_one (ps_ret (pv 1)))))

/-! ### in_units -/
abbrev s_in_units : Stmt := top 8
def sp_in_units (K : PySem.W.Frag) (C : CA) : Sp := fun vs H Q _ => ∃ (v : V) (qs : List Rat) (L : Nat), vs = [v, .int (L : Nat)] ∧ Im H v (.tuple (qs.map fr)) ∧ 0 < L ∧ (∀ q ∈ qs, q.den ∣ L) ∧ L < 2 ^ 9000 ∧ (∀ q ∈ qs, q.num.natAbs < 2 ^ 9000) ∧ qs.length < sizeLine ∧
  ∀ p H', H p = none → Same H H' → H' p = some (.lst ((qs.map fun q => q.num * ((L : Int) / (q.den : Int))).map V.int)) → Q (.ref p) H'

@[reducible] def N_in_units : List Str := ["fractions", "shared", "top", "bottom"]
def t_in_units (K : PySem.W.Frag) (C : CA) : TS :=
  (tRet (tLc (iTup K (tVar 0)) (gTup K 2 (gCons (gName 2) (gCons (gName 3) gNil))) tYes (tOp oMul (tVar 2) (tOp oDiv (tVar 1) (tVar 3))) [2, 3]))

theorem rd_in_units {K : PySem.W.Frag} {C : CA} {vs : List V} {H : Hp} {Q : VK} {E : XK} (h : sp_in_units K C vs H Q E) : t_in_units K C { nx := fun _ H' => Q .non H', rt := Q } (start N_in_units vs) H := by
  obtain ⟨v, qs, L, rfl, hv, hL, hd, hL2, hn, hz, q⟩ := h
  obtain ⟨a, xs, rfl, ha, hl⟩ := hv.tup_at
  unfold t_in_units
  walk_at "go"
  refine lcT_of (es := qs.map fr) (fun d => match d with | .tuple [.int n, .int d] => .int (n * ((L : Int) / d)) | d => d) ha hl (by rw [List.length_map]; exact hz) (fun e x H2 N he s2 hx hN => ?_) (fun D H2 ys hD s2 e2 hy => ?_)
  · obtain ⟨r, hr, rfl⟩ := mem_frs he
    obtain ⟨b, rfl, hb⟩ := hx.fr_at
    have hrd : 0 < r.den := Nat.pos_of_ne_zero r.den_nz
    have hle : r.den ≤ L := Nat.le_of_dvd hL (hd r hr)
    walk_at "go"
    refine ⟨rfl, ?_⟩
    walk_at "go"
    refine i_rI (div_ok hrd (log2_of_lt (Nat.lt_of_le_of_lt hle hL2) (by decide))) ?_
    have hq : ((L : Int) / (r.den : Int)).natAbs < 2 ^ 9000 := by
      rw [← Int.natCast_ediv, Int.natAbs_natCast]
      exact Nat.lt_of_le_of_lt (Nat.div_le_self _ _) hL2
    refine i_rI (mul_wide (hn r hr) hq (by decide)) ?_
    exact hN _ _ (Same.refl _) (by simp only [fr]; exact Im.int')
  · refine q D H2 hD s2 ?_
    rw [e2]
    have ey : ys = (qs.map fun q => q.num * ((L : Int) / (q.den : Int))).map V.int := by
      clear e2 hz ha hl hv hd hn q
      induction qs generalizing ys with
      | nil => cases ys with
        | nil => rfl
        | cons y ys => simp [ImL] at hy
      | cons z zs ih => cases ys with
        | nil => simp [ImL] at hy
        | cons y ys =>
          simp only [List.map_cons, ImL, fr, Im] at hy
          simp only [List.map_cons]
          rw [hy.1, ih ys hy.2]
    rw [ey]

theorem sc_in_units : FnScope N_in_units ["fractions", "shared"] (defScope s_in_units) := ⟨rfl, rfl, rfl, by decide +kernel, rfl, by decide +kernel, by decide +kernel⟩
theorem ok_in_units {P : Program} {w : World} {K : PySem.W.Frag} {mg : Str → Option Value} {base : Heap} {C : CA} {f : Addr} {fd : FuncData} (T : CT K C) (B : Bi mg C) (F : Fun K "in_units" "in_units" s_in_units f fd)  : FnOk P w K mg base CX0 1 f fd ["fractions", "shared"] (sp_in_units K C) := by
  refine F.ok sc_in_units (fun vs H Q E h => ?_) (fun cdv A outer s H vs Q E hr h => ⟨t_in_units K C, ?_, rd_in_units h⟩)
  · obtain ⟨_, _, _, rfl, _⟩ := h
    rfl
  · exact (pss_one (ps_ret (pe_lc (own := [("top", 2), ("bottom", 3)]) (g := (gTup K 2 (gCons (gName 2) (gCons (gName 3) gNil)))) (tt := tYes) rfl sc_in_units.nd (pi_tup (pv 0)) (blkOk_by (own := [("top", 2), ("bottom", 3)]) (N := N_in_units) (sc := defScope s_in_units) (by decide +kernel)) (fun _ _ _ _ _ => (pg_tup rfl (pgs_cons (pg_name (i := 2) sc_in_units.nd rfl (Or.inl rfl)) (pgs_cons (pg_name (i := 3) sc_in_units.nd rfl (Or.inl rfl)) pgs_nil)))) (fun _ _ _ _ _ => pts_nil) (fun _ _ _ _ _ => (pe_op op_mulA (pv 2) (pe_op op_fdivW (pv 1) (pv 3)))))))

/-! ### added -/
abbrev s_added : Stmt := top 9
def sp_added (K : PySem.W.Frag) (C : CA) : Sp := fun vs H Q _ => ∃ (v : V) (qs : List Rat), vs = [v] ∧ Im H v (.tuple (qs.map fr)) ∧ Bd 8000 qs ∧ Ret H Q (fr qs.sum)

@[reducible] def N_added : List Str := ["fractions", "shared"]
def t_added (K : PySem.W.Frag) (C : CA) : TS :=
  (tSeq (tAsg (tCall (sp_common_bottom K C) [] E0 (tCons (tVar 0) tNil)) (gName 1)) (tRet (tCall (sp_lowest K C) [] E0 (tCons (tCB (rSum K) (tCons (tCall (sp_in_units K C) [] E0 (tCons (tVar 0) (tCons (tVar 1) tNil))) tNil)) (tCons (tVar 1) tNil)))))

theorem rd_added {K : PySem.W.Frag} {C : CA} {vs : List V} {H : Hp} {Q : VK} {E : XK} (h : sp_added K C vs H Q E) : t_added K C { nx := fun _ H' => Q .non H', rt := Q } (start N_added vs) H := by
  obtain ⟨v, qs, rfl, hv, ⟨hlen, ⟨M, hM, hMB⟩, hn⟩, q⟩ := h
  unfold t_added
  walk_at "go"
  refine ⟨v, qs, M, rfl, hv, hM, log2_of_lt (Nat.lt_trans hMB (Nat.pow_lt_pow_right (by decide) (by decide))) (by decide), fun L hL hLM hd _ => ?_⟩
  have hLB : L < 2 ^ 8000 := Nat.lt_of_le_of_lt (Nat.le_of_dvd hM.1 hLM) hMB
  have h89 : (2 : Nat) ^ 8000 < 2 ^ 9000 := Nat.pow_lt_pow_right (by decide) (by decide)
  walk_at "go"
  refine ⟨v, qs, L, rfl, hv, hL, hd, Nat.lt_trans hLB h89, fun r hr => Nat.lt_trans (hn r hr) h89, small1000 hlen, fun p H1 n1 s1 e1 => ?_⟩
  walk_at "go"
  refine i_rsum e1 ?_
  walk_at "go"
  refine ⟨_, L, rfl, hL, log2_of_lt (Nat.lt_trans hLB h89) (by decide), fun w H2 s2 hw => ?_⟩
  rw [units_sum L hL qs hd] at hw
  exact q w H2 (s1.trans s2) hw

theorem sc_added : FnScope N_added ["fractions"] (defScope s_added) := ⟨rfl, rfl, rfl, by decide +kernel, rfl, by decide +kernel, by decide +kernel⟩
theorem ok_added {P : Program} {w : World} {K : PySem.W.Frag} {mg : Str → Option Value} {base : Heap} {C : CA} {f : Addr} {fd : FuncData} (T : CT K C) (B : Bi mg C) (F : Fun K "added" "added" s_added f fd) (D_lowest : Okd P w K mg base 1 "lowest" ["top", "bottom"] (sp_lowest K C)) (D_common_bottom : Okd P w K mg base 1 "common_bottom" ["fractions"] (sp_common_bottom K C)) (D_in_units : Okd P w K mg base 1 "in_units" ["fractions", "shared"] (sp_in_units K C)) : FnOk P w K mg base CX0 2 f fd ["fractions"] (sp_added K C) := by
  refine F.ok sc_added (fun vs H Q E h => ?_) (fun cdv A outer s H vs Q E hr h => ⟨t_added K C, ?_, rd_added h⟩)
  · obtain ⟨_, _, rfl, _⟩ := h
    rfl
  · exact (pss_cons (ps_set (i := 1) sc_added.nd rfl (Or.inl rfl) (pe_callD D_common_bottom (hr.mono (by decide)) (pa_cons (pv 0) pa_nil))) (pss_one (ps_ret (pe_callD D_lowest (hr.mono (by decide)) (pa_cons (pe_callB (cr_sum rfl) (by rfl) B.b_sum bt_sum (pa_cons (pe_callD D_in_units (hr.mono (by decide)) (pa_cons (pv 0) (pa_cons (pv 1) pa_nil))) pa_nil)) (pa_cons (pv 1) pa_nil))))))

/-! ### is_integer -/
abbrev s_is_integer : Stmt := top 2
def sp_is_integer (K : PySem.W.Frag) (C : CA) : Sp := fun vs H Q _ => ∃ (v : V) (d : Th) (P : Addr → Prop), vs = [v] ∧ ThR P H v d ∧ Q (.bl (d.isInt && !d.isBl)) H

@[reducible] def N_is_integer : List Str := ["thing"]
def t_is_integer (K : PySem.W.Frag) (C : CA) : TS :=
  (tRet (tAndV (tCB (rIsi K) (tCons (tVar 0) (tCons (tC (.ty "int")) tNil))) (tNotV (tCB (rIsi K) (tCons (tVar 0) (tCons (tC (.ty "bool")) tNil))))))

theorem rd_is_integer {K : PySem.W.Frag} {C : CA} {vs : List V} {H : Hp} {Q : VK} {E : XK} (h : sp_is_integer K C vs H Q E) : t_is_integer K C { nx := fun _ H' => Q .non H', rt := Q } (start N_is_integer vs) H := by
  obtain ⟨v, d, P, rfl, hv, q⟩ := h
  unfold t_is_integer
  walk_at "go"
  refine i_isi_intT hv ?_
  walk_at "go"
  refine ite_b (fun h1 => ?_) (fun h1 => ?_)
  · walk_at "go"
    refine i_isi_blT hv ?_
    walk_at "go"
    rw [h1, Bool.true_and] at q
    exact q
  · rw [h1, Bool.false_and] at q
    exact q

theorem sc_is_integer : FnScope N_is_integer ["thing"] (defScope s_is_integer) := ⟨rfl, rfl, rfl, by decide +kernel, rfl, by decide +kernel, by decide +kernel⟩
theorem ok_is_integer {P : Program} {w : World} {K : PySem.W.Frag} {mg : Str → Option Value} {base : Heap} {C : CA} {f : Addr} {fd : FuncData} (T : CT K C) (B : Bi mg C) (F : Fun K "is_integer" "is_integer" s_is_integer f fd)  : FnOk P w K mg base CX0 1 f fd ["thing"] (sp_is_integer K C) := by
  refine F.ok sc_is_integer (fun vs H Q E h => ?_) (fun cdv A outer s H vs Q E hr h => ⟨t_is_integer K C, ?_, rd_is_integer h⟩)
  · obtain ⟨_, _, _, rfl, _⟩ := h
    rfl
  · exact (pss_one (ps_ret (pe_and (pe_callB call_isi (by rfl) B.b_isinstance bt_isinstance (pa_cons (pv 0) (pa_cons (pe_bltn (v := .ty "int") (by rfl) B.b_int bt_int rfl) pa_nil))) (pe_one (pe_not (pe_callB call_isi (by rfl) B.b_isinstance bt_isinstance (pa_cons (pv 0) (pa_cons (pe_bltn (v := .ty "bool") (by rfl) B.b_bool bt_bool rfl) pa_nil))))))))

/-! ### is_fraction -/
abbrev s_is_fraction : Stmt := top 4
def sp_is_fraction (K : PySem.W.Frag) (C : CA) : Sp := fun vs H Q _ => ∃ (v : V) (d : Th) (P : Addr → Prop), vs = [v] ∧ ThR P H v d ∧ Q (.bl d.frac) H

@[reducible] def N_is_fraction : List Str := ["thing", "top", "bottom"]
def t_is_fraction (K : PySem.W.Frag) (C : CA) : TS :=
  (tSeq (tIfS (tOr (tNot (tB (tCB (rIsi K) (tCons (tVar 0) (tCons (tC (.ty "tuple")) tNil))))) (tTest (tOp rNe (tCB (cLen K) (tCons (tVar 0) tNil)) (tC (.int 2))))) (tRet (tC (.bl false))) tNext) (tSeq (tAsg (tVar 0) (gTup K 2 (gCons (gName 1) (gCons (gName 2) gNil)))) (tSeq (tIfS (tOr (tNot (tB (tCall (sp_is_integer K C) [] E0 (tCons (tVar 1) tNil)))) (tNot (tB (tCall (sp_is_integer K C) [] E0 (tCons (tVar 2) tNil))))) (tRet (tC (.bl false))) tNext) (tRet (tAndV (tOp oGt (tVar 2) (tC (.int 0))) (tOp rEq (tCB rGcd (tCons (tVar 1) (tCons (tVar 2) tNil))) (tC (.int 1))))))))

theorem frac_len {l : List Th} (h : l.length ≠ 2) : (Th.tup l).frac = false := by
  match l, h with
  | [], _ => rfl
  | [x], _ => cases x <;> rfl
  | [_, _], h => exact absurd rfl h
  | x :: y :: _ :: _, _ => cases x <;> cases y <;> rfl
theorem frac_no {d : Th} (h : d.isTup = false) : d.frac = false := by
  cases d with
  | tup l => simp [Th.isTup] at h
  | int i => rfl
  | bl b => rfl
  | oth => rfl
theorem int_of {d : Th} (h : (d.isInt && !d.isBl) = true) : ∃ i, d = .int i := by
  cases d with
  | int i => exact ⟨i, rfl⟩
  | bl b => simp [Th.isInt, Th.isBl] at h
  | tup l => simp [Th.isInt] at h
  | oth => simp [Th.isInt] at h
theorem frac_l {x y : Th} (h : (x.isInt && !x.isBl) = false) : (Th.tup [x, y]).frac = false := by
  cases x with
  | int i => simp [Th.isInt, Th.isBl] at h
  | bl b => rfl
  | tup l => rfl
  | oth => rfl
theorem frac_r {x y : Th} (h : (y.isInt && !y.isBl) = false) : (Th.tup [x, y]).frac = false := by
  cases y with
  | int i => simp [Th.isInt, Th.isBl] at h
  | bl b => cases x <;> rfl
  | tup l => cases x <;> rfl
  | oth => cases x <;> rfl
theorem rd_is_fraction {K : PySem.W.Frag} {C : CA} {vs : List V} {H : Hp} {Q : VK} {E : XK} (h : sp_is_fraction K C vs H Q E) : t_is_fraction K C { nx := fun _ H' => Q .non H', rt := Q } (start N_is_fraction vs) H := by
  obtain ⟨v, d, P, rfl, hv, q⟩ := h
  unfold t_is_fraction
  rcases th_cases d with ⟨l, rfl⟩ | ⟨h1, _⟩
  · obtain ⟨a, xs, rfl, ha, hl⟩ := hv.tup_at
    have hlen := hl.length
    walk_at "go"
    refine ite_nd (fun h => ?_) (fun h => ?_)
    · walk_at "go"
      rw [frac_len (fun z => h (by rw [hlen, z]; rfl))] at q
      exact q
    · have h' : xs.length = 2 := by injection h with h; omega
      obtain ⟨vx, vy, rfl⟩ := len_two h'
      match l, hl, ha with
      | [x, y], hl, ha =>
        simp only [ThL] at hl
        obtain ⟨hx, hy, _⟩ := hl
        walk_at "go"
        refine ⟨vx, x, P, rfl, hx, ?_⟩
        walk_at "go"
        refine ite_nb (fun h1 => ?_) (fun h1 => ?_)
        · walk_at "go"
          rw [frac_l h1] at q
          exact q
        · walk_at "go"
          refine ⟨vy, y, P, rfl, hy, ?_⟩
          walk_at "go"
          refine ite_nb (fun h2 => ?_) (fun h2 => ?_)
          · walk_at "go"
            rw [frac_r h2] at q
            exact q
          · obtain ⟨i, rfl⟩ := int_of h1
            obtain ⟨j, rfl⟩ := int_of h2
            simp only [ThR] at hx hy
            subst hx hy
            walk_at "go"
            refine ite_d (fun h3 => ?_) (fun h3 => ?_)
            · walk_at "go"
              have e : (Th.tup [.int i, .int j]).frac = decide (V.int ((i.natAbs.gcd j.natAbs : Nat) : Int) = V.int 1) := by
                simp only [Th.frac]
                rw [Bool.eq_iff_iff, decide_eq_true_eq, decide_eq_true_eq]
                constructor
                · rintro ⟨_, h⟩; rw [h]; rfl
                · intro h; injection h with h; exact ⟨h3, by omega⟩
              rw [e] at q
              exact q
            · have e : (Th.tup [.int i, .int j]).frac = false := decide_eq_false fun z => h3 z.1
              rw [e] at q
              exact q
  · walk_at "go"
    refine i_isi_tupT hv ?_
    rw [h1]
    walk_at "go"
    rw [frac_no h1] at q
    exact q

theorem sc_is_fraction : FnScope N_is_fraction ["thing"] (defScope s_is_fraction) := ⟨rfl, rfl, rfl, by decide +kernel, rfl, by decide +kernel, by decide +kernel⟩
theorem ok_is_fraction {P : Program} {w : World} {K : PySem.W.Frag} {mg : Str → Option Value} {base : Heap} {C : CA} {f : Addr} {fd : FuncData} (T : CT K C) (B : Bi mg C) (F : Fun K "is_fraction" "is_fraction" s_is_fraction f fd) (D_is_integer : Okd P w K mg base 1 "is_integer" ["thing"] (sp_is_integer K C)) : FnOk P w K mg base CX0 2 f fd ["thing"] (sp_is_fraction K C) := by
  refine F.ok sc_is_fraction (fun vs H Q E h => ?_) (fun cdv A outer s H vs Q E hr h => ⟨t_is_fraction K C, ?_, rd_is_fraction h⟩)
  · obtain ⟨_, _, _, rfl, _⟩ := h
    rfl
  · exact (pss_cons (ps_if (PW.pt (pw_or (pt_not (pt_val (pe_callB call_isi (by rfl) B.b_isinstance bt_isinstance (pa_cons (pv 0) (pa_cons (pe_bltn (v := .ty "tuple") (by rfl) B.b_tuple bt_tuple rfl) pa_nil))))) (pw_or1 (pt_cmpR op_ne (pe_callB call_len (by rfl) B.b_len bt_len (pa_cons (pv 0) pa_nil)) pe_int (nomark _))))) (pss_one (ps_ret pe_bl)) pss_nil) (pss_cons (ps_asg (pv 0) (pg_tup rfl (pgs_cons (pg_name (i := 1) sc_is_fraction.nd rfl (Or.inl rfl)) (pgs_cons (pg_name (i := 2) sc_is_fraction.nd rfl (Or.inl rfl)) pgs_nil)))) (pss_cons (ps_if (PW.pt (pw_or (pt_not (pt_val (pe_callD D_is_integer (hr.mono (by decide)) (pa_cons (pv 1) pa_nil)))) (pw_or1 (pt_not (pt_val (pe_callD D_is_integer (hr.mono (by decide)) (pa_cons (pv 2) pa_nil))))))) (pss_one (ps_ret pe_bl)) pss_nil) (pss_one (ps_ret (pe_and (pe_cmpR op_gt (pv 2) pe_int (nomark _)) (pe_one (pe_cmpR op_eq (pe_callBfun cr_gcd rfl B.g_gcd (pa_cons (pv 1) (pa_cons (pv 2) pa_nil))) pe_int (nomark _)))))))))

/-! ### is_amount -/
abbrev s_is_amount : Stmt := top 5
def sp_is_amount (K : PySem.W.Frag) (C : CA) : Sp := fun vs H Q _ => ∃ (v : V) (d : Th) (P : Addr → Prop), vs = [v] ∧ ThR P H v d ∧ Q (.bl d.amt) H
theorem frac_pair {d : Th} (h : d.frac = true) : ∃ i j, d = .tup [.int i, .int j] := by
  match d, h with
  | .tup [.int i, .int j], _ => exact ⟨i, j, rfl⟩
theorem nofrac {d : Th} (h : d.frac = false) : d.amt = false := by
  rw [← Bool.not_eq_true] at h ⊢
  intro z
  obtain ⟨q, rfl, hq⟩ := amt_iff.mp z
  refine h ?_
  have := amt_frac (i := q.num) (j := (q.den : Nat))
  unfold frT at z
  rw [z] at this
  exact (Bool.and_eq_true_iff.mp this.symm).1

@[reducible] def N_is_amount : List Str := ["thing"]
def t_is_amount (K : PySem.W.Frag) (C : CA) : TS :=
  (tRet (tAndV (tCall (sp_is_fraction K C) [] E0 (tCons (tVar 0) tNil)) (tOp oGt (tOp (rIxT K) (tVar 0) (tC (.int 0))) (tC (.int 0)))))

theorem rd_is_amount {K : PySem.W.Frag} {C : CA} {vs : List V} {H : Hp} {Q : VK} {E : XK} (h : sp_is_amount K C vs H Q E) : t_is_amount K C { nx := fun _ H' => Q .non H', rt := Q } (start N_is_amount vs) H := by
  obtain ⟨v, d, P, rfl, hv, q⟩ := h
  unfold t_is_amount
  walk_at "go"
  refine ⟨v, d, P, rfl, hv, ?_⟩
  walk_at "go"
  refine ite_b (fun h => ?_) (fun h => ?_)
  · obtain ⟨i, j, rfl⟩ := frac_pair h
    obtain ⟨a, vs, rfl, ha, hl⟩ := hv.tup_at
    match vs, hl, ha with
    | [x, y], hl, ha =>
      simp only [ThL, ThR] at hl
      obtain ⟨rfl, rfl, _⟩ := hl
      walk_at "go"
      rw [amt_frac, h, Bool.true_and] at q
      exact q
  · rw [nofrac h] at q
    exact q

theorem sc_is_amount : FnScope N_is_amount ["thing"] (defScope s_is_amount) := ⟨rfl, rfl, rfl, by decide +kernel, rfl, by decide +kernel, by decide +kernel⟩
theorem ok_is_amount {P : Program} {w : World} {K : PySem.W.Frag} {mg : Str → Option Value} {base : Heap} {C : CA} {f : Addr} {fd : FuncData} (T : CT K C) (B : Bi mg C) (F : Fun K "is_amount" "is_amount" s_is_amount f fd) (D_is_fraction : Okd P w K mg base 2 "is_fraction" ["thing"] (sp_is_fraction K C)) : FnOk P w K mg base CX0 3 f fd ["thing"] (sp_is_amount K C) := by
  refine F.ok sc_is_amount (fun vs H Q E h => ?_) (fun cdv A outer s H vs Q E hr h => ⟨t_is_amount K C, ?_, rd_is_amount h⟩)
  · obtain ⟨_, _, _, rfl, _⟩ := h
    rfl
  · exact (pss_one (ps_ret (pe_and (pe_callD D_is_fraction (hr.mono (by decide)) (pa_cons (pv 0) pa_nil)) (pe_one (pe_cmpR op_gt (pe_ix ix_tup (pv 0) pe_int (fun _ _ => rfl)) pe_int (nomark _))))))

/-! ### _is_side -/
abbrev s_q_is_side : Stmt := top 16
def sp_q_is_side (K : PySem.W.Frag) (C : CA) : Sp := fun vs H Q _ => ∃ (v : V) (d : Th) (P : Addr → Prop), vs = [v] ∧ ThR P H v d ∧ d.len ≤ 1000 ∧ ∀ H', Same H H' → Q (.bl d.side) H'
theorem side_no {d : Th} (h : d.isTup = false) : d.side = false := by
  cases d with
  | tup l => simp [Th.isTup] at h
  | int i => rfl
  | bl b => rfl
  | oth => rfl

@[reducible] def N_q_is_side : List Str := ["thing", "amount"]
def t_q_is_side (K : PySem.W.Frag) (C : CA) : TS :=
  (tSeq (tIfS (tOr (tNot (tB (tCB (rIsi K) (tCons (tVar 0) (tCons (tC (.ty "tuple")) tNil))))) (tNot (tTest (tChain oLe oLe (tC (.int 1)) (tCB (cLen K) (tCons (tVar 0) tNil)) (tC (.int 100)))))) (tRet (tC (.bl false))) tNext) (tRet (tCB (rAll K) (tCons (tLc (iTup K (tVar 0)) (gName 1) tYes (tCall (sp_is_amount K C) [] E0 (tCons (tVar 1) tNil)) [1]) tNil))))

theorem rd_q_is_side {K : PySem.W.Frag} {C : CA} {vs : List V} {H : Hp} {Q : VK} {E : XK} (h : sp_q_is_side K C vs H Q E) : t_q_is_side K C { nx := fun _ H' => Q .non H', rt := Q } (start N_q_is_side vs) H := by
  obtain ⟨v, d, P, rfl, hv, hs, q⟩ := h
  unfold t_q_is_side
  rcases th_cases d with ⟨l, rfl⟩ | ⟨h1, _⟩
  · obtain ⟨a, xs, rfl, ha, hl⟩ := hv.tup_at
    have hlen := hl.length
    simp only [Th.len] at hs
    walk_at "go"
    refine ite_d (fun h => ?_) (fun h => ?_)
    · walk_at "go"
      refine ite_nd (fun h2 => ?_) (fun h2 => ?_)
      · walk_at "go"
        have e : (Th.tup l).side = false := by
          simp only [Th.side]
          rw [decide_eq_false (fun z => h2 (by omega)), Bool.false_and]
        rw [← e]
        exact q _ (Same.refl _)
      · walk_at "go"
        refine lcTh_of (fun e => PyData.bool e.amt) ha hl (by omega) (fun e x H1 N he s1 hx hN => ?_) (fun D H1 ys nD s1 e1 i1 => ?_)
        · walk_at "go"
          refine ⟨rfl, ?_⟩
          walk_at "go"
          exact ⟨x, e, P, rfl, hx, hN _ _ (Same.refl _) (by simp [Im])⟩
        · have e2 : l.map (fun e => PyData.bool e.amt) = (l.map Th.amt).map PyData.bool := by rw [List.map_map]; rfl
          rw [e2] at i1
          rw [i1.bls] at e1
          walk_at "go"
          refine i_rall e1 ?_
          have e3 : (l.map Th.amt).all id = (Th.tup l).side := by
            simp only [Th.side]
            rw [decide_eq_true (by omega), Bool.true_and, List.all_map]; rfl
          rw [e3]
          exact q _ s1
    · walk_at "go"
      have e : (Th.tup l).side = false := by
        simp only [Th.side]
        rw [decide_eq_false (fun z => h (by omega)), Bool.false_and]
      rw [← e]
      exact q _ (Same.refl _)
  · walk_at "go"
    refine i_isi_tupT hv ?_
    rw [h1]
    walk_at "go"
    rw [← side_no h1]
    exact q _ (Same.refl _)

theorem sc_q_is_side : FnScope N_q_is_side ["thing"] (defScope s_q_is_side) := ⟨rfl, rfl, rfl, by decide +kernel, rfl, by decide +kernel, by decide +kernel⟩
theorem ok_q_is_side {P : Program} {w : World} {K : PySem.W.Frag} {mg : Str → Option Value} {base : Heap} {C : CA} {f : Addr} {fd : FuncData} (T : CT K C) (B : Bi mg C) (F : Fun K "_is_side" "_is_side" s_q_is_side f fd) (D_is_amount : Okd P w K mg base 3 "is_amount" ["thing"] (sp_is_amount K C)) : FnOk P w K mg base CX0 4 f fd ["thing"] (sp_q_is_side K C) := by
  refine F.ok sc_q_is_side (fun vs H Q E h => ?_) (fun cdv A outer s H vs Q E hr h => ⟨t_q_is_side K C, ?_, rd_q_is_side h⟩)
  · obtain ⟨_, _, _, rfl, _⟩ := h
    rfl
  · exact (pss_cons (ps_if (PW.pt (pw_or (pt_not (pt_val (pe_callB call_isi (by rfl) B.b_isinstance bt_isinstance (pa_cons (pv 0) (pa_cons (pe_bltn (v := .ty "tuple") (by rfl) B.b_tuple bt_tuple rfl) pa_nil))))) (pw_or1 (pt_not (pt_chain op_le op_le pe_int (pe_callB call_len (by rfl) B.b_len bt_len (pa_cons (pv 0) pa_nil)) (pe_glob rfl B.g_MOST_SUMS.choose_spec.1 B.g_MOST_SUMS.choose_spec.2)))))) (pss_one (ps_ret pe_bl)) pss_nil) (pss_one (ps_ret (pe_callB (cr_all rfl) (by rfl) B.b_all bt_all (pa_cons (pe_lc (own := [("amount", 1)]) (g := (gName 1)) (tt := tYes) rfl sc_q_is_side.nd (pi_tup (pv 0)) (blkOk_by (own := [("amount", 1)]) (N := N_q_is_side) (sc := defScope s_q_is_side) (by decide +kernel)) (fun _ _ _ _ _ => (pg_name (i := 1) sc_q_is_side.nd rfl (Or.inl rfl))) (fun _ _ _ _ _ => pts_nil) (fun _ _ _ _ _ => (pe_callD D_is_amount (hr.mono (by decide)) (pa_cons (pv 1) pa_nil)))) pa_nil)))))

/-! ### BadEvening.__init__ -/
abbrev s_BadEveningu_initu : Stmt := inClass (top 12) 0
def sp_BadEveningu_initu (K : PySem.W.Frag) (C : CA) : Sp := spKeep K C.BadEvening "part"

@[reducible] def N_BadEveningu_initu : List Str := ["self", "part"]
def t_BadEveningu_initu (K : PySem.W.Frag) (C : CA) : TS :=
  (tOst K "part" (tVar 0) (tVar 1))

theorem rd_BadEveningu_initu {K : PySem.W.Frag} {C : CA} {vs : List V} {H : Hp} {Q : VK} {E : XK} (h : sp_BadEveningu_initu K C vs H Q E) : t_BadEveningu_initu K C { nx := fun _ H' => Q .non H', rt := Q } (start N_BadEveningu_initu vs) H := by
  obtain ⟨a, v, rfl, ox, no, ha, q⟩ := h
  unfold t_BadEveningu_initu
  walk_at "go"
  exact ⟨a, C.BadEvening, rfl, ox, no, .inl ⟨ha, q⟩⟩

theorem sc_BadEveningu_initu : FnScope N_BadEveningu_initu ["self", "part"] (defScope s_BadEveningu_initu) := ⟨rfl, rfl, rfl, by decide +kernel, rfl, by decide +kernel, by decide +kernel⟩
theorem ok_BadEveningu_initu {P : Program} {w : World} {K : PySem.W.Frag} {mg : Str → Option Value} {base : Heap} {C : CA} {f : Addr} {fd : FuncData} (T : CT K C) (B : Bi mg C) (F : Fun K "__init__" "BadEvening.__init__" s_BadEveningu_initu f fd)  : FnOk P w K mg base CX0 1 f fd ["self", "part"] (sp_BadEveningu_initu K C) := by
  refine F.ok sc_BadEveningu_initu (fun vs H Q E h => ?_) (fun cdv A outer s H vs Q E hr h => ⟨t_BadEveningu_initu K C, ?_, rd_BadEveningu_initu h⟩)
  · obtain ⟨_, _, rfl, _⟩ := h
    rfl
  · exact (pss_one (ps_ost (pv 0) (pv 1)))

/-! ### Evening.__init__ -/
abbrev s_Eveningu_initu : Stmt := inClass (top 15) 0
def sp_Eveningu_initu (K : PySem.W.Frag) (C : CA) : Sp := fun vs H Q E => ∃ (p dx : Addr) (vo vd : V) (to td : Th) (P : Addr → Prop) (M : Nat), vs = [.ref p, vo, vd] ∧ H p = some (.ins C.Evening dx []) ∧ ThR P H vo to ∧ ThR P H vd td ∧ SideT M to ∧ SideT M td ∧ 0 < M ∧ M < 2 ^ 48 ∧
  (to.side = false → ∀ d H', Same H H' → H' d = some (.xd [("part", .str "owed")]) → E (.ref C.BadEvening) (some d) H') ∧
  (to.side = true → td.side = false → ∀ d H', Same H H' → H' d = some (.xd [("part", .str "due")]) → E (.ref C.BadEvening) (some d) H') ∧
  (∀ o e : List Rat, to = .tup (o.map frT) → td = .tup (e.map frT) → to.side = true → td.side = true → o.sum ≠ e.sum → ∀ d H', Same H H' → H' d = some (.xd [("part", .str "sums")]) → E (.ref C.BadEvening) (some d) H') ∧
  (∀ o e : List Rat, to = .tup (o.map frT) → td = .tup (e.map frT) → to.side = true → td.side = true → o.sum = e.sum → ∀ H', (∀ b x, b ≠ p → H b = some x → H' b = some x) → H' p = some (.ins C.Evening dx [("owed", vo), ("due", vd)]) → Q .non H')
theorem side_frs {d : Th} (h : d.side = true) : ∃ qs : List Rat, d = .tup (qs.map frT) ∧ ∀ q ∈ qs, 0 < q.num := by
  cases d with
  | tup l =>
    simp only [Th.side, Bool.and_eq_true] at h
    obtain ⟨qs, rfl, hq⟩ := all_amt h.2
    exact ⟨qs, rfl, hq⟩
  | int i => simp [Th.side] at h
  | bl b => simp [Th.side] at h
  | oth => simp [Th.side] at h

@[reducible] def N_Eveningu_initu : List Str := ["self", "owed", "due"]
def t_Eveningu_initu (K : PySem.W.Frag) (C : CA) (E : XK) : TS :=
  (tSeq (tIfS (tNot (tB (tCall (sp_q_is_side K C) [] E0 (tCons (tVar 1) tNil)))) (tRz (tMkO C.BadEvening (sp_BadEveningu_initu K C) [] (tCons (tC (.str "owed")) tNil)) (fun cls d _ H => E cls d H)) tNext) (tSeq (tIfS (tNot (tB (tCall (sp_q_is_side K C) [] E0 (tCons (tVar 2) tNil)))) (tRz (tMkO C.BadEvening (sp_BadEveningu_initu K C) [] (tCons (tC (.str "due")) tNil)) (fun cls d _ H => E cls d H)) tNext) (tSeq (tIfS (tTest (tOp (rNeD K) (tCall (sp_added K C) [] E0 (tCons (tVar 1) tNil)) (tCall (sp_added K C) [] E0 (tCons (tVar 2) tNil)))) (tRz (tMkO C.BadEvening (sp_BadEveningu_initu K C) [] (tCons (tC (.str "sums")) tNil)) (fun cls d _ H => E cls d H)) tNext) (tSeq (sFld K (tVar 0) (tVar 1) "owed") (sFld K (tVar 0) (tVar 2) "due")))))

theorem rd_Eveningu_initu {K : PySem.W.Frag} {C : CA} (T : CT K C) (TF_BadEvening : ExcF K C.BadEvening "part") {vs : List V} {H : Hp} {Q : VK} {E : XK} (h : sp_Eveningu_initu K C vs H Q E) : t_Eveningu_initu K C E { nx := fun _ H' => Q .non H', rt := Q } (start N_Eveningu_initu vs) H := by
  obtain ⟨p, dx, vo, vd, to, td, P, M, rfl, hp, ho, hd, so, sd, m0, m1, q1, q2, q3, q4⟩ := h
  unfold t_Eveningu_initu
  walk_at "go"
  refine ⟨vo, to, P, rfl, ho, so.ln, fun H1 s1 => ?_⟩
  walk_at "go"
  refine ite_nb (fun h1 => ?_) (fun h1 => ?_)
  · walk_at "go"
    exact mkKeep TF_BadEvening fun d H' s e => q1 h1 d H' (s1.trans s) e
  walk_at "go"
  refine ⟨vd, td, P, rfl, sm_th s1 hd, sd.ln, fun H2 s2 => ?_⟩
  walk_at "go"
  refine ite_nb (fun h2 => ?_) (fun h2 => ?_)
  · walk_at "go"
    exact mkKeep TF_BadEvening fun d H' s e => q2 h1 h2 d H' (s1.trans (s2.trans s)) e
  obtain ⟨o, rfl, po⟩ := side_frs h1
  obtain ⟨e, rfl, pe⟩ := side_frs h2
  have bo := so.bw m0 m1 po
  have be := sd.bw m0 m1 pe
  walk_at "go"
  refine ⟨vo, o, rfl, (sm_th s2 (sm_th s1 ho)).frsD, bo.bd, fun w1 H3 s3 e3 => ?_⟩
  walk_at "go"
  refine ⟨vd, e, rfl, (sm_th s3 (sm_th s2 (sm_th s1 hd))).frsD, be.bd, fun w2 H4 s4 e4 => ?_⟩
  have s04 : Same H H4 := s1.trans (s2.trans (s3.trans s4))
  refine i_neD (d := fr o.sum) (e := fr e.sum) (sm_im s4 e3) e4 (fr_shaped _) (fr_shaped _) ?_
  rw [eqv_fr]
  walk_at "go"
  refine ite_nd (fun h3 => ?_) (fun h3 => ?_)
  · walk_at "go"
    exact mkKeep TF_BadEvening fun d H' s e' => q3 o e rfl rfl h1 h2 h3 d H' (s04.trans s) e'
  walk_at "go"
  have hp4 : H4 p = some (.ins C.Evening dx []) := s04 _ _ hp
  refine sfO_of hp4 T.cl T.nO (by decide) (fun H5 k5 e5 => ?_)
  walk_at "go"
  refine sfO_of e5 T.cl T.nD (by show (1 : Nat) < 1000; decide) (fun H6 k6 e6 => ?_)
  exact q4 o e rfl rfl h1 h2 h3 _ (fun b x hb hx => k6.keep _ _ hb (k5.keep _ _ hb (s04 _ _ hx))) e6

theorem sc_Eveningu_initu : FnScope N_Eveningu_initu ["self", "owed", "due"] (defScope s_Eveningu_initu) := ⟨rfl, rfl, rfl, by decide +kernel, rfl, by decide +kernel, by decide +kernel⟩
theorem ok_Eveningu_initu {P : Program} {w : World} {K : PySem.W.Frag} {mg : Str → Option Value} {base : Heap} {C : CA} {f : Addr} {fd : FuncData} (T : CT K C) (B : Bi mg C) (TF_BadEvening : ExcF K C.BadEvening "part") (F : Fun K "__init__" "Evening.__init__" s_Eveningu_initu f fd) (D_added : Okd P w K mg base 2 "added" ["fractions"] (sp_added K C)) (D_q_is_side : Okd P w K mg base 4 "_is_side" ["thing"] (sp_q_is_side K C)) (D_BadEveningu_initu : Okx P w K mg base 1 C.BadEvening ["self", "part"] (sp_BadEveningu_initu K C)) : FnOk P w K mg base (L2.CX P w) 5 f fd ["self", "owed", "due"] (sp_Eveningu_initu K C) := by
  refine F.okX sc_Eveningu_initu (fun vs H Q E h => ?_) (fun cdv A outer s H vs Q E hr h => ⟨t_Eveningu_initu K C E, ?_, rd_Eveningu_initu T TF_BadEvening h⟩)
  · obtain ⟨_, _, _, _, _, _, _, _, rfl, _⟩ := h
    rfl
  · exact (pss_cons (ps_if (pt_not (pt_val (pe_callD D_q_is_side (hr.mono (by decide)) (pa_cons (pv 1) pa_nil)))) (pss_one (ps_rz rfl (takes_of rfl rfl rfl rfl) (pmk_x1 D_BadEveningu_initu (hr.mono (by decide)) rfl B.g_BadEvening (pa_cons pe_str pa_nil)))) pss_nil) (pss_cons (ps_if (pt_not (pt_val (pe_callD D_q_is_side (hr.mono (by decide)) (pa_cons (pv 2) pa_nil)))) (pss_one (ps_rz rfl (takes_of rfl rfl rfl rfl) (pmk_x1 D_BadEveningu_initu (hr.mono (by decide)) rfl B.g_BadEvening (pa_cons pe_str pa_nil)))) pss_nil) (pss_cons (ps_if (pt_cmpR (op_neD hr.units) (pe_callD D_added (hr.mono (by decide)) (pa_cons (pv 1) pa_nil)) (pe_callD D_added (hr.mono (by decide)) (pa_cons (pv 2) pa_nil)) (nomark _)) (pss_one (ps_rz rfl (takes_of rfl rfl rfl rfl) (pmk_x1 D_BadEveningu_initu (hr.mono (by decide)) rfl B.g_BadEvening (pa_cons pe_str pa_nil)))) pss_nil) (pss_cons (ps_fld (pv 0) (pv 1) rfl) (pss_one (ps_fld (pv 0) (pv 2) rfl))))))

/-! ### law -/
abbrev s_law : Stmt := top 37
def sp_law (K : PySem.W.Frag) (C : CA) : Sp := fun vs H Q _ => ∃ (a : Addr) (ns : List Int), vs = [.ref a] ∧ SqL K H a (ns.map V.int) ∧ ns.length ≤ 63 ∧ ∀ H', Q (.bl true) H'

@[reducible] def N_law : List Str := ["_law_script", "_law_hand_here", "_law_turn", "_law_owed", "_law_due_here", "_law_which", "_law_told", "_law_evening", "e"]
def t_law (K : PySem.W.Frag) (C : CA) : TS :=
  (tSeq (tAsg (tCall (sp_L_hand K C) [] E0 (tCons (tVar 0) tNil)) (gName 1)) (tSeq (tFor (iRng1 (tCons (tC (.int 4)) tNil)) (gName 2) (tSeq (tAsg (tCall (sp_L_sums K C) [] E0 (tCons (tVar 1) (tCons (tOp (rIxL K) (tLst (tCons (tC (.int 4)) (tCons (tC (.int 4)) (tCons (tC (.int 4)) (tCons (tC (.int 100)) tNil))))) (tCall (sp_L_draw K C) [] E0 (tCons (tVar 1) (tCons (tC (.int 4)) tNil)))) (tCons (tC (.int 9)) tNil)))) (gTup K 2 (gCons (gName 3) (gCons (gName 4) gNil)))) (tSeq (tAsg (tCall (sp_L_draw K C) [] E0 (tCons (tVar 1) (tCons (tC (.int 6)) tNil))) (gName 5)) (tSeq (tIfS (tTest (tOp (rIn K false) (tVar 5) (tLst (tCons (tC (.int 1)) (tCons (tC (.int 3)) tNil))))) (tAsg (tCall (sp_L_spoiled K C) [] E0 (tCons (tVar 1) (tCons (tVar 3) tNil))) (gName 3)) tNext) (tSeq (tIfS (tTest (tOp (rIn K false) (tVar 5) (tLst (tCons (tC (.int 2)) (tCons (tC (.int 3)) (tCons (tC (.int 4)) tNil)))))) (tAsg (tCall (sp_L_spoiled K C) [] E0 (tCons (tVar 1) (tCons (tVar 4) tNil))) (gName 4)) tNext) (tSeq (tAsg (tC (.str "none")) (gName 6)) (tSeq (tTryAs K (.ref C.BadEvening) 8 (fun a cls d => (tAsg (tXf a cls d C.BadEvening "part" (tVar 8)) (gName 6))) (fun W => (tSeq (tAsg (tMakeS C.Evening (sp_Eveningu_initu K C) (WE W) (tCons (tVar 3) (tCons (tVar 4) tNil))) (gName 7)) (tAsg (tIf (tAnd (tTest (tOp (rEqD K) (tFld K (tVar 7) "owed") (tVar 3))) (tTest (tOp (rEqD K) (tFld K (tVar 7) "due") (tVar 4)))) (tC (.str "let")) (tC (.str "wrong"))) (gName 6))))) (tIfS (tTest (tOp rNe (tVar 6) (tCall (sp_L_due K C) [] E0 (tCons (tVar 3) (tCons (tVar 4) tNil))))) (tRet (tC (.bl false))) tNext)))))))) (tRet (tC (.bl true)))))

theorem frT_inj {o q : List Rat} (h : Th.tup (o.map frT) = Th.tup (q.map frT)) : o = q := by
  rw [Th.tup.injEq] at h
  refine (List.map_inj_right (f := frT) fun x y e => ?_).mp h
  simp only [frT, Th.tup.injEq, List.cons.injEq, Th.int.injEq, and_true] at e
  exact rat_ext e.1 (by omega)
theorem rd_law {K : PySem.W.Frag} {C : CA} {vs : List V} {H : Hp} {Q : VK} {E : XK} (T : CT K C) (TF_BadEvening : ExcF K C.BadEvening "part") (h : sp_law K C vs H Q E) : t_law K C { nx := fun _ H' => Q .non H', rt := Q } (start N_law vs) H := by
  obtain ⟨a, ns, rfl, hs, hn, q⟩ := h
  unfold t_law
  walk_at "go"
  refine ⟨a, ns, rfl, hs, hn, fun m c H1 s1 hm1 => ?_⟩
  walk_at "go"
  refine forR_of (n := 4) (fun i σ H' => Hand H' m c ∧ ∃ x2 x3 x4 x5 x6 x7 x8 : Option V, σ = [some (.ref a), some (.ref m), x2, x3, x4, x5, x6, x7, x8]) (fun _ _ => False) rfl (by decide)
    ⟨hm1, _, _, _, _, _, _, _, rfl⟩ ?_ ?_ (fun _ _ h => h.elim)
  · rintro i σ H2 N B hi ⟨hm2, x2, x3, x4, x5, x6, x7, x8, rfl⟩ hN hB
    walk_at "go"
    rename_i p0 G0 n0 t0 e0
    refine ⟨m, c, 4, rfl, sm_hand t0 hm2, by decide, by decide, fun d0 H3 d00 d01 kl3 hm3 => ?_⟩
    have p0m : p0 ≠ m := (hand_ne n0 hm2).1.symm
    obtain ⟨bv, hbv, ev⟩ := atI_lt (xs := [V.int 4, V.int 4, V.int 4, V.int 100]) d00 d01
    have hside : ∃ k : Nat, bv = .int (k : Nat) ∧ 1 ≤ k ∧ k ≤ 100 := by
      simp only [List.mem_cons, List.not_mem_nil, or_false] at hbv
      rcases hbv with rfl | rfl | rfl | rfl
      · exact ⟨4, rfl, by decide, by decide⟩
      · exact ⟨4, rfl, by decide, by decide⟩
      · exact ⟨4, rfl, by decide, by decide⟩
      · exact ⟨100, rfl, by decide, by decide⟩
    obtain ⟨k, rfl, k1, k2⟩ := hside
    refine i_ixL (kl3.keep _ _ p0m e0) ev ?_
    clear t0 e0 n0 kl3 ev hbv
    walk_at "go"
    refine ⟨m, c, k, 9, rfl, hm3, k1, k2, by decide, by decide, fun w1 va vb p o d H4 kl4 hm4 hw hp hva hvb D => ?_⟩
    subst hw
    obtain ⟨D1, D2, D3, D4, D5, D6, D7, D8, ⟨M, ⟨m0, dvd⟩, m1⟩, tops⟩ := D
    have qo : QsOk M o := ⟨D1, by omega, m0, m1, fun q hq => ⟨D6 q hq, tops q (List.mem_append_left _ hq), dvd q (List.mem_append_left _ hq)⟩⟩
    have qd : QsOk M d := ⟨D3, by omega, m0, m1, fun q hq => ⟨D7 q hq, tops q (List.mem_append_right _ hq), dvd q (List.mem_append_right _ hq)⟩⟩
    clear kl4 tops dvd D8 D5
    walk_at "go"
    refine ⟨m, c, 6, rfl, hm4, by decide, by decide, fun w5 H5 w50 w51 kl5 hm5 => ?_⟩
    have hva5 := kl_im kl5 hva
    have hvb5 := kl_im kl5 hvb
    with_reducible refine i_cut (fun σ' H' => ∃ (vo : V) (to : Th) (x6 x7 x8 : Option V), σ' = [some (.ref a), some (.ref m), some (.int i), some vo, some vb, some (.int w5), x6, x7, x8] ∧ Hand H' m c ∧ ThR (fun _ => True) H' vo to ∧ SideT M to ∧ Im H' vb (.tuple (d.map fr))) (fun N1 hN1 => ?_) ?_
    · walk_at "go"
      rename_i p6 H6 n6 s6 e6
      refine ⟨p6, _, rfl, .inl (SqL.of e6), rfl, rfl, _, rfl, ?_⟩
      refine ite_b (fun _ => ?_) (fun _ => ?_)
      · walk_at "go"
        refine ⟨m, c, va, o, M, rfl, sm_hand s6 hm5, sm_im s6 hva5, qo, fun w H7 kl7 hm7 hw => ?_⟩
        obtain ⟨dw, hw1, hw2⟩ := hw
        walk_at "go"
        exact hN1 _ _ ⟨w, dw, _, _, _, rfl, hm7, hw1, hw2, kl_im kl7 (sm_im s6 hvb5)⟩
      · walk_at "go"
        exact hN1 _ _ ⟨va, _, _, _, _, rfl, sm_hand s6 hm5, frs_th (sm_im s6 hva5), qo.side, sm_im s6 hvb5⟩
    rintro σ1 H6 ⟨vo, to, x6, x7, x8, rfl, hm6, ho6, so, hvb6⟩
    clear hva5 hvb5 kl5 hm5
    with_reducible refine i_cut (fun σ' H' => ∃ (vd : V) (td : Th) (x6 x7 x8 : Option V), σ' = [some (.ref a), some (.ref m), some (.int i), some vo, some vd, some (.int w5), x6, x7, x8] ∧ Hand H' m c ∧ ThR (fun _ => True) H' vo to ∧ ThR (fun _ => True) H' vd td ∧ SideT M td) (fun N1 hN1 => ?_) ?_
    · walk_at "go"
      rename_i p7 H7 n7 s7 e7
      refine ⟨p7, _, rfl, .inl (SqL.of e7), rfl, rfl, _, rfl, ?_⟩
      refine ite_b (fun _ => ?_) (fun _ => ?_)
      · walk_at "go"
        refine ⟨m, c, vb, d, M, rfl, sm_hand s7 hm6, sm_im s7 hvb6, qd, fun w H8 kl8 hm8 hw => ?_⟩
        obtain ⟨dw, hw1, hw2⟩ := hw
        walk_at "go"
        exact hN1 _ _ ⟨w, dw, _, _, _, rfl, hm8, kl_th kl8 (sm_th s7 ho6), hw1, hw2⟩
      · walk_at "go"
        exact hN1 _ _ ⟨vb, _, _, _, _, rfl, sm_hand s7 hm6, sm_th s7 ho6, frs_th (sm_im s7 hvb6), qd.side⟩
    rintro σ1 H7 ⟨vd, td, x6', x7', x8', rfl, hm7, ho7, hd7, sd⟩
    clear hm6 ho6 hvb6
    with_reducible refine i_seq ?_
    with_reducible refine i_set ?_
    with_reducible refine i_c ?_
    with_reducible refine i_cut (fun σ' H' => ∃ (z : Str) (x7 x8 : Option V), σ' = [some (.ref a), some (.ref m), some (.int i), some vo, some vd, some (.int w5), some (.str z), x7, x8] ∧ Hand H' m c ∧ ThR (fun _ => True) H' vo to ∧ ThR (fun _ => True) H' vd td ∧
      ((z = "owed" ∧ to.side = false) ∨ (z = "due" ∧ to.side = true ∧ td.side = false) ∨ (z = "sums" ∧ to.side = true ∧ td.side = true ∧ ∃ o e : List Rat, to = .tup (o.map frT) ∧ td = .tup (e.map frT) ∧ o.sum ≠ e.sum) ∨ (z = "let" ∧ to.side = true ∧ td.side = true ∧ ∃ o e : List Rat, to = .tup (o.map frT) ∧ td = .tup (e.map frT) ∧ o.sum = e.sum))) (fun N1 hN1 => ?_) ?_
    · refine i_tryAs ?_
      walk_at "go"
      refine makeSO_of fun x dx H8 nx s8 e8 => ?_
      have xm := hand_ne nx hm7
      refine ⟨x, dx, vo, vd, to, td, fun _ => True, M, rfl, e8, sm_th s8 ho7, sm_th s8 hd7, so, sd, m0, m1, fun hf d9 H9 s9 e9 => ?_, fun hf hf2 d9 H9 s9 e9 => ?_, fun o9 q9 ho9 hq9 hf hf2 hne d9 H9 s9 e9 => ?_, fun o9 q9 ho9 hq9 hf hf2 heq H9 k9 e9 => ⟨rfl, ?_⟩⟩
      · refine wAs_hit TF_BadEvening.te (fun b hb => ?_)
        walk_at "go"
        refine ⟨rfl, rfl, d9, _, _, rfl, e9, rfl, ?_⟩
        walk_at "go"
        exact hN1 _ _ ⟨_, _, _, rfl, sm_hand s9 (sm_hand s8 hm7), sm_th s9 (sm_th s8 ho7), sm_th s9 (sm_th s8 hd7), .inl ⟨rfl, hf⟩⟩
      · refine wAs_hit TF_BadEvening.te (fun b hb => ?_)
        walk_at "go"
        refine ⟨rfl, rfl, d9, _, _, rfl, e9, rfl, ?_⟩
        walk_at "go"
        exact hN1 _ _ ⟨_, _, _, rfl, sm_hand s9 (sm_hand s8 hm7), sm_th s9 (sm_th s8 ho7), sm_th s9 (sm_th s8 hd7), .inr (.inl ⟨rfl, hf, hf2⟩)⟩
      · refine wAs_hit TF_BadEvening.te (fun b hb => ?_)
        walk_at "go"
        refine ⟨rfl, rfl, d9, _, _, rfl, e9, rfl, ?_⟩
        walk_at "go"
        exact hN1 _ _ ⟨_, _, _, rfl, sm_hand s9 (sm_hand s8 hm7), sm_th s9 (sm_th s8 ho7), sm_th s9 (sm_th s8 hd7), .inr (.inr (.inl ⟨rfl, hf, hf2, o9, q9, ho9, hq9, hne⟩))⟩
      · have s79 : Same H7 H9 := fun b u hb => k9 b u (ne_of_none hb nx) (s8 b u hb)
        have ho9' := sm_th s79 ho7
        have hd9' := sm_th s79 hd7
        rw [ho9] at ho9'
        rw [hq9] at hd9'
        walk_at "go"
        refine i_fld' e9 T.cl T.nO rfl ?_
        walk_at "go"
        refine i_eqD ho9'.frsD ho9'.frsD (frs_shaped _) (frs_shaped _) ?_
        rw [eqv_frs, decide_eq_true rfl]
        walk_at "go"
        refine i_fld' e9 T.cl T.nD rfl ?_
        walk_at "go"
        refine i_eqD hd9'.frsD hd9'.frsD (frs_shaped _) (frs_shaped _) ?_
        rw [eqv_frs, decide_eq_true rfl]
        walk_at "go"
        exact hN1 _ _ ⟨_, _, _, rfl, sm_hand s79 hm7, sm_th s79 ho7, sm_th s79 hd7, .inr (.inr (.inr ⟨rfl, hf, hf2, o9, q9, ho9, hq9, heq⟩))⟩
    rintro σ1 H8 ⟨z, y7, y8, rfl, hm8, ho8, hd8, hz⟩
    walk_at "go"
    refine ⟨vo, vd, to, td, fun _ => True, M, rfl, ho8, hd8, so, sd, m0, m1, fun hf H9 s9 => ?_, fun hf hf2 H9 s9 => ?_, fun o9 q9 ho9 hq9 hf hf2 hne H9 s9 => ?_, fun o9 q9 ho9 hq9 hf hf2 heq H9 s9 => ?_⟩
    · have e : z = "owed" := by
        rcases hz with ⟨e, _⟩ | ⟨_, h1, _⟩ | ⟨_, h1, _⟩ | ⟨_, h1, _⟩
        · exact e
        all_goals rw [hf] at h1; cases h1
      subst e
      refine i_ne rfl ⟨_, rfl, ite_ndT ?_⟩
      exact hN _ _ ⟨sm_hand s9 hm8, _, _, _, _, _, _, _, rfl⟩
    · have e : z = "due" := by
        rcases hz with ⟨_, h1⟩ | ⟨e, _, _⟩ | ⟨_, _, h1, _⟩ | ⟨_, _, h1, _⟩
        · rw [hf] at h1; cases h1
        · exact e
        all_goals rw [hf2] at h1; cases h1
      subst e
      refine i_ne rfl ⟨_, rfl, ite_ndT ?_⟩
      exact hN _ _ ⟨sm_hand s9 hm8, _, _, _, _, _, _, _, rfl⟩
    · have e : z = "sums" := by
        rcases hz with ⟨_, h1⟩ | ⟨_, _, h1⟩ | ⟨e, _, _⟩ | ⟨_, _, _, o1, q1, h1, h2, h3⟩
        · rw [hf] at h1; cases h1
        · rw [hf2] at h1; cases h1
        · exact e
        · rw [ho9] at h1
          rw [hq9] at h2
          rw [frT_inj h1, frT_inj h2] at hne
          exact absurd h3 hne
      subst e
      refine i_ne rfl ⟨_, rfl, ite_ndT ?_⟩
      exact hN _ _ ⟨sm_hand s9 hm8, _, _, _, _, _, _, _, rfl⟩
    · have e : z = "let" := by
        rcases hz with ⟨_, h1⟩ | ⟨_, _, h1⟩ | ⟨_, _, _, o1, q1, h1, h2, h3⟩ | ⟨e, _, _⟩
        · rw [hf] at h1; cases h1
        · rw [hf2] at h1; cases h1
        · rw [ho9] at h1
          rw [hq9] at h2
          rw [frT_inj h1, frT_inj h2] at heq
          exact absurd heq h3
        · exact e
      subst e
      refine i_ne rfl ⟨_, rfl, ite_ndT ?_⟩
      exact hN _ _ ⟨sm_hand s9 hm8, _, _, _, _, _, _, _, rfl⟩
  · rintro σ H9 ⟨hm9, x2, x3, x4, x5, x6, x7, x8, rfl⟩
    walk_at "go"
    exact q _

theorem sc_law : FnScope N_law ["_law_script"] (defScope s_law) := ⟨rfl, rfl, rfl, by decide +kernel, rfl, by decide +kernel, by decide +kernel⟩
theorem ok_law {P : Program} {w : World} {K : PySem.W.Frag} {mg : Str → Option Value} {base : Heap} {C : CA} {f : Addr} {fd : FuncData} (T : CT K C) (B : Bi mg C) (TF_BadEvening : ExcF K C.BadEvening "part") (F : Fun K "law" "law" s_law f fd) (D_L_hand : Okd P w K mg base 1 "_law_hand" ["_law_script"] (sp_L_hand K C)) (D_L_draw : Okd P w K mg base 1 "_law_draw" ["_law_hand_here", "_law_many"] (sp_L_draw K C)) (D_L_sums : Okd P w K mg base 4 "_law_sums" ["_law_hand_here", "_law_side", "_law_most"] (sp_L_sums K C)) (D_L_due : Okd P w K mg base 5 "_law_due" ["_law_owed", "_law_due_here"] (sp_L_due K C)) (D_L_spoiled : Okd P w K mg base 3 "_law_spoiled" ["_law_hand_here", "_law_side"] (sp_L_spoiled K C)) (D_Eveningu_initu : OkmX P w K mg base 5 "Evening" C.Evening ["self", "owed", "due"] (sp_Eveningu_initu K C)) : FnOk P w K mg base CX0 7 f fd ["_law_script"] (sp_law K C) := by
  refine F.ok sc_law (fun vs H Q E h => ?_) (fun cdv A outer s H vs Q E hr h => ⟨t_law K C, ?_, rd_law T TF_BadEvening h⟩)
  · obtain ⟨_, _, rfl, _⟩ := h
    rfl
  · exact (pss_cons (ps_set (i := 1) sc_law.nd rfl (Or.inl rfl) (pe_callD D_L_hand (hr.mono (by decide)) (pa_cons (pv 0) pa_nil))) (pss_cons (ps_for PassesOwn.never rfl (pi_range1 rfl B.b_range (pa_cons pe_int pa_nil)) (pg_name (i := 2) sc_law.nd rfl (Or.inl rfl)) (pss_cons (ps_asg (pe_callD D_L_sums (hr.mono (by decide)) (pa_cons (pv 1) (pa_cons (pe_ix ix_list (pe_lst (pa_cons pe_int (pa_cons pe_int (pa_cons pe_int (pa_cons pe_int pa_nil))))) (pe_callD D_L_draw (hr.mono (by decide)) (pa_cons (pv 1) (pa_cons pe_int pa_nil))) (fun _ _ => rfl)) (pa_cons pe_int pa_nil)))) (pg_tup rfl (pgs_cons (pg_name (i := 3) sc_law.nd rfl (Or.inl rfl)) (pgs_cons (pg_name (i := 4) sc_law.nd rfl (Or.inl rfl)) pgs_nil)))) (pss_cons (ps_set (i := 5) sc_law.nd rfl (Or.inl rfl) (pe_callD D_L_draw (hr.mono (by decide)) (pa_cons (pv 1) (pa_cons pe_int pa_nil)))) (pss_cons (ps_if (pt_cmpR op_in_seq (pv 5) (pe_lst (pa_cons pe_int (pa_cons pe_int pa_nil))) (by rfl)) (pss_one (ps_set (i := 3) sc_law.nd rfl (Or.inl rfl) (pe_callD D_L_spoiled (hr.mono (by decide)) (pa_cons (pv 1) (pa_cons (pv 3) pa_nil))))) pss_nil) (pss_cons (ps_if (pt_cmpR op_in_seq (pv 5) (pe_lst (pa_cons pe_int (pa_cons pe_int (pa_cons pe_int pa_nil)))) (by rfl)) (pss_one (ps_set (i := 4) sc_law.nd rfl (Or.inl rfl) (pe_callD D_L_spoiled (hr.mono (by decide)) (pa_cons (pv 1) (pa_cons (pv 4) pa_nil))))) pss_nil) (pss_cons (ps_set (i := 6) sc_law.nd rfl (Or.inl rfl) pe_str) (pss_cons (ps_try_as (i := 8) (tb := fun W => (tSeq (tAsg (tMakeS C.Evening (sp_Eveningu_initu K C) (WE W) (tCons (tVar 3) (tCons (tVar 4) tNil))) (gName 7)) (tAsg (tIf (tAnd (tTest (tOp (rEqD K) (tFld K (tVar 7) "owed") (tVar 3))) (tTest (tOp (rEqD K) (tFld K (tVar 7) "due") (tVar 4)))) (tC (.str "let")) (tC (.str "wrong"))) (gName 6)))) (ts := fun a cls d => (tAsg (tXf a cls d C.BadEvening "part" (tVar 8)) (gName 6))) (Wout := (fun _ _ _ _ => False)) rfl rfl sc_law.nd rfl rfl ⟨rfl, by decide, .inl B.g_BadEvening⟩ takes0 (fun W pn xe tk _ => (pss_cons (ps_set (i := 7) sc_law.nd rfl (Or.inl rfl) (pe_makeDX D_Eveningu_initu (hr.mono (by decide)) tk (pa_cons (pv 3) (pa_cons (pv 4) pa_nil)))) (pss_one (ps_set (i := 6) sc_law.nd rfl (Or.inl rfl) (pe_ifExp (PW.pt (pw_and (pt_cmpR (op_eqD hr.units) (pe_fld (pv 7) rfl) (pv 3) (nomark _)) (pw_and1 (pt_cmpR (op_eqD hr.units) (pe_fld (pv 7) rfl) (pv 4) (nomark _))))) pe_str pe_str))))) (fun a oe cls d pn hz hf => (pss_one (ps_set (i := 6) sc_law.nd rfl (Or.inl rfl) (pe_xf TF_BadEvening.xf TF_BadEvening.no hz hf (pv 8)))))) (pss_one (ps_if (pt_cmpR op_ne (pv 6) (pe_callD D_L_due (hr.mono (by decide)) (pa_cons (pv 3) (pa_cons (pv 4) pa_nil))) (nomark _)) (pss_one (ps_ret pe_bl)) pss_nil))))))))) (pss_one (ps_ret pe_bl))))

def sp_top (K : PySem.W.Frag) : Sp := fun vs H Q _ => ∃ (a : Addr) (ns : List Int), vs = [.ref a] ∧ SqL K H a (ns.map V.int) ∧ ns.length ≤ 63 ∧ ∀ H', Q (.bl true) H'
theorem all_mk {l : PySem.W.OpenLaw} {w : World} {K : PySem.W.Frag} {h : Heap} {mg : Str → Option Value} {fa cEvening cBadEvening  : Addr} {nm_BadEvening qn_BadEvening : Str} {N_BadEvening : Addr} {bs_BadEvening : List Value} {sn_BadEvening : List Str} {su_BadEvening : List Value} {ab_BadEvening : Bool} {co_BadEvening : Option Bool} {dd_BadEvening : Option Addr} {m0_BadEvening m1_BadEvening m2_BadEvening m3_BadEvening m5_BadEvening : Option Value} {b_BadEvening : Addr} {u_MOST_SUMS : Value} {f_L_hand : Addr} {od_L_hand an_L_hand : Option Addr} {oc_L_hand kV_L_hand doc_L_hand pm_L_hand cdv_L_hand ct_L_hand : Value} {osl_L_hand : Array (Option Value)} {f_L_draw : Addr} {od_L_draw an_L_draw : Option Addr} {oc_L_draw kV_L_draw doc_L_draw pm_L_draw cdv_L_draw ct_L_draw : Value} {osl_L_draw : Array (Option Value)} {f_L_common : Addr} {od_L_common an_L_common : Option Addr} {oc_L_common kV_L_common doc_L_common pm_L_common cdv_L_common ct_L_common : Value} {osl_L_common : Array (Option Value)} {f_L_fraction : Addr} {od_L_fraction an_L_fraction : Option Addr} {oc_L_fraction kV_L_fraction doc_L_fraction pm_L_fraction cdv_L_fraction ct_L_fraction : Value} {osl_L_fraction : Array (Option Value)} {f_L_times : Addr} {od_L_times an_L_times : Option Addr} {oc_L_times kV_L_times doc_L_times pm_L_times cdv_L_times ct_L_times : Value} {osl_L_times : Array (Option Value)} {f_L_cut : Addr} {od_L_cut an_L_cut : Option Addr} {oc_L_cut kV_L_cut doc_L_cut pm_L_cut cdv_L_cut ct_L_cut : Value} {osl_L_cut : Array (Option Value)} {f_L_numbers : Addr} {od_L_numbers an_L_numbers : Option Addr} {oc_L_numbers kV_L_numbers doc_L_numbers pm_L_numbers cdv_L_numbers ct_L_numbers : Value} {osl_L_numbers : Array (Option Value)} {f_L_unit : Addr} {od_L_unit an_L_unit : Option Addr} {oc_L_unit kV_L_unit doc_L_unit pm_L_unit cdv_L_unit ct_L_unit : Value} {osl_L_unit : Array (Option Value)} {f_L_sums : Addr} {od_L_sums an_L_sums : Option Addr} {oc_L_sums kV_L_sums doc_L_sums pm_L_sums cdv_L_sums ct_L_sums : Value} {osl_L_sums : Array (Option Value)} {f_L_plus : Addr} {od_L_plus an_L_plus : Option Addr} {oc_L_plus kV_L_plus doc_L_plus pm_L_plus cdv_L_plus ct_L_plus : Value} {osl_L_plus : Array (Option Value)} {f_L_sum : Addr} {od_L_sum an_L_sum : Option Addr} {oc_L_sum kV_L_sum doc_L_sum pm_L_sum cdv_L_sum ct_L_sum : Value} {osl_L_sum : Array (Option Value)} {f_L_is_amount : Addr} {od_L_is_amount an_L_is_amount : Option Addr} {oc_L_is_amount kV_L_is_amount doc_L_is_amount pm_L_is_amount cdv_L_is_amount ct_L_is_amount : Value} {osl_L_is_amount : Array (Option Value)} {f_L_are_sums : Addr} {od_L_are_sums an_L_are_sums : Option Addr} {oc_L_are_sums kV_L_are_sums doc_L_are_sums pm_L_are_sums cdv_L_are_sums ct_L_are_sums : Value} {osl_L_are_sums : Array (Option Value)} {f_L_due : Addr} {od_L_due an_L_due : Option Addr} {oc_L_due kV_L_due doc_L_due pm_L_due cdv_L_due ct_L_due : Value} {osl_L_due : Array (Option Value)} {f_L_odd : Addr} {od_L_odd an_L_odd : Option Addr} {oc_L_odd kV_L_odd doc_L_odd pm_L_odd cdv_L_odd ct_L_odd : Value} {osl_L_odd : Array (Option Value)} {f_L_spoiled : Addr} {od_L_spoiled an_L_spoiled : Option Addr} {oc_L_spoiled kV_L_spoiled doc_L_spoiled pm_L_spoiled cdv_L_spoiled ct_L_spoiled : Value} {osl_L_spoiled : Array (Option Value)} {f_lowest : Addr} {od_lowest an_lowest : Option Addr} {oc_lowest kV_lowest doc_lowest pm_lowest cdv_lowest ct_lowest : Value} {osl_lowest : Array (Option Value)} {f_common_bottom : Addr} {od_common_bottom an_common_bottom : Option Addr} {oc_common_bottom kV_common_bottom doc_common_bottom pm_common_bottom cdv_common_bottom ct_common_bottom : Value} {osl_common_bottom : Array (Option Value)} {f_in_units : Addr} {od_in_units an_in_units : Option Addr} {oc_in_units kV_in_units doc_in_units pm_in_units cdv_in_units ct_in_units : Value} {osl_in_units : Array (Option Value)} {f_added : Addr} {od_added an_added : Option Addr} {oc_added kV_added doc_added pm_added cdv_added ct_added : Value} {osl_added : Array (Option Value)} {f_is_integer : Addr} {od_is_integer an_is_integer : Option Addr} {oc_is_integer kV_is_integer doc_is_integer pm_is_integer cdv_is_integer ct_is_integer : Value} {osl_is_integer : Array (Option Value)} {f_is_fraction : Addr} {od_is_fraction an_is_fraction : Option Addr} {oc_is_fraction kV_is_fraction doc_is_fraction pm_is_fraction cdv_is_fraction ct_is_fraction : Value} {osl_is_fraction : Array (Option Value)} {f_is_amount : Addr} {od_is_amount an_is_amount : Option Addr} {oc_is_amount kV_is_amount doc_is_amount pm_is_amount cdv_is_amount ct_is_amount : Value} {osl_is_amount : Array (Option Value)} {f_q_is_side : Addr} {od_q_is_side an_q_is_side : Option Addr} {oc_q_is_side kV_q_is_side doc_q_is_side pm_q_is_side cdv_q_is_side ct_q_is_side : Value} {osl_q_is_side : Array (Option Value)} {f_BadEveningu_initu : Addr} {od_BadEveningu_initu an_BadEveningu_initu : Option Addr} {oc_BadEveningu_initu kV_BadEveningu_initu doc_BadEveningu_initu pm_BadEveningu_initu cdv_BadEveningu_initu ct_BadEveningu_initu : Value} {osl_BadEveningu_initu : Array (Option Value)} {f_Eveningu_initu : Addr} {od_Eveningu_initu an_Eveningu_initu : Option Addr} {oc_Eveningu_initu kV_Eveningu_initu doc_Eveningu_initu pm_Eveningu_initu cdv_Eveningu_initu ct_Eveningu_initu : Value} {osl_Eveningu_initu : Array (Option Value)} {f_law : Addr} {od_law an_law : Option Addr} {oc_law kV_law doc_law pm_law cdv_law ct_law : Value} {osl_law : Array (Option Value)} (X : K.In h) (G : h.Ns mainGlobals mg) (hfa : mg "law" = some (.ref fa))
    (h_BadEvening : PySem.W.nsIn K mainGlobals "BadEvening" = some (some (.ref cBadEvening)))
    (ex_BadEvening : PySem.W.subIn K (.ref cBadEvening) (.type "BaseException") = some true)
    (ty_BadEvening : PySem.W.typeIn K (.ref cBadEvening) = some (.type "type"))
    (x_BadEvening : K.lookup cBadEvening = some (excClassObj nm_BadEvening qn_BadEvening cBadEvening N_BadEvening bs_BadEvening [.ref b_BadEvening, .type "ValueError", .type "Exception", .type "BaseException", .type "object"] true sn_BadEvening su_BadEvening ab_BadEvening co_BadEvening dd_BadEvening m0_BadEvening m1_BadEvening m2_BadEvening m3_BadEvening m5_BadEvening "ValueError.__new__"))
    (xs_BadEvening : PySem.W.findIn K (.ref cBadEvening) "__setattr__" = some (some (.builtin "object.__setattr__")))
    (xk_BadEvening : PySem.W.keepIn K (.ref cBadEvening) = true)
    (yf_BadEvening : PySem.W.findIn K (.ref cBadEvening) "part" = some none)
    (yc_BadEvening : PySem.W.isClsIn K cBadEvening = true)
    (ys_BadEvening : PySem.W.subIn K (.ref cBadEvening) (.ref cBadEvening) = some true)
    (yg_BadEvening : PySem.W.findIn K (.ref cBadEvening) "__getattribute__" = some (some (.builtin "BaseException.__getattribute__")))
    (yn_BadEvening : PySem.W.findIn K (.ref cBadEvening) "__getattr__" = some none)
    (yh_BadEvening : PySem.W.hasDictIn K cBadEvening = true)
    (h_Evening : PySem.W.nsIn K mainGlobals "Evening" = some (some (.ref cEvening)))
    (pg_Evening : PySem.W.plainGet K cEvening Str.empty = true)
    (hd_Evening : PySem.W.hasDictIn K cEvening = true)
    (po_Evening : PySem.W.plainOver K cEvening = true)
    (sa_Evening : PySem.W.findIn K (.ref cEvening) "__setattr__" = some (some (.builtin "object.__setattr__")))
    (mk_Evening : PySem.W.makesIn K cEvening = true)
    (kc_Evening : PySem.W.keepIn K (.ref cEvening) = true)
    (na_nO : PySem.W.findIn K (.ref cEvening) "owed" = some none)
    (na_nD : PySem.W.findIn K (.ref cEvening) "due" = some none)
    (z_abs : PySem.W.nsIn K mainGlobals "abs" = some none)
    (z_all : PySem.W.nsIn K mainGlobals "all" = some none)
    (z_bool : PySem.W.nsIn K mainGlobals "bool" = some none)
    (z_int : PySem.W.nsIn K mainGlobals "int" = some none)
    (z_isinstance : PySem.W.nsIn K mainGlobals "isinstance" = some none)
    (z_len : PySem.W.nsIn K mainGlobals "len" = some none)
    (z_list : PySem.W.nsIn K mainGlobals "list" = some none)
    (z_max : PySem.W.nsIn K mainGlobals "max" = some none)
    (z_min : PySem.W.nsIn K mainGlobals "min" = some none)
    (z_range : PySem.W.nsIn K mainGlobals "range" = some none)
    (z_str : PySem.W.nsIn K mainGlobals "str" = some none)
    (z_sum : PySem.W.nsIn K mainGlobals "sum" = some none)
    (z_tuple : PySem.W.nsIn K mainGlobals "tuple" = some none)
    (z_MOST_SUMS : PySem.W.nsIn K mainGlobals "MOST_SUMS" = some (some u_MOST_SUMS)) (r_MOST_SUMS : RelV (.int 100) u_MOST_SUMS)
    (z_gcd : PySem.W.nsIn K mainGlobals "gcd" = some (some (.builtin "math.gcd")))
    (z_lcm : PySem.W.nsIn K mainGlobals "lcm" = some (some (.builtin "math.lcm")))
    (a_L_hand : PySem.W.nsIn K mainGlobals "_law_hand" = some (some (.ref f_L_hand)))
    (l_L_hand : K.lookup f_L_hand = some ⟨oc_L_hand, od_L_hand, .func (PySem.W.fnOf "_law_hand" "_law_hand" (defArgs s_L_hand) (defBody s_L_hand) (defScope s_L_hand) .none kV_L_hand doc_L_hand pm_L_hand an_L_hand cdv_L_hand ct_L_hand), osl_L_hand⟩) (c_L_hand : PySem.W.codeIn K cdv_L_hand "_law_hand" = true) (k_L_hand : PySem.W.keepIn K (.ref f_L_hand) = true)
    (a_L_draw : PySem.W.nsIn K mainGlobals "_law_draw" = some (some (.ref f_L_draw)))
    (l_L_draw : K.lookup f_L_draw = some ⟨oc_L_draw, od_L_draw, .func (PySem.W.fnOf "_law_draw" "_law_draw" (defArgs s_L_draw) (defBody s_L_draw) (defScope s_L_draw) .none kV_L_draw doc_L_draw pm_L_draw an_L_draw cdv_L_draw ct_L_draw), osl_L_draw⟩) (c_L_draw : PySem.W.codeIn K cdv_L_draw "_law_draw" = true) (k_L_draw : PySem.W.keepIn K (.ref f_L_draw) = true)
    (a_L_common : PySem.W.nsIn K mainGlobals "_law_common" = some (some (.ref f_L_common)))
    (l_L_common : K.lookup f_L_common = some ⟨oc_L_common, od_L_common, .func (PySem.W.fnOf "_law_common" "_law_common" (defArgs s_L_common) (defBody s_L_common) (defScope s_L_common) .none kV_L_common doc_L_common pm_L_common an_L_common cdv_L_common ct_L_common), osl_L_common⟩) (c_L_common : PySem.W.codeIn K cdv_L_common "_law_common" = true) (k_L_common : PySem.W.keepIn K (.ref f_L_common) = true)
    (a_L_fraction : PySem.W.nsIn K mainGlobals "_law_fraction" = some (some (.ref f_L_fraction)))
    (l_L_fraction : K.lookup f_L_fraction = some ⟨oc_L_fraction, od_L_fraction, .func (PySem.W.fnOf "_law_fraction" "_law_fraction" (defArgs s_L_fraction) (defBody s_L_fraction) (defScope s_L_fraction) .none kV_L_fraction doc_L_fraction pm_L_fraction an_L_fraction cdv_L_fraction ct_L_fraction), osl_L_fraction⟩) (c_L_fraction : PySem.W.codeIn K cdv_L_fraction "_law_fraction" = true) (k_L_fraction : PySem.W.keepIn K (.ref f_L_fraction) = true)
    (a_L_times : PySem.W.nsIn K mainGlobals "_law_times" = some (some (.ref f_L_times)))
    (l_L_times : K.lookup f_L_times = some ⟨oc_L_times, od_L_times, .func (PySem.W.fnOf "_law_times" "_law_times" (defArgs s_L_times) (defBody s_L_times) (defScope s_L_times) .none kV_L_times doc_L_times pm_L_times an_L_times cdv_L_times ct_L_times), osl_L_times⟩) (c_L_times : PySem.W.codeIn K cdv_L_times "_law_times" = true) (k_L_times : PySem.W.keepIn K (.ref f_L_times) = true)
    (a_L_cut : PySem.W.nsIn K mainGlobals "_law_cut" = some (some (.ref f_L_cut)))
    (l_L_cut : K.lookup f_L_cut = some ⟨oc_L_cut, od_L_cut, .func (PySem.W.fnOf "_law_cut" "_law_cut" (defArgs s_L_cut) (defBody s_L_cut) (defScope s_L_cut) .none kV_L_cut doc_L_cut pm_L_cut an_L_cut cdv_L_cut ct_L_cut), osl_L_cut⟩) (c_L_cut : PySem.W.codeIn K cdv_L_cut "_law_cut" = true) (k_L_cut : PySem.W.keepIn K (.ref f_L_cut) = true)
    (a_L_numbers : PySem.W.nsIn K mainGlobals "_law_numbers" = some (some (.ref f_L_numbers)))
    (l_L_numbers : K.lookup f_L_numbers = some ⟨oc_L_numbers, od_L_numbers, .func (PySem.W.fnOf "_law_numbers" "_law_numbers" (defArgs s_L_numbers) (defBody s_L_numbers) (defScope s_L_numbers) .none kV_L_numbers doc_L_numbers pm_L_numbers an_L_numbers cdv_L_numbers ct_L_numbers), osl_L_numbers⟩) (c_L_numbers : PySem.W.codeIn K cdv_L_numbers "_law_numbers" = true) (k_L_numbers : PySem.W.keepIn K (.ref f_L_numbers) = true)
    (a_L_unit : PySem.W.nsIn K mainGlobals "_law_unit" = some (some (.ref f_L_unit)))
    (l_L_unit : K.lookup f_L_unit = some ⟨oc_L_unit, od_L_unit, .func (PySem.W.fnOf "_law_unit" "_law_unit" (defArgs s_L_unit) (defBody s_L_unit) (defScope s_L_unit) .none kV_L_unit doc_L_unit pm_L_unit an_L_unit cdv_L_unit ct_L_unit), osl_L_unit⟩) (c_L_unit : PySem.W.codeIn K cdv_L_unit "_law_unit" = true) (k_L_unit : PySem.W.keepIn K (.ref f_L_unit) = true)
    (a_L_sums : PySem.W.nsIn K mainGlobals "_law_sums" = some (some (.ref f_L_sums)))
    (l_L_sums : K.lookup f_L_sums = some ⟨oc_L_sums, od_L_sums, .func (PySem.W.fnOf "_law_sums" "_law_sums" (defArgs s_L_sums) (defBody s_L_sums) (defScope s_L_sums) .none kV_L_sums doc_L_sums pm_L_sums an_L_sums cdv_L_sums ct_L_sums), osl_L_sums⟩) (c_L_sums : PySem.W.codeIn K cdv_L_sums "_law_sums" = true) (k_L_sums : PySem.W.keepIn K (.ref f_L_sums) = true)
    (a_L_plus : PySem.W.nsIn K mainGlobals "_law_plus" = some (some (.ref f_L_plus)))
    (l_L_plus : K.lookup f_L_plus = some ⟨oc_L_plus, od_L_plus, .func (PySem.W.fnOf "_law_plus" "_law_plus" (defArgs s_L_plus) (defBody s_L_plus) (defScope s_L_plus) .none kV_L_plus doc_L_plus pm_L_plus an_L_plus cdv_L_plus ct_L_plus), osl_L_plus⟩) (c_L_plus : PySem.W.codeIn K cdv_L_plus "_law_plus" = true) (k_L_plus : PySem.W.keepIn K (.ref f_L_plus) = true)
    (a_L_sum : PySem.W.nsIn K mainGlobals "_law_sum" = some (some (.ref f_L_sum)))
    (l_L_sum : K.lookup f_L_sum = some ⟨oc_L_sum, od_L_sum, .func (PySem.W.fnOf "_law_sum" "_law_sum" (defArgs s_L_sum) (defBody s_L_sum) (defScope s_L_sum) .none kV_L_sum doc_L_sum pm_L_sum an_L_sum cdv_L_sum ct_L_sum), osl_L_sum⟩) (c_L_sum : PySem.W.codeIn K cdv_L_sum "_law_sum" = true) (k_L_sum : PySem.W.keepIn K (.ref f_L_sum) = true)
    (a_L_is_amount : PySem.W.nsIn K mainGlobals "_law_is_amount" = some (some (.ref f_L_is_amount)))
    (l_L_is_amount : K.lookup f_L_is_amount = some ⟨oc_L_is_amount, od_L_is_amount, .func (PySem.W.fnOf "_law_is_amount" "_law_is_amount" (defArgs s_L_is_amount) (defBody s_L_is_amount) (defScope s_L_is_amount) .none kV_L_is_amount doc_L_is_amount pm_L_is_amount an_L_is_amount cdv_L_is_amount ct_L_is_amount), osl_L_is_amount⟩) (c_L_is_amount : PySem.W.codeIn K cdv_L_is_amount "_law_is_amount" = true) (k_L_is_amount : PySem.W.keepIn K (.ref f_L_is_amount) = true)
    (a_L_are_sums : PySem.W.nsIn K mainGlobals "_law_are_sums" = some (some (.ref f_L_are_sums)))
    (l_L_are_sums : K.lookup f_L_are_sums = some ⟨oc_L_are_sums, od_L_are_sums, .func (PySem.W.fnOf "_law_are_sums" "_law_are_sums" (defArgs s_L_are_sums) (defBody s_L_are_sums) (defScope s_L_are_sums) .none kV_L_are_sums doc_L_are_sums pm_L_are_sums an_L_are_sums cdv_L_are_sums ct_L_are_sums), osl_L_are_sums⟩) (c_L_are_sums : PySem.W.codeIn K cdv_L_are_sums "_law_are_sums" = true) (k_L_are_sums : PySem.W.keepIn K (.ref f_L_are_sums) = true)
    (a_L_due : PySem.W.nsIn K mainGlobals "_law_due" = some (some (.ref f_L_due)))
    (l_L_due : K.lookup f_L_due = some ⟨oc_L_due, od_L_due, .func (PySem.W.fnOf "_law_due" "_law_due" (defArgs s_L_due) (defBody s_L_due) (defScope s_L_due) .none kV_L_due doc_L_due pm_L_due an_L_due cdv_L_due ct_L_due), osl_L_due⟩) (c_L_due : PySem.W.codeIn K cdv_L_due "_law_due" = true) (k_L_due : PySem.W.keepIn K (.ref f_L_due) = true)
    (a_L_odd : PySem.W.nsIn K mainGlobals "_law_odd" = some (some (.ref f_L_odd)))
    (l_L_odd : K.lookup f_L_odd = some ⟨oc_L_odd, od_L_odd, .func (PySem.W.fnOf "_law_odd" "_law_odd" (defArgs s_L_odd) (defBody s_L_odd) (defScope s_L_odd) .none kV_L_odd doc_L_odd pm_L_odd an_L_odd cdv_L_odd ct_L_odd), osl_L_odd⟩) (c_L_odd : PySem.W.codeIn K cdv_L_odd "_law_odd" = true) (k_L_odd : PySem.W.keepIn K (.ref f_L_odd) = true)
    (a_L_spoiled : PySem.W.nsIn K mainGlobals "_law_spoiled" = some (some (.ref f_L_spoiled)))
    (l_L_spoiled : K.lookup f_L_spoiled = some ⟨oc_L_spoiled, od_L_spoiled, .func (PySem.W.fnOf "_law_spoiled" "_law_spoiled" (defArgs s_L_spoiled) (defBody s_L_spoiled) (defScope s_L_spoiled) .none kV_L_spoiled doc_L_spoiled pm_L_spoiled an_L_spoiled cdv_L_spoiled ct_L_spoiled), osl_L_spoiled⟩) (c_L_spoiled : PySem.W.codeIn K cdv_L_spoiled "_law_spoiled" = true) (k_L_spoiled : PySem.W.keepIn K (.ref f_L_spoiled) = true)
    (a_lowest : PySem.W.nsIn K mainGlobals "lowest" = some (some (.ref f_lowest)))
    (l_lowest : K.lookup f_lowest = some ⟨oc_lowest, od_lowest, .func (PySem.W.fnOf "lowest" "lowest" (defArgs s_lowest) (defBody s_lowest) (defScope s_lowest) .none kV_lowest doc_lowest pm_lowest an_lowest cdv_lowest ct_lowest), osl_lowest⟩) (c_lowest : PySem.W.codeIn K cdv_lowest "lowest" = true) (k_lowest : PySem.W.keepIn K (.ref f_lowest) = true)
    (a_common_bottom : PySem.W.nsIn K mainGlobals "common_bottom" = some (some (.ref f_common_bottom)))
    (l_common_bottom : K.lookup f_common_bottom = some ⟨oc_common_bottom, od_common_bottom, .func (PySem.W.fnOf "common_bottom" "common_bottom" (defArgs s_common_bottom) (defBody s_common_bottom) (defScope s_common_bottom) .none kV_common_bottom doc_common_bottom pm_common_bottom an_common_bottom cdv_common_bottom ct_common_bottom), osl_common_bottom⟩) (c_common_bottom : PySem.W.codeIn K cdv_common_bottom "common_bottom" = true) (k_common_bottom : PySem.W.keepIn K (.ref f_common_bottom) = true)
    (a_in_units : PySem.W.nsIn K mainGlobals "in_units" = some (some (.ref f_in_units)))
    (l_in_units : K.lookup f_in_units = some ⟨oc_in_units, od_in_units, .func (PySem.W.fnOf "in_units" "in_units" (defArgs s_in_units) (defBody s_in_units) (defScope s_in_units) .none kV_in_units doc_in_units pm_in_units an_in_units cdv_in_units ct_in_units), osl_in_units⟩) (c_in_units : PySem.W.codeIn K cdv_in_units "in_units" = true) (k_in_units : PySem.W.keepIn K (.ref f_in_units) = true)
    (a_added : PySem.W.nsIn K mainGlobals "added" = some (some (.ref f_added)))
    (l_added : K.lookup f_added = some ⟨oc_added, od_added, .func (PySem.W.fnOf "added" "added" (defArgs s_added) (defBody s_added) (defScope s_added) .none kV_added doc_added pm_added an_added cdv_added ct_added), osl_added⟩) (c_added : PySem.W.codeIn K cdv_added "added" = true) (k_added : PySem.W.keepIn K (.ref f_added) = true)
    (a_is_integer : PySem.W.nsIn K mainGlobals "is_integer" = some (some (.ref f_is_integer)))
    (l_is_integer : K.lookup f_is_integer = some ⟨oc_is_integer, od_is_integer, .func (PySem.W.fnOf "is_integer" "is_integer" (defArgs s_is_integer) (defBody s_is_integer) (defScope s_is_integer) .none kV_is_integer doc_is_integer pm_is_integer an_is_integer cdv_is_integer ct_is_integer), osl_is_integer⟩) (c_is_integer : PySem.W.codeIn K cdv_is_integer "is_integer" = true) (k_is_integer : PySem.W.keepIn K (.ref f_is_integer) = true)
    (a_is_fraction : PySem.W.nsIn K mainGlobals "is_fraction" = some (some (.ref f_is_fraction)))
    (l_is_fraction : K.lookup f_is_fraction = some ⟨oc_is_fraction, od_is_fraction, .func (PySem.W.fnOf "is_fraction" "is_fraction" (defArgs s_is_fraction) (defBody s_is_fraction) (defScope s_is_fraction) .none kV_is_fraction doc_is_fraction pm_is_fraction an_is_fraction cdv_is_fraction ct_is_fraction), osl_is_fraction⟩) (c_is_fraction : PySem.W.codeIn K cdv_is_fraction "is_fraction" = true) (k_is_fraction : PySem.W.keepIn K (.ref f_is_fraction) = true)
    (a_is_amount : PySem.W.nsIn K mainGlobals "is_amount" = some (some (.ref f_is_amount)))
    (l_is_amount : K.lookup f_is_amount = some ⟨oc_is_amount, od_is_amount, .func (PySem.W.fnOf "is_amount" "is_amount" (defArgs s_is_amount) (defBody s_is_amount) (defScope s_is_amount) .none kV_is_amount doc_is_amount pm_is_amount an_is_amount cdv_is_amount ct_is_amount), osl_is_amount⟩) (c_is_amount : PySem.W.codeIn K cdv_is_amount "is_amount" = true) (k_is_amount : PySem.W.keepIn K (.ref f_is_amount) = true)
    (a_q_is_side : PySem.W.nsIn K mainGlobals "_is_side" = some (some (.ref f_q_is_side)))
    (l_q_is_side : K.lookup f_q_is_side = some ⟨oc_q_is_side, od_q_is_side, .func (PySem.W.fnOf "_is_side" "_is_side" (defArgs s_q_is_side) (defBody s_q_is_side) (defScope s_q_is_side) .none kV_q_is_side doc_q_is_side pm_q_is_side an_q_is_side cdv_q_is_side ct_q_is_side), osl_q_is_side⟩) (c_q_is_side : PySem.W.codeIn K cdv_q_is_side "_is_side" = true) (k_q_is_side : PySem.W.keepIn K (.ref f_q_is_side) = true)
    (a_BadEveningu_initu : PySem.W.findIn K (.ref cBadEvening) "__init__" = some (some (.ref f_BadEveningu_initu))) (i_BadEveningu_initu : PySem.W.isFn K (.ref f_BadEveningu_initu) = true)
    (l_BadEveningu_initu : K.lookup f_BadEveningu_initu = some ⟨oc_BadEveningu_initu, od_BadEveningu_initu, .func (PySem.W.fnOf "__init__" "BadEvening.__init__" (defArgs s_BadEveningu_initu) (defBody s_BadEveningu_initu) (defScope s_BadEveningu_initu) .none kV_BadEveningu_initu doc_BadEveningu_initu pm_BadEveningu_initu an_BadEveningu_initu cdv_BadEveningu_initu ct_BadEveningu_initu), osl_BadEveningu_initu⟩) (c_BadEveningu_initu : PySem.W.codeIn K cdv_BadEveningu_initu "BadEvening.__init__" = true) (k_BadEveningu_initu : PySem.W.keepIn K (.ref f_BadEveningu_initu) = true)
    (xt_BadEvening : PySem.W.typeIn K (.ref f_BadEveningu_initu) = some (.type "function"))
    (a_Eveningu_initu : PySem.W.findIn K (.ref cEvening) "__init__" = some (some (.ref f_Eveningu_initu))) (i_Eveningu_initu : PySem.W.isFn K (.ref f_Eveningu_initu) = true)
    (l_Eveningu_initu : K.lookup f_Eveningu_initu = some ⟨oc_Eveningu_initu, od_Eveningu_initu, .func (PySem.W.fnOf "__init__" "Evening.__init__" (defArgs s_Eveningu_initu) (defBody s_Eveningu_initu) (defScope s_Eveningu_initu) .none kV_Eveningu_initu doc_Eveningu_initu pm_Eveningu_initu an_Eveningu_initu cdv_Eveningu_initu ct_Eveningu_initu), osl_Eveningu_initu⟩) (c_Eveningu_initu : PySem.W.codeIn K cdv_Eveningu_initu "Evening.__init__" = true) (k_Eveningu_initu : PySem.W.keepIn K (.ref f_Eveningu_initu) = true)
    (a_law : PySem.W.nsIn K mainGlobals "law" = some (some (.ref f_law)))
    (l_law : K.lookup f_law = some ⟨oc_law, od_law, .func (PySem.W.fnOf "law" "law" (defArgs s_law) (defBody s_law) (defScope s_law) .none kV_law doc_law pm_law an_law cdv_law ct_law), osl_law⟩) (c_law : PySem.W.codeIn K cdv_law "law" = true) (k_law : PySem.W.keepIn K (.ref f_law) = true)
    : ∃ fd : FuncData, (∀ (s : Shared) (v : Value), BindsTo s fd ⟨[v], []⟩ [("_law_script", v)]) ∧ ∀ base : Heap, K.In base → base.Ns mainGlobals mg → FnOk l.prog w K mg base CX0 7 fa fd ["_law_script"] (sp_top K) := by
  have e := hfa.symm.trans (PySem.W.mg_of X G a_law)
  cases e
  have F := fun_mk (st := s_law) l_law c_law k_law
  have d_L_hand : DefAt K "_law_hand" s_L_hand := ⟨_, _, _, _, _, _, _, _, _, _, a_L_hand, l_L_hand, c_L_hand, k_L_hand⟩
  have d_L_draw : DefAt K "_law_draw" s_L_draw := ⟨_, _, _, _, _, _, _, _, _, _, a_L_draw, l_L_draw, c_L_draw, k_L_draw⟩
  have d_L_common : DefAt K "_law_common" s_L_common := ⟨_, _, _, _, _, _, _, _, _, _, a_L_common, l_L_common, c_L_common, k_L_common⟩
  have d_L_fraction : DefAt K "_law_fraction" s_L_fraction := ⟨_, _, _, _, _, _, _, _, _, _, a_L_fraction, l_L_fraction, c_L_fraction, k_L_fraction⟩
  have d_L_times : DefAt K "_law_times" s_L_times := ⟨_, _, _, _, _, _, _, _, _, _, a_L_times, l_L_times, c_L_times, k_L_times⟩
  have d_L_cut : DefAt K "_law_cut" s_L_cut := ⟨_, _, _, _, _, _, _, _, _, _, a_L_cut, l_L_cut, c_L_cut, k_L_cut⟩
  have d_L_numbers : DefAt K "_law_numbers" s_L_numbers := ⟨_, _, _, _, _, _, _, _, _, _, a_L_numbers, l_L_numbers, c_L_numbers, k_L_numbers⟩
  have d_L_unit : DefAt K "_law_unit" s_L_unit := ⟨_, _, _, _, _, _, _, _, _, _, a_L_unit, l_L_unit, c_L_unit, k_L_unit⟩
  have d_L_sums : DefAt K "_law_sums" s_L_sums := ⟨_, _, _, _, _, _, _, _, _, _, a_L_sums, l_L_sums, c_L_sums, k_L_sums⟩
  have d_L_plus : DefAt K "_law_plus" s_L_plus := ⟨_, _, _, _, _, _, _, _, _, _, a_L_plus, l_L_plus, c_L_plus, k_L_plus⟩
  have d_L_sum : DefAt K "_law_sum" s_L_sum := ⟨_, _, _, _, _, _, _, _, _, _, a_L_sum, l_L_sum, c_L_sum, k_L_sum⟩
  have d_L_is_amount : DefAt K "_law_is_amount" s_L_is_amount := ⟨_, _, _, _, _, _, _, _, _, _, a_L_is_amount, l_L_is_amount, c_L_is_amount, k_L_is_amount⟩
  have d_L_are_sums : DefAt K "_law_are_sums" s_L_are_sums := ⟨_, _, _, _, _, _, _, _, _, _, a_L_are_sums, l_L_are_sums, c_L_are_sums, k_L_are_sums⟩
  have d_L_due : DefAt K "_law_due" s_L_due := ⟨_, _, _, _, _, _, _, _, _, _, a_L_due, l_L_due, c_L_due, k_L_due⟩
  have d_L_odd : DefAt K "_law_odd" s_L_odd := ⟨_, _, _, _, _, _, _, _, _, _, a_L_odd, l_L_odd, c_L_odd, k_L_odd⟩
  have d_L_spoiled : DefAt K "_law_spoiled" s_L_spoiled := ⟨_, _, _, _, _, _, _, _, _, _, a_L_spoiled, l_L_spoiled, c_L_spoiled, k_L_spoiled⟩
  have d_lowest : DefAt K "lowest" s_lowest := ⟨_, _, _, _, _, _, _, _, _, _, a_lowest, l_lowest, c_lowest, k_lowest⟩
  have d_common_bottom : DefAt K "common_bottom" s_common_bottom := ⟨_, _, _, _, _, _, _, _, _, _, a_common_bottom, l_common_bottom, c_common_bottom, k_common_bottom⟩
  have d_in_units : DefAt K "in_units" s_in_units := ⟨_, _, _, _, _, _, _, _, _, _, a_in_units, l_in_units, c_in_units, k_in_units⟩
  have d_added : DefAt K "added" s_added := ⟨_, _, _, _, _, _, _, _, _, _, a_added, l_added, c_added, k_added⟩
  have d_is_integer : DefAt K "is_integer" s_is_integer := ⟨_, _, _, _, _, _, _, _, _, _, a_is_integer, l_is_integer, c_is_integer, k_is_integer⟩
  have d_is_fraction : DefAt K "is_fraction" s_is_fraction := ⟨_, _, _, _, _, _, _, _, _, _, a_is_fraction, l_is_fraction, c_is_fraction, k_is_fraction⟩
  have d_is_amount : DefAt K "is_amount" s_is_amount := ⟨_, _, _, _, _, _, _, _, _, _, a_is_amount, l_is_amount, c_is_amount, k_is_amount⟩
  have d_q_is_side : DefAt K "_is_side" s_q_is_side := ⟨_, _, _, _, _, _, _, _, _, _, a_q_is_side, l_q_is_side, c_q_is_side, k_q_is_side⟩
  have d_BadEveningu_initu : MethAt K cBadEvening "__init__" "BadEvening.__init__" s_BadEveningu_initu := ⟨_, _, _, _, _, _, _, _, _, _, a_BadEveningu_initu, i_BadEveningu_initu, l_BadEveningu_initu, c_BadEveningu_initu, k_BadEveningu_initu⟩
  have d_Eveningu_initu : MethAt K cEvening "__init__" "Evening.__init__" s_Eveningu_initu := ⟨_, _, _, _, _, _, _, _, _, _, a_Eveningu_initu, i_Eveningu_initu, l_Eveningu_initu, c_Eveningu_initu, k_Eveningu_initu⟩
  have d_law : DefAt K "law" s_law := ⟨_, _, _, _, _, _, _, _, _, _, a_law, l_law, c_law, k_law⟩
  have cl_Evening : Cls K cEvening := ⟨pg_Evening, hd_Evening, po_Evening, sa_Evening⟩
  have T : CT K (⟨cEvening, 0, 0, 0, cBadEvening, 0⟩ : CA) := ⟨cl_Evening, na_nO, na_nD⟩
  have OX_BadEvening : OexC K cBadEvening := ⟨⟨_, _, _, _, _, _, _, _, _, _, _, _, _, _, _, x_BadEvening, rfl⟩, xs_BadEvening, ex_BadEvening, ty_BadEvening, xk_BadEvening⟩
  have TF_BadEvening : ExcF K cBadEvening "part" := ⟨OX_BadEvening, yf_BadEvening, exm_of ex_BadEvening yc_BadEvening ty_BadEvening ys_BadEvening, ⟨yg_BadEvening, yn_BadEvening, ex_BadEvening, yh_BadEvening⟩⟩
  have B : Bi mg (⟨cEvening, 0, 0, 0, cBadEvening, 0⟩ : CA) := ⟨PySem.W.mg_none_of X G z_abs, PySem.W.mg_none_of X G z_all, PySem.W.mg_none_of X G z_bool, PySem.W.mg_none_of X G z_int, PySem.W.mg_none_of X G z_isinstance, PySem.W.mg_none_of X G z_len, PySem.W.mg_none_of X G z_list, PySem.W.mg_none_of X G z_max, PySem.W.mg_none_of X G z_min, PySem.W.mg_none_of X G z_range, PySem.W.mg_none_of X G z_str, PySem.W.mg_none_of X G z_sum, PySem.W.mg_none_of X G z_tuple, PySem.W.mg_of X G h_BadEvening, PySem.W.mg_of X G h_Evening, ⟨_, PySem.W.mg_of X G z_MOST_SUMS, r_MOST_SUMS⟩, PySem.W.mg_of X G z_gcd, PySem.W.mg_of X G z_lcm⟩
  refine ⟨PySem.W.fnOf "law" "law" (defArgs s_law) (defBody s_law) (defScope s_law) .none kV_law doc_law pm_law an_law cdv_law ct_law, fun s v => .of_eq rfl, fun base _ _ => ?_⟩
  have D_L_hand : Okd l.prog w K mg base 1 "_law_hand" ["_law_script"] (sp_L_hand K (⟨cEvening, 0, 0, 0, cBadEvening, 0⟩ : CA)) := d_L_hand.okd X G (fun _ _ _ _ _ _ us hl => match us, hl with | [_], _ => rfl) (fun f fd F => ok_L_hand T B F )
  have D_L_draw : Okd l.prog w K mg base 1 "_law_draw" ["_law_hand_here", "_law_many"] (sp_L_draw K (⟨cEvening, 0, 0, 0, cBadEvening, 0⟩ : CA)) := d_L_draw.okd X G (fun _ _ _ _ _ _ us hl => match us, hl with | [_, _], _ => rfl) (fun f fd F => ok_L_draw T B F )
  have D_L_common : Okd l.prog w K mg base 1 "_law_common" ["_law_one", "_law_other"] (sp_L_common K (⟨cEvening, 0, 0, 0, cBadEvening, 0⟩ : CA)) := d_L_common.okd X G (fun _ _ _ _ _ _ us hl => match us, hl with | [_, _], _ => rfl) (fun f fd F => ok_L_common T B F )
  have D_L_fraction : Okd l.prog w K mg base 2 "_law_fraction" ["_law_top", "_law_bottom"] (sp_L_fraction K (⟨cEvening, 0, 0, 0, cBadEvening, 0⟩ : CA)) := d_L_fraction.okd X G (fun _ _ _ _ _ _ us hl => match us, hl with | [_, _], _ => rfl) (fun f fd F => ok_L_fraction T B F D_L_common)
  have D_L_times : Okd l.prog w K mg base 3 "_law_times" ["_law_one", "_law_other"] (sp_L_times K (⟨cEvening, 0, 0, 0, cBadEvening, 0⟩ : CA)) := d_L_times.okd X G (fun _ _ _ _ _ _ us hl => match us, hl with | [_, _], _ => rfl) (fun f fd F => ok_L_times T B F D_L_fraction)
  have D_L_cut : Okd l.prog w K mg base 2 "_law_cut" ["_law_hand_here", "_law_full", "_law_many"] (sp_L_cut K (⟨cEvening, 0, 0, 0, cBadEvening, 0⟩ : CA)) := d_L_cut.okd X G (fun _ _ _ _ _ _ us hl => match us, hl with | [_, _, _], _ => rfl) (fun f fd F => ok_L_cut T B F D_L_draw)
  have D_L_numbers : Okd l.prog w K mg base 3 "_law_numbers" ["_law_hand_here", "_law_side", "_law_most"] (sp_L_numbers K (⟨cEvening, 0, 0, 0, cBadEvening, 0⟩ : CA)) := d_L_numbers.okd X G (fun _ _ _ _ _ _ us hl => match us, hl with | [_, _, _], _ => rfl) (fun f fd F => ok_L_numbers T B F D_L_draw D_L_cut)
  have D_L_unit : Okd l.prog w K mg base 2 "_law_unit" ["_law_hand_here"] (sp_L_unit K (⟨cEvening, 0, 0, 0, cBadEvening, 0⟩ : CA)) := d_L_unit.okd X G (fun _ _ _ _ _ _ us hl => match us, hl with | [_], _ => rfl) (fun f fd F => ok_L_unit T B F D_L_draw)
  have D_L_sums : Okd l.prog w K mg base 4 "_law_sums" ["_law_hand_here", "_law_side", "_law_most"] (sp_L_sums K (⟨cEvening, 0, 0, 0, cBadEvening, 0⟩ : CA)) := d_L_sums.okd X G (fun _ _ _ _ _ _ us hl => match us, hl with | [_, _, _], _ => rfl) (fun f fd F => ok_L_sums T B F D_L_times D_L_numbers D_L_unit)
  have D_L_plus : Okd l.prog w K mg base 3 "_law_plus" ["_law_one", "_law_other"] (sp_L_plus K (⟨cEvening, 0, 0, 0, cBadEvening, 0⟩ : CA)) := d_L_plus.okd X G (fun _ _ _ _ _ _ us hl => match us, hl with | [_, _], _ => rfl) (fun f fd F => ok_L_plus T B F D_L_fraction)
  have D_L_sum : Okd l.prog w K mg base 4 "_law_sum" ["_law_fractions"] (sp_L_sum K (⟨cEvening, 0, 0, 0, cBadEvening, 0⟩ : CA)) := d_L_sum.okd X G (fun _ _ _ _ _ _ us hl => match us, hl with | [_], _ => rfl) (fun f fd F => ok_L_sum T B F D_L_plus)
  have D_L_is_amount : Okd l.prog w K mg base 2 "_law_is_amount" ["_law_thing"] (sp_L_is_amount K (⟨cEvening, 0, 0, 0, cBadEvening, 0⟩ : CA)) := d_L_is_amount.okd X G (fun _ _ _ _ _ _ us hl => match us, hl with | [_], _ => rfl) (fun f fd F => ok_L_is_amount T B F D_L_common)
  have D_L_are_sums : Okd l.prog w K mg base 3 "_law_are_sums" ["_law_thing"] (sp_L_are_sums K (⟨cEvening, 0, 0, 0, cBadEvening, 0⟩ : CA)) := d_L_are_sums.okd X G (fun _ _ _ _ _ _ us hl => match us, hl with | [_], _ => rfl) (fun f fd F => ok_L_are_sums T B F D_L_is_amount)
  have D_L_due : Okd l.prog w K mg base 5 "_law_due" ["_law_owed", "_law_due_here"] (sp_L_due K (⟨cEvening, 0, 0, 0, cBadEvening, 0⟩ : CA)) := d_L_due.okd X G (fun _ _ _ _ _ _ us hl => match us, hl with | [_, _], _ => rfl) (fun f fd F => ok_L_due T B F D_L_sum D_L_are_sums)
  have D_L_odd : Okd l.prog w K mg base 2 "_law_odd" ["_law_hand_here"] (sp_L_odd K (⟨cEvening, 0, 0, 0, cBadEvening, 0⟩ : CA)) := d_L_odd.okd X G (fun _ _ _ _ _ _ us hl => match us, hl with | [_], _ => rfl) (fun f fd F => ok_L_odd T B F D_L_draw)
  have D_L_spoiled : Okd l.prog w K mg base 3 "_law_spoiled" ["_law_hand_here", "_law_side"] (sp_L_spoiled K (⟨cEvening, 0, 0, 0, cBadEvening, 0⟩ : CA)) := d_L_spoiled.okd X G (fun _ _ _ _ _ _ us hl => match us, hl with | [_, _], _ => rfl) (fun f fd F => ok_L_spoiled T B F D_L_draw D_L_odd)
  have D_lowest : Okd l.prog w K mg base 1 "lowest" ["top", "bottom"] (sp_lowest K (⟨cEvening, 0, 0, 0, cBadEvening, 0⟩ : CA)) := d_lowest.okd X G (fun _ _ _ _ _ _ us hl => match us, hl with | [_, _], _ => rfl) (fun f fd F => ok_lowest T B F )
  have D_common_bottom : Okd l.prog w K mg base 1 "common_bottom" ["fractions"] (sp_common_bottom K (⟨cEvening, 0, 0, 0, cBadEvening, 0⟩ : CA)) := d_common_bottom.okd X G (fun _ _ _ _ _ _ us hl => match us, hl with | [_], _ => rfl) (fun f fd F => ok_common_bottom T B F )
  have D_in_units : Okd l.prog w K mg base 1 "in_units" ["fractions", "shared"] (sp_in_units K (⟨cEvening, 0, 0, 0, cBadEvening, 0⟩ : CA)) := d_in_units.okd X G (fun _ _ _ _ _ _ us hl => match us, hl with | [_, _], _ => rfl) (fun f fd F => ok_in_units T B F )
  have D_added : Okd l.prog w K mg base 2 "added" ["fractions"] (sp_added K (⟨cEvening, 0, 0, 0, cBadEvening, 0⟩ : CA)) := d_added.okd X G (fun _ _ _ _ _ _ us hl => match us, hl with | [_], _ => rfl) (fun f fd F => ok_added T B F D_lowest D_common_bottom D_in_units)
  have D_is_integer : Okd l.prog w K mg base 1 "is_integer" ["thing"] (sp_is_integer K (⟨cEvening, 0, 0, 0, cBadEvening, 0⟩ : CA)) := d_is_integer.okd X G (fun _ _ _ _ _ _ us hl => match us, hl with | [_], _ => rfl) (fun f fd F => ok_is_integer T B F )
  have D_is_fraction : Okd l.prog w K mg base 2 "is_fraction" ["thing"] (sp_is_fraction K (⟨cEvening, 0, 0, 0, cBadEvening, 0⟩ : CA)) := d_is_fraction.okd X G (fun _ _ _ _ _ _ us hl => match us, hl with | [_], _ => rfl) (fun f fd F => ok_is_fraction T B F D_is_integer)
  have D_is_amount : Okd l.prog w K mg base 3 "is_amount" ["thing"] (sp_is_amount K (⟨cEvening, 0, 0, 0, cBadEvening, 0⟩ : CA)) := d_is_amount.okd X G (fun _ _ _ _ _ _ us hl => match us, hl with | [_], _ => rfl) (fun f fd F => ok_is_amount T B F D_is_fraction)
  have D_q_is_side : Okd l.prog w K mg base 4 "_is_side" ["thing"] (sp_q_is_side K (⟨cEvening, 0, 0, 0, cBadEvening, 0⟩ : CA)) := d_q_is_side.okd X G (fun _ _ _ _ _ _ us hl => match us, hl with | [_], _ => rfl) (fun f fd F => ok_q_is_side T B F D_is_amount)
  have D_BadEveningu_initu : Okx l.prog w K mg base 1 cBadEvening ["self", "part"] (sp_BadEveningu_initu K (⟨cEvening, 0, 0, 0, cBadEvening, 0⟩ : CA)) := d_BadEveningu_initu.okx OX_BadEvening (fun f h => by rw [a_BadEveningu_initu] at h; cases h; exact xt_BadEvening) (fun _ _ _ _ _ _ us hl => match us, hl with | [_, _], _ => rfl) (fun f fd F => ok_BadEveningu_initu T B F )
  have D_Eveningu_initu : OkmX l.prog w K mg base 5 "Evening" cEvening ["self", "owed", "due"] (sp_Eveningu_initu K (⟨cEvening, 0, 0, 0, cBadEvening, 0⟩ : CA)) := d_Eveningu_initu.okmX (PySem.W.mg_of X G h_Evening) mk_Evening kc_Evening (fun _ _ _ _ _ _ us hl => match us, hl with | [_, _, _], _ => rfl) (fun f fd F => ok_Eveningu_initu T B TF_BadEvening F D_added D_q_is_side D_BadEveningu_initu)
  exact ok_law T B TF_BadEvening F D_L_hand D_L_draw D_L_sums D_L_due D_L_spoiled D_Eveningu_initu
theorem walk {l : PySem.W.OpenLaw} {q : Program} {loose : List Str} {XP : (Str → Option Value) → Heap → Prop} {YP : World → Heap → Prop} {d : DefRec} {K : Params → PySem.W.Frag} (hn : l.most = some 63) (hdf : d.params.defaults = [])
    (hY : ∀ (w : World) (h : Heap), YP w h → (K w.params).In h)
    (F : ∀ (w : World) (mg : Str → Option Value) (fa : Addr) (h : Heap), (K w.params).In h → h.Ns mainGlobals mg → mg d.name = some (.ref fa) →
      ∃ fd : FuncData, (∀ (s : Shared) (u : Value), BindsTo s fd ⟨[u], []⟩ [("_law_script", u)]) ∧ ∀ base : Heap, (K w.params).In base → base.Ns mainGlobals mg → FnOk l.prog w (K w.params) mg base CX0 7 fa fd ["_law_script"] (sp_top (K w.params))) :
    PySem.W.WalkO q loose XP YP l.row.toRowW d [] (fun f vs => PySem.call f vs) :=
  L2.walk_of (n := 63) (k := 7) (x := "_law_script") (CX := fun _ => CX0) (sp := fun w => sp_top (K w.params)) hn (by decide) hdf ⟨rfl, by decide, by decide⟩ hY F (fun _ _ a ns hl _ hS => ⟨a, ns, rfl, hS, hl, fun _ => rfl⟩) fun _ _ _ _ _ z => z
end QW

open PySem PySem.W PyProof.Rows in
set_option maxRecDepth 100000 in
set_option maxHeartbeats 0 in
theorem PySem.Challenge.cw_quitsways_k00_evenings_judged_holds : PySem.Challenge.rw_quitsways_k00_evenings_judged.Holds := by
  w_on; o_law; k_head; (case hw => w_witness2)
  k_fill
  refine QW.walk (l := PySem.Challenge.rw_quitsways_k00_evenings_judged) rfl rfl (fun w h Y => PySem.W.kIn_of Y) ?F
  case F =>
    intro w mg fa h KX G hmg
    refine' QW.all_mk KX G hmg ?h_BadEvening ?ex_BadEvening ?ty_BadEvening ?x_BadEvening ?xs_BadEvening ?xk_BadEvening ?yf_BadEvening ?yc_BadEvening ?ys_BadEvening ?yg_BadEvening ?yn_BadEvening ?yh_BadEvening ?h_Evening ?pg_Evening ?hd_Evening ?po_Evening ?sa_Evening ?mk_Evening ?kc_Evening ?na_nO ?na_nD ?z_abs ?z_all ?z_bool ?z_int ?z_isinstance ?z_len ?z_list ?z_max ?z_min ?z_range ?z_str ?z_sum ?z_tuple ?z_MOST_SUMS ?r_MOST_SUMS ?z_gcd ?z_lcm ?a_L_hand ?l_L_hand ?c_L_hand ?k_L_hand ?a_L_draw ?l_L_draw ?c_L_draw ?k_L_draw ?a_L_common ?l_L_common ?c_L_common ?k_L_common ?a_L_fraction ?l_L_fraction ?c_L_fraction ?k_L_fraction ?a_L_times ?l_L_times ?c_L_times ?k_L_times ?a_L_cut ?l_L_cut ?c_L_cut ?k_L_cut ?a_L_numbers ?l_L_numbers ?c_L_numbers ?k_L_numbers ?a_L_unit ?l_L_unit ?c_L_unit ?k_L_unit ?a_L_sums ?l_L_sums ?c_L_sums ?k_L_sums ?a_L_plus ?l_L_plus ?c_L_plus ?k_L_plus ?a_L_sum ?l_L_sum ?c_L_sum ?k_L_sum ?a_L_is_amount ?l_L_is_amount ?c_L_is_amount ?k_L_is_amount ?a_L_are_sums ?l_L_are_sums ?c_L_are_sums ?k_L_are_sums ?a_L_due ?l_L_due ?c_L_due ?k_L_due ?a_L_odd ?l_L_odd ?c_L_odd ?k_L_odd ?a_L_spoiled ?l_L_spoiled ?c_L_spoiled ?k_L_spoiled ?a_lowest ?l_lowest ?c_lowest ?k_lowest ?a_common_bottom ?l_common_bottom ?c_common_bottom ?k_common_bottom ?a_in_units ?l_in_units ?c_in_units ?k_in_units ?a_added ?l_added ?c_added ?k_added ?a_is_integer ?l_is_integer ?c_is_integer ?k_is_integer ?a_is_fraction ?l_is_fraction ?c_is_fraction ?k_is_fraction ?a_is_amount ?l_is_amount ?c_is_amount ?k_is_amount ?a_q_is_side ?l_q_is_side ?c_q_is_side ?k_q_is_side ?a_BadEveningu_initu ?i_BadEveningu_initu ?l_BadEveningu_initu ?c_BadEveningu_initu ?k_BadEveningu_initu ?xt_BadEvening ?a_Eveningu_initu ?i_Eveningu_initu ?l_Eveningu_initu ?c_Eveningu_initu ?k_Eveningu_initu ?a_law ?l_law ?c_law ?k_law
    (case h_BadEvening => k_is)
    (case ex_BadEvening => k_is)
    (case ty_BadEvening => k_is)
    (case x_BadEvening => k_is)
    (case xs_BadEvening => k_is)
    (case xk_BadEvening => k_is)
    (case yf_BadEvening => k_is)
    (case yc_BadEvening => first | k_is | rfl)
    (case ys_BadEvening => first | k_is | rfl)
    (case yg_BadEvening => first | k_is | rfl)
    (case yn_BadEvening => first | k_is | rfl)
    (case yh_BadEvening => first | k_is | rfl)
    (case h_Evening => k_is)
    (case pg_Evening => k_is)
    (case hd_Evening => k_is)
    (case po_Evening => k_is)
    (case sa_Evening => k_is)
    (case mk_Evening => k_is)
    (case kc_Evening => k_is)
    (case na_nO => k_is)
    (case na_nD => k_is)
    (case z_abs => k_is)
    (case z_all => k_is)
    (case z_bool => k_is)
    (case z_int => k_is)
    (case z_isinstance => k_is)
    (case z_len => k_is)
    (case z_list => k_is)
    (case z_max => k_is)
    (case z_min => k_is)
    (case z_range => k_is)
    (case z_str => k_is)
    (case z_sum => k_is)
    (case z_tuple => k_is)
    (case z_MOST_SUMS => k_is)
    (case r_MOST_SUMS => exact ⟨_, rfl⟩)
    (case z_gcd => k_is)
    (case z_lcm => k_is)
    (case a_L_hand => k_is)
    (case l_L_hand => k_is)
    (case c_L_hand => k_is)
    (case k_L_hand => k_is)
    (case a_L_draw => k_is)
    (case l_L_draw => k_is)
    (case c_L_draw => k_is)
    (case k_L_draw => k_is)
    (case a_L_common => k_is)
    (case l_L_common => k_is)
    (case c_L_common => k_is)
    (case k_L_common => k_is)
    (case a_L_fraction => k_is)
    (case l_L_fraction => k_is)
    (case c_L_fraction => k_is)
    (case k_L_fraction => k_is)
    (case a_L_times => k_is)
    (case l_L_times => k_is)
    (case c_L_times => k_is)
    (case k_L_times => k_is)
    (case a_L_cut => k_is)
    (case l_L_cut => k_is)
    (case c_L_cut => k_is)
    (case k_L_cut => k_is)
    (case a_L_numbers => k_is)
    (case l_L_numbers => k_is)
    (case c_L_numbers => k_is)
    (case k_L_numbers => k_is)
    (case a_L_unit => k_is)
    (case l_L_unit => k_is)
    (case c_L_unit => k_is)
    (case k_L_unit => k_is)
    (case a_L_sums => k_is)
    (case l_L_sums => k_is)
    (case c_L_sums => k_is)
    (case k_L_sums => k_is)
    (case a_L_plus => k_is)
    (case l_L_plus => k_is)
    (case c_L_plus => k_is)
    (case k_L_plus => k_is)
    (case a_L_sum => k_is)
    (case l_L_sum => k_is)
    (case c_L_sum => k_is)
    (case k_L_sum => k_is)
    (case a_L_is_amount => k_is)
    (case l_L_is_amount => k_is)
    (case c_L_is_amount => k_is)
    (case k_L_is_amount => k_is)
    (case a_L_are_sums => k_is)
    (case l_L_are_sums => k_is)
    (case c_L_are_sums => k_is)
    (case k_L_are_sums => k_is)
    (case a_L_due => k_is)
    (case l_L_due => k_is)
    (case c_L_due => k_is)
    (case k_L_due => k_is)
    (case a_L_odd => k_is)
    (case l_L_odd => k_is)
    (case c_L_odd => k_is)
    (case k_L_odd => k_is)
    (case a_L_spoiled => k_is)
    (case l_L_spoiled => k_is)
    (case c_L_spoiled => k_is)
    (case k_L_spoiled => k_is)
    (case a_lowest => k_is)
    (case l_lowest => k_is)
    (case c_lowest => k_is)
    (case k_lowest => k_is)
    (case a_common_bottom => k_is)
    (case l_common_bottom => k_is)
    (case c_common_bottom => k_is)
    (case k_common_bottom => k_is)
    (case a_in_units => k_is)
    (case l_in_units => k_is)
    (case c_in_units => k_is)
    (case k_in_units => k_is)
    (case a_added => k_is)
    (case l_added => k_is)
    (case c_added => k_is)
    (case k_added => k_is)
    (case a_is_integer => k_is)
    (case l_is_integer => k_is)
    (case c_is_integer => k_is)
    (case k_is_integer => k_is)
    (case a_is_fraction => k_is)
    (case l_is_fraction => k_is)
    (case c_is_fraction => k_is)
    (case k_is_fraction => k_is)
    (case a_is_amount => k_is)
    (case l_is_amount => k_is)
    (case c_is_amount => k_is)
    (case k_is_amount => k_is)
    (case a_q_is_side => k_is)
    (case l_q_is_side => k_is)
    (case c_q_is_side => k_is)
    (case k_q_is_side => k_is)
    (case a_BadEveningu_initu => k_is)
    (case i_BadEveningu_initu => k_is)
    (case l_BadEveningu_initu => k_is)
    (case c_BadEveningu_initu => k_is)
    (case k_BadEveningu_initu => k_is)
    (case xt_BadEvening => k_is)
    (case a_Eveningu_initu => k_is)
    (case i_Eveningu_initu => k_is)
    (case l_Eveningu_initu => k_is)
    (case c_Eveningu_initu => k_is)
    (case k_Eveningu_initu => k_is)
    (case a_law => k_is)
    (case l_law => k_is)
    (case c_law => k_is)
    (case k_law => k_is)
