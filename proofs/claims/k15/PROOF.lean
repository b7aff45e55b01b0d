import PyProof.Rows.All
import Wide.All
import OpenK.AllK
import Wide.FinOn
import HandS.ForMost
import HandS.Gcd
import HandS.Wide
import HandS.WideBits
import HandS.IsInst
import HandS.Style
import HandS.TupAny
import HandS.Conv
import HandS.TupMul
import HandS.ExcInit
import HandS.ExcField
import HandS.TryMany
import HandS.TryOnly
import HandS.ExcOwn
import HandS.WordsExc
import KE.SortData
import KE.GoesMore
import HandS.Walk
import HandS.Strs
import HandS.SetFor
import HandS.SortInts
import KE.DataMinMax
import KE.KeyNested
import KE.KDictKeyed
import HandS.TupSets
import HandS.Deep
import HandS.Zip
import KE.KTupSum
import KE.KExcIs
import HandS.DictComp
import KE.GoesNew
import HandS.Text
import HandS.RaiseMore
import HandS.NoneIn
import PySem.Challenge.RW_quitsways_k15_whole_texts_of_evenings
set_option Elab.async false
set_option linter.all false
set_option maxRecDepth 100000
set_option maxHeartbeats 40000000
set_option exponentiation.threshold 20000

namespace QW
open PySem L2

/-! ### what changes: nothing (Same), or one list (KL m) -/
structure KL (m : Addr) (H H' : Hp) : Prop where
  keep : ∀ b o, b ≠ m → H b = some o → H' b = some o
  tup : ∀ b xs, H b = some (.tup xs) → H' b = some (.tup xs)
  ins : ∀ b C dx fs, H b = some (.ins C dx fs) → H' b = some (.ins C dx fs)
  live : ∀ b, H' b = none → H b = none
  lst : ∀ b xs, H b = some (.lst xs) → ∃ ys, H' b = some (.lst ys)
  dk : ∀ b kvs, H b = some (.dK kvs) → H' b = some (.dK kvs)

theorem Same.kl {m : Addr} {H H' : Hp} (s : Same H H') : KL m H H' :=
  ⟨fun b o _ e => s b o e, fun b xs e => s b _ e, fun b C dx fs e => s b _ e, fun b e => s.free e, fun b xs e => ⟨xs, s b _ e⟩, fun b xs e => s b _ e⟩
theorem KL.refl {m : Addr} {H : Hp} : KL m H H := Same.kl (Same.refl H)
theorem KL.trans {m : Addr} {H H1 H2 : Hp} (a : KL m H H1) (b : KL m H1 H2) : KL m H H2 :=
  ⟨fun c o hc e => b.keep c o hc (a.keep c o hc e), fun c xs e => b.tup c xs (a.tup c xs e), fun c C dx fs e => b.ins c C dx fs (a.ins c C dx fs e), fun c e => a.live c (b.live c e), fun c xs e => by
    obtain ⟨ys, e1⟩ := a.lst c xs e
    exact b.lst c ys e1, fun c xs e => b.dk c xs (a.dk c xs e)⟩
theorem KL.same {m : Addr} {H H1 H2 : Hp} (a : KL m H H1) (s : Same H1 H2) : KL m H H2 := a.trans (Same.kl s)
/-- a list that is newer than H is changed -/
theorem KL.loc {m l : Addr} {H H1 H2 : Hp} (a : KL m H H1) (b : KL l H1 H2) (hl : H l = none) : KL m H H2 :=
  ⟨fun c o hc e => b.keep c o (ne_of_none e hl) (a.keep c o hc e), fun c xs e => b.tup c xs (a.tup c xs e), fun c C dx fs e => b.ins c C dx fs (a.ins c C dx fs e), fun c e => a.live c (b.live c e), fun c xs e => by
    obtain ⟨ys, e1⟩ := a.lst c xs e
    exact b.lst c ys e1, fun c xs e => b.dk c xs (a.dk c xs e)⟩
theorem same_loc {l : Addr} {H H1 H2 : Hp} (a : Same H H1) (b : KL l H1 H2) (hl : H l = none) : Same H H2 :=
  fun c o e => b.keep c o (ne_of_none e hl) (a c o e)
theorem same_upd {H : Hp} {p : Addr} {o : HO} (h : H p = none) : Same H (upd H p o) := fun b u e => by rw [upd_ne (ne_of_none e h)]; exact e
theorem kl_upd {H : Hp} {p : Addr} {xs : List V} {ys : List V} (h : H p = some (.lst xs)) : KL p H (upd H p (.lst ys)) := by
  refine ⟨fun b o hb e => by rw [upd_ne hb]; exact e, fun b zs e => ?_, fun b C dx fs e => ?_, fun b e => ?_, fun b zs e => ?_, fun b zs e => ?_⟩
  · rw [upd_ne (ne_of e h (by intro q; cases q))]; exact e
  · rw [upd_ne (ne_of e h (by intro q; cases q))]; exact e
  · by_cases hb : b = p
    · subst hb; rw [upd_same] at e; cases e
    · rw [upd_ne hb] at e; exact e
  · by_cases hb : b = p
    · subst hb; exact ⟨ys, upd_same⟩
    · exact ⟨zs, by rw [upd_ne hb]; exact e⟩
  · rw [upd_ne (ne_of e h (by intro q; cases q))]; exact e
theorem Same.free' {H H' : Hp} {l : Addr} (s : Same H H') (h : H' l = none) : H l = none := s.free h
theorem KL.free {m : Addr} {H H' : Hp} {l : Addr} (s : KL m H H') (h : H' l = none) : H l = none := s.live l h
/-- a new object -/
theorem new_obj {H : Hp} {o : HO} {Q : V → Hp → Prop} (q : ∀ p H', H p = none → Same H H' → H' p = some o → Q (.ref p) H') : ∀ p, H p = none → Q (.ref p) (upd H p o) :=
  fun p hp => q p _ hp (same_upd hp) upd_same
theorem ne_fresh {H : Hp} {a b : Addr} {o : HO} (h : H a = none) (h' : H b = some o) : a ≠ b := fun e => by rw [e, h'] at h; cases h
theorem ne_fresh' {H : Hp} {a b : Addr} {o : HO} (h : H b = none) (h' : H a = some o) : a ≠ b := fun e => by rw [← e, h'] at h; cases h

/-! ### immutable data -/
mutual
def Im (H : Hp) : V → PyData → Prop
  | v, .none => v = .non
  | v, .bool b => v = .bl b
  | v, .int i => v = .int i
  | v, .str x => v = .str x
  | v, .tuple ds => ∃ a vs, v = .ref a ∧ H a = some (.tup vs) ∧ ImL H vs ds
  | _, .list _ => False
  | _, .dict _ => False
def ImL (H : Hp) : List V → List PyData → Prop
  | [], [] => True
  | v :: vs, d :: ds => Im H v d ∧ ImL H vs ds
  | [], _ :: _ => False
  | _ :: _, [] => False
end
mutual
theorem Im.mono {H H' : Hp} (t : ∀ b xs, H b = some (.tup xs) → H' b = some (.tup xs)) : ∀ {v : V} (d : PyData), Im H v d → Im H' v d
  | _, .none, h => by simpa [Im] using h
  | _, .bool _, h => by simpa [Im] using h
  | _, .int _, h => by simpa [Im] using h
  | _, .str _, h => by simpa [Im] using h
  | _, .tuple ds, h => by
    simp only [Im] at h ⊢
    obtain ⟨a, vs, e, ha, hl⟩ := h
    exact ⟨a, vs, e, t _ _ ha, ImL.mono t ds hl⟩
  | _, .list _, h => by simp [Im] at h
  | _, .dict _, h => by simp [Im] at h
theorem ImL.mono {H H' : Hp} (t : ∀ b xs, H b = some (.tup xs) → H' b = some (.tup xs)) : ∀ {vs : List V} (ds : List PyData), ImL H vs ds → ImL H' vs ds
  | [], [], _ => by simp [ImL]
  | v :: vs, d :: ds, h => by
    simp only [ImL] at h ⊢
    exact ⟨Im.mono t d h.1, ImL.mono t ds h.2⟩
  | [], _ :: _, h => by simp [ImL] at h
  | _ :: _, [], h => by simp [ImL] at h
end
mutual
theorem Im.dp {K : PySem.W.Frag} {H : Hp} : ∀ {v : V} (d : PyData), Im H v d → Dp K H v d
  | _, .none, h => by simp only [Im] at h; subst h; exact .non
  | _, .bool _, h => by simp only [Im] at h; subst h; exact .bl _
  | _, .int _, h => by simp only [Im] at h; subst h; exact .int _
  | _, .str _, h => by simp only [Im] at h; subst h; exact .str _
  | _, .tuple ds, h => by
    simp only [Im] at h
    obtain ⟨a, vs, e, ha, hl⟩ := h
    subst e
    exact .tup (SqT.of ha) (ImL.dp ds hl)
  | _, .list _, h => by simp [Im] at h
  | _, .dict _, h => by simp [Im] at h
theorem ImL.dp {K : PySem.W.Frag} {H : Hp} : ∀ {vs : List V} (ds : List PyData), ImL H vs ds → DpAll K H vs ds
  | [], [], _ => .nil
  | v :: vs, d :: ds, h => by
    simp only [ImL] at h
    exact .cons (Im.dp d h.1) (ImL.dp ds h.2)
  | [], _ :: _, h => by simp [ImL] at h
  | _ :: _, [], h => by simp [ImL] at h
end
theorem ImL.length {H : Hp} : ∀ {vs : List V} {ds : List PyData}, ImL H vs ds → vs.length = ds.length
  | [], [], _ => rfl
  | v :: vs, d :: ds, h => by
    simp only [ImL] at h
    simp [ImL.length h.2]
  | [], _ :: _, h => by simp [ImL] at h
  | _ :: _, [], h => by simp [ImL] at h
theorem ImL.get {H : Hp} : ∀ {vs : List V} {ds : List PyData} {i : Nat} {v : V}, ImL H vs ds → vs[i]? = some v → ∃ d, ds[i]? = some d ∧ Im H v d
  | [], [], _, _, _, e => by simp at e
  | v :: vs, d :: ds, 0, w, h, e => by
    simp only [ImL] at h
    simp at e
    subst e
    exact ⟨d, rfl, h.1⟩
  | v :: vs, d :: ds, i + 1, w, h, e => by
    simp only [ImL] at h
    obtain ⟨x, h1, h2⟩ := ImL.get (i := i) h.2 (by simpa using e)
    exact ⟨x, by simpa using h1, h2⟩
  | [], _ :: _, _, _, h, _ => by simp [ImL] at h
  | _ :: _, [], _, _, h, _ => by simp [ImL] at h
theorem ImL.get' {H : Hp} {vs : List V} {ds : List PyData} {i : Nat} {d : PyData} (h : ImL H vs ds) (e : ds[i]? = some d) : ∃ v, vs[i]? = some v ∧ Im H v d := by
  have hl := h.length
  have hi : i < ds.length := by
    rcases Nat.lt_or_ge i ds.length with h1 | h1
    · exact h1
    · rw [List.getElem?_eq_none h1] at e; cases e
  have hv : vs[i]? = some vs[i] := List.getElem?_eq_getElem (by omega)
  obtain ⟨d', h1, h2⟩ := h.get hv
  rw [e] at h1
  cases h1
  exact ⟨_, hv, h2⟩
theorem ImL.append {H : Hp} : ∀ {vs : List V} {ds : List PyData} {ws : List V} {es : List PyData}, ImL H vs ds → ImL H ws es → ImL H (vs ++ ws) (ds ++ es)
  | [], [], _, _, _, q => q
  | v :: vs, d :: ds, _, _, h, q => by
    simp only [ImL] at h
    simp only [List.cons_append, ImL]
    exact ⟨h.1, ImL.append h.2 q⟩
  | [], _ :: _, _, _, h, _ => by simp [ImL] at h
  | _ :: _, [], _, _, h, _ => by simp [ImL] at h
theorem ImL.take {H : Hp} : ∀ {vs : List V} {ds : List PyData} (n : Nat), ImL H vs ds → ImL H (vs.take n) (ds.take n)
  | _, _, 0, _ => by simp [ImL]
  | [], [], n + 1, h => by simp [ImL]
  | v :: vs, d :: ds, n + 1, h => by
    simp only [ImL] at h
    simp only [List.take_succ_cons, ImL]
    exact ⟨h.1, ImL.take n h.2⟩
  | [], _ :: _, _ + 1, h => by simp [ImL] at h
  | _ :: _, [], _ + 1, h => by simp [ImL] at h
theorem ImL.drop {H : Hp} : ∀ {vs : List V} {ds : List PyData} (n : Nat), ImL H vs ds → ImL H (vs.drop n) (ds.drop n)
  | _, _, 0, h => h
  | [], [], n + 1, h => by simp [ImL]
  | v :: vs, d :: ds, n + 1, h => by
    simp only [ImL] at h
    simp only [List.drop_succ_cons]
    exact ImL.drop n h.2
  | [], _ :: _, _ + 1, h => by simp [ImL] at h
  | _ :: _, [], _ + 1, h => by simp [ImL] at h
theorem ImL.ints {H : Hp} : ∀ (ns : List Int), ImL H (ns.map V.int) (ns.map PyData.int)
  | [] => by simp [ImL]
  | n :: ns => by simp only [List.map_cons, ImL, Im]; exact ⟨trivial, ImL.ints ns⟩
theorem Im.tup {H : Hp} {a : Addr} {vs : List V} {ds : List PyData} (h : H a = some (.tup vs)) (l : ImL H vs ds) : Im H (.ref a) (.tuple ds) := by
  simp only [Im]; exact ⟨a, vs, rfl, h, l⟩
theorem Im.int' {H : Hp} {i : Int} : Im H (.int i) (.int i) := by simp [Im]

/-! ### keeping: transport along Same and KL -/
section
variable {m l : Addr} {H H' : Hp}
theorem sm_at {o : HO} {b : Addr} (s : Same H H') (h : H b = some o) : H' b = some o := s b o h
theorem kl_at {o : HO} {b : Addr} (s : KL m H H') (n : b ≠ m) (h : H b = some o) : H' b = some o := s.keep b o n h
theorem kl_tup {b : Addr} {xs : List V} (s : KL m H H') (h : H b = some (.tup xs)) : H' b = some (.tup xs) := s.tup b xs h
theorem kl_ins {b C dx : Addr} {fs : List (Str × V)} (s : KL m H H') (h : H b = some (.ins C dx fs)) : H' b = some (.ins C dx fs) := s.ins b C dx fs h
theorem sm_im {v : V} {d : PyData} (s : Same H H') (h : Im H v d) : Im H' v d := Im.mono (fun b xs e => s b _ e) d h
theorem kl_im {v : V} {d : PyData} (s : KL m H H') (h : Im H v d) : Im H' v d := Im.mono s.tup d h
theorem sm_iml {v : List V} {d : List PyData} (s : Same H H') (h : ImL H v d) : ImL H' v d := ImL.mono (fun b xs e => s b _ e) d h
theorem kl_iml {v : List V} {d : List PyData} (s : KL m H H') (h : ImL H v d) : ImL H' v d := ImL.mono s.tup d h
theorem sm_sql {K : PySem.W.Frag} {a : Addr} {xs : List V} (s : Same H H') (h : SqL K H a xs) : SqL K H' a xs := s.seq h
theorem kl_sql {K : PySem.W.Frag} {a : Addr} {xs : List V} (s : KL m H H') (n : a ≠ m) (h : SqL K H a xs) : SqL K H' a xs := by
  rcases h with (h | ⟨o, h⟩) | h
  · exact .inl (.inl (s.keep _ _ n h))
  · exact .inl (.inr ⟨o, s.keep _ _ n h⟩)
  · exact .inr h
end

/-! ### the law's hand: a list that draws change -/
def Hand (H : Hp) (m c : Addr) : Prop := ∃ (i h s k : Int) (cells : List Int), H m = some (.lst [.ref c, .int i, .int h, .int s, .int k]) ∧ H c = some (.lst (cells.map V.int)) ∧ c ≠ m ∧ 0 ≤ i
theorem sm_hand {m c : Addr} {H H' : Hp} (s : Same H H') (h : Hand H m c) : Hand H' m c := by
  obtain ⟨i, x, y, z, cells, e, q, n, i0⟩ := h
  exact ⟨i, x, y, z, cells, s _ _ e, s _ _ q, n, i0⟩
theorem hand_ne {H : Hp} {m c l : Addr} (h : H l = none) (hd : Hand H m c) : m ≠ l ∧ c ≠ l := by
  obtain ⟨i, x, y, z, cells, e, q, n, i0⟩ := hd
  exact ⟨ne_fresh' h e, ne_fresh' h q⟩
theorem kl_hand {m c l : Addr} {H0 H H' : Hp} (s : KL l H H') (h0 : H0 l = none) (hd : Hand H0 m c) (h : Hand H m c) : Hand H' m c := by
  obtain ⟨n1, n2⟩ := hand_ne h0 hd
  obtain ⟨i, x, y, z, cells, e, q, n, i0⟩ := h
  exact ⟨i, x, y, z, cells, s.keep _ _ n1 e, s.keep _ _ n2 q, n, i0⟩
end QW

namespace QW
open PySem L2

/-! ### readings, one lemma a construct -/
abbrev oAdd : R2 := rI0 fun i j => .int (i + j)
abbrev oSub : R2 := rI0 fun i j => .int (i - j)
abbrev oMul : R2 := rI IntMulOk fun i j => .int (i * j)
theorem op_mulA {X : Cx} : OpR X (binaryOp .Mult) oMul := opI fun _ _ _ _ _ _ _ hc q => PyProof.Rows.mul_int q hc
theorem mul_wide {i j : Int} {a b : Nat} (ha : i.natAbs < 2 ^ a) (hb : j.natAbs < 2 ^ b) (h : a + b ≤ 134217728) : IntMulOk i j := (mulx_ok ha hb h).ok
abbrev oDiv : R2 := rI CDivW fun i j => .int (i / j)
abbrev oMod : R2 := rI (fun _ j => 0 < j) fun i j => .int (i % j)
abbrev oPow : R2 := rI CPow fun i j => .int (i ^ j.toNat)
abbrev oShl : R2 := rI CPow fun i j => .int (i * 2 ^ j.toNat)
abbrev oAnd : R2 := rI0 fun i j => .int (Builtin.bitAnd i j)
abbrev oLt : R2 := rI0 fun i j => .bl (decide (i < j))
abbrev oLe : R2 := rI0 fun i j => .bl (decide (i ≤ j))
abbrev oGt : R2 := rI0 fun i j => .bl (decide (j < i))
abbrev oGe : R2 := rI0 fun i j => .bl (decide (j ≤ i))
abbrev oIsN : R2 := fun x y H Q => y = .non ∧ Q (.bl (decide (x = .non))) H
abbrev oNotN : R2 := fun x y H Q => y = .non ∧ Q (.bl (!decide (x = .non))) H
abbrev uNeg : V → Hp → VK → Prop := rU fun i => .int (-i)
abbrev cLen (K : PySem.W.Frag) : List V → Hp → VK → Prop := fun xs H Q => ∃ x n, xs = [x] ∧ LenV K x H n ∧ Q (V.int (n : Nat)) H
abbrev cAbs : List V → Hp → VK → Prop := fun xs H Q => ∃ i, xs = [.int i] ∧ Q (.int (if i < 0 then -i else i)) H
abbrev cMax2 : List V → Hp → VK → Prop := fun xs H Q => ∃ i j, xs = [.int i, .int j] ∧ Q (.int (if j > i then j else i)) H
abbrev cMin2 : List V → Hp → VK → Prop := fun xs H Q => ∃ i j, xs = [.int i, .int j] ∧ Q (.int (if j < i then j else i)) H
abbrev cInt1 : List V → Hp → VK → Prop := fun xs H Q => (∃ i, xs = [.int i] ∧ Q (.int i) H) ∨ ∃ k, xs = [.bl k] ∧ Q (.int (if k then 1 else 0)) H
abbrev cTup (K : PySem.W.Frag) : List V → Hp → VK → Prop := fun xs H Q => ∃ p ys, xs = [.ref p] ∧ ((SqL K H p ys ∧ ∀ l, H l = none → Q (.ref l) (upd H l (.tup ys))) ∨ (SqT K H p ys ∧ Q (.ref p) H))
abbrev cList (K : PySem.W.Frag) : List V → Hp → VK → Prop := fun xs H Q => ∃ p ys, xs = [.ref p] ∧ (SqL K H p ys ∨ SqT K H p ys) ∧ ∀ l, H l = none → Q (.ref l) (upd H l (.lst ys))
def rLcm : List V → Hp → VK → Prop := fun vs H Q => ∃ a b : Int, vs = [.int a, .int b] ∧ 0 < a ∧ 0 < b ∧ a.natAbs.log2 < 13000 ∧ b.natAbs.log2 < 13000 ∧ Q (.int ((Nat.lcm a.natAbs b.natAbs : Nat) : Int)) H

section
variable {K : PySem.W.Frag} {D : Ends} {σ : St} {H : Hp} {Q : VK}
theorem i_seq {t u : TS} (h : t { D with nx := u D } σ H) : tSeq t u D σ H := h
theorem i_cut {t u : TS} (R : St → Hp → Prop) (h1 : ∀ N : St → Hp → Prop, (∀ σ H, R σ H → N σ H) → t { D with nx := N } σ H) (h2 : ∀ σ H, R σ H → u D σ H) : tSeq t u D σ H := h1 (u D) h2
theorem i_set {te : TE} {i : Nat} (h : te σ H (fun x H1 => D.nx (σ.set i (some x)) H1)) : tAsg te (gName i) D σ H := h
theorem i_asg {te : TE} {g : TG} (h : te σ H (fun x H1 => g x σ H1 D.nx)) : tAsg te g D σ H := h
theorem i_drop {te : TE} (h : te σ H fun _ H1 => D.nx σ H1) : tDrop te D σ H := h
theorem i_ret {te : TE} (h : te σ H D.rt) : tRet te D σ H := h
theorem i_next (h : D.nx σ H) : tNext D σ H := h
theorem i_break (h : D.bk σ H) : tBreak D σ H := h
theorem i_cont (h : D.ct σ H) : tCont D σ H := h
theorem i_ifS {c : TT} {t u : TS} (h : c σ H fun b H1 => if b = true then t D σ H1 else u D σ H1) : tIfS c t u D σ H := h
theorem i_var {i : Nat} {v : V} (h : σ[i]? = some (some v)) (q : Q v H) : tVar i σ H Q := ⟨v, h, q⟩
theorem i_c {v : V} (q : Q v H) : tC v σ H Q := q
theorem i_op {r : R2} {ta tb : TE} (h : ta σ H fun x H1 => tb σ H1 fun y H2 => r x y H2 Q) : tOp r ta tb σ H Q := h
theorem i_un {r : V → Hp → VK → Prop} {ta : TE} (h : ta σ H fun x H1 => r x H1 Q) : tUn r ta σ H Q := h
theorem i_rI0 {g : Int → Int → V} {i j : Int} (q : Q (g i j) H) : rI0 g (.int i) (.int j) H Q := ⟨i, j, rfl, rfl, q⟩
theorem i_rI {C : Int → Int → Prop} {g : Int → Int → V} {i j : Int} (c : C i j) (q : Q (g i j) H) : rI C g (.int i) (.int j) H Q := ⟨i, j, rfl, rfl, c, q⟩
theorem i_rU {g : Int → V} {i : Int} (q : Q (g i) H) : rU g (.int i) H Q := ⟨i, rfl, q⟩
theorem i_eq {x y : V} (hs : scal x y = true) (q : Q (.bl (decide (x = y))) H) : rEq x y H Q := ⟨hs, q⟩
theorem i_ne {x y : V} (hs : scal x y = true) (q : Q (.bl (!decide (x = y))) H) : rNe x y H Q := ⟨hs, q⟩
theorem i_eqD {x y : V} {d e : PyData} (h1 : Im H x d) (h2 : Im H y e) (s1 : SeqAt.shaped d = true) (s2 : SeqAt.shaped e = true) (q : Q (.bl (PyData.eqv d e)) H) : rEqD K x y H Q := ⟨d, e, Im.dp d h1, Im.dp e h2, s1, s2, q⟩
theorem i_neD {x y : V} {d e : PyData} (h1 : Im H x d) (h2 : Im H y e) (s1 : SeqAt.shaped d = true) (s2 : SeqAt.shaped e = true) (q : Q (.bl (!PyData.eqv d e)) H) : rNeD K x y H Q := ⟨d, e, Im.dp d h1, Im.dp e h2, s1, s2, q⟩
theorem i_test {te : TE} {QB : Bool → Hp → Prop} (h : te σ H fun x H' => ∃ k, x = .bl k ∧ QB k H') : tTest te σ H QB := h
theorem i_b {te : TE} {QB : Bool → Hp → Prop} (h : te σ H fun x H1 => ∃ c, x = .bl c ∧ QB c H1) : tB te σ H QB := h
theorem i_bk {QB : Bool → Prop} {k : Bool} (h : QB k) : ∃ c, V.bl k = V.bl c ∧ QB c := ⟨k, rfl, h⟩
theorem i_and {t u : TT} {QB : Bool → Hp → Prop} (h : t σ H fun c H1 => if c = true then u σ H1 QB else QB false H1) : tAnd t u σ H QB := h
theorem i_or {t u : TT} {QB : Bool → Hp → Prop} (h : t σ H fun c H1 => if c = true then QB true H1 else u σ H1 QB) : tOr t u σ H QB := h
theorem i_not {t : TT} {QB : Bool → Hp → Prop} (h : t σ H fun c H1 => QB (!c) H1) : tNot t σ H QB := h
theorem i_andV {ta tb : TE} (h : ta σ H fun x H1 => ∃ c, x = .bl c ∧ if c = true then tb σ H1 Q else Q (.bl false) H1) : tAndV ta tb σ H Q := h
theorem i_orV {ta tb : TE} (h : ta σ H fun x H1 => ∃ c, x = .bl c ∧ if c = true then Q (.bl true) H1 else tb σ H1 Q) : tOrV ta tb σ H Q := h
theorem i_notV {ta : TE} (h : ta σ H fun x H1 => ∃ c, x = .bl c ∧ Q (.bl (!c)) H1) : tNotV ta σ H Q := h
theorem i_ifE {t : TT} {ta tb : TE} (h : t σ H fun c H1 => if c = true then ta σ H1 Q else tb σ H1 Q) : tIf t ta tb σ H Q := h
theorem i_chain {r r' : R2} {ta tb tc : TE} (h : ta σ H fun x H1 => tb σ H1 fun y H2 => r x y H2 fun z H3 => ∃ k, z = .bl k ∧ (if k = true then tc σ H3 fun w' H4 => r' y w' H4 Q else Q (.bl false) H3)) : tChain r r' ta tb tc σ H Q := h
theorem i_nil {QA : List V → Hp → Prop} (q : QA [] H) : tNil σ H QA := q
theorem i_cons {ta : TE} {tr : TA} {QA : List V → Hp → Prop} (h : ta σ H fun x H1 => tr σ H1 fun xs H2 => QA (x :: xs) H2) : tCons ta tr σ H QA := h
def NewO (n : Nat) (H : Hp) (o : HO) (Q : VK) : Prop := n ≤ sizeLine ∧ ∀ p, H p = none → Q (.ref p) (upd H p o)
theorem i_newO {o : HO} {n : Nat} (hn : n ≤ sizeLine) (q : ∀ p H', H p = none → Same H H' → H' p = some o → Q (.ref p) H') : NewO n H o Q := ⟨hn, new_obj q⟩
theorem i_tupE {t : TA} (h : t σ H fun xs H1 => NewO xs.length H1 (.tup xs) Q) : tTup t σ H Q := h
theorem i_lstE {t : TA} (h : t σ H fun xs H1 => NewO xs.length H1 (.lst xs) Q) : tLst t σ H Q := h
theorem i_new {o : HO} {n : Nat} (hn : n ≤ sizeLine) (q : ∀ p H', H p = none → Same H H' → H' p = some o → Q (.ref p) H') : n ≤ sizeLine ∧ ∀ p, H p = none → Q (.ref p) (upd H p o) := ⟨hn, new_obj q⟩
theorem i_call {sp : Sp} {t : TA} {E : XK} (h : t σ H fun vs H1 => sp vs H1 Q E) (mono : ∀ {H : Hp} {QA QA' : List V → Hp → Prop}, (∀ xs H, QA xs H → QA' xs H) → t σ H QA → t σ H QA') : tCall sp [] E t σ H Q :=
  mono (fun xs H1 q => by rw [List.append_nil]; exact q) h
theorem i_callE {sp : Sp} {t : TA} {E : XK} (h : t σ H fun vs H1 => sp (vs ++ []) H1 Q E) : tCall sp [] E t σ H Q := h
def MakeO (Cc : Addr) (sp : Sp) (vs : List V) (H1 : Hp) (Q : VK) (E : XK) : Prop := ∀ x dx, H1 x = none → H1 dx = none → dx ≠ x → sp (.ref x :: (vs ++ [])) (upd (upd H1 dx (.own x)) x (.ins Cc dx [])) (fun v H2 => v = .non ∧ Q (.ref x) H2) E
theorem i_make {Cc : Addr} {sp : Sp} {t : TA} {E : XK} (h : t σ H fun vs H1 => MakeO Cc sp vs H1 Q E) : tMake Cc sp [] E t σ H Q := h
theorem makeO_of {Cc : Addr} {sp : Sp} {vs : List V} {E : XK} (h : ∀ x dx H', H x = none → Same H H' → H' x = some (.ins Cc dx []) → sp (.ref x :: (vs ++ [])) H' (fun v H2 => v = .non ∧ Q (.ref x) H2) E) : MakeO Cc sp vs H Q E :=
  fun x dx nx nd ne => h x dx _ nx (fun b u hb => by rw [upd_ne (ne_of_none hb nx), upd_ne (ne_of_none hb nd)]; exact hb) upd_same
theorem i_cb {r : List V → Hp → VK → Prop} {t : TA} (h : t σ H fun vs H1 => r vs H1 Q) : tCB r t σ H Q := h
theorem i_len {p : Addr} {xs : List V} (h : H p = some (.lst xs)) (q : Q (.int (xs.length : Nat)) H) : cLen K [.ref p] H Q := ⟨_, _, rfl, .inl ⟨xs, SqL.of h, rfl⟩, q⟩
theorem i_lenT {p : Addr} {xs : List V} (h : H p = some (.tup xs)) (q : Q (.int (xs.length : Nat)) H) : cLen K [.ref p] H Q := ⟨_, _, rfl, .inr ⟨xs, SqT.of h, rfl⟩, q⟩
theorem i_abs {i : Int} (q : Q (.int (i.natAbs : Nat)) H) : cAbs [.int i] H Q := ⟨i, rfl, by
  have e : (if i < 0 then -i else i) = (i.natAbs : Nat) := by split <;> omega
  rw [e]; exact q⟩
theorem i_int1 {i : Int} (q : Q (.int i) H) : cInt1 [.int i] H Q := .inl ⟨i, rfl, q⟩
theorem i_max2 {i j : Int} (q : Q (.int (max i j)) H) : cMax2 [.int i, .int j] H Q := ⟨i, j, rfl, by
  have e : (if j > i then j else i) = max i j := by rw [Int.max_def]; split <;> split <;> omega
  rw [e]; exact q⟩
theorem i_min2 {i j : Int} (q : Q (.int (min i j)) H) : cMin2 [.int i, .int j] H Q := ⟨i, j, rfl, by
  have e : (if j < i then j else i) = min i j := by rw [Int.min_def]; split <;> split <;> omega
  rw [e]; exact q⟩
theorem i_ctupL {p : Addr} {ys : List V} (h : H p = some (.lst ys)) (q : ∀ l H', H l = none → Same H H' → H' l = some (.tup ys) → Q (.ref l) H') : cTup K [.ref p] H Q := ⟨p, ys, rfl, .inl ⟨SqL.of h, new_obj q⟩⟩
theorem i_ixL {p : Addr} {xs : List V} {i : Int} {v : V} (h : H p = some (.lst xs)) (e : atI xs i = some v) (q : Q v H) : rIxL K (.ref p) (.int i) H Q := ⟨p, xs, i, v, rfl, rfl, SqL.of h, e, q⟩
theorem atI_i {xs : List V} {i : Int} (h0 : 0 ≤ i) (h1 : i < (xs.length : Nat)) : ∃ v, xs[i.toNat]? = some v ∧ atI xs i = some v := by
  have hl : i.toNat < xs.length := by omega
  refine ⟨xs[i.toNat], List.getElem?_eq_getElem hl, ?_⟩
  unfold atI ixN
  rw [if_pos h0, if_pos h1]
  exact List.getElem?_eq_getElem hl
theorem atI_ints {ns : List Int} {i : Int} (h0 : 0 ≤ i) (h1 : i < (ns.length : Nat)) : ∃ n, ns[i.toNat]? = some n ∧ atI (ns.map V.int) i = some (.int n) := by
  obtain ⟨v, e1, e2⟩ := atI_i (xs := ns.map V.int) h0 (by rw [List.length_map]; exact h1)
  rw [List.getElem?_map] at e1
  cases q : ns[i.toNat]? with
  | none => rw [q] at e1; cases e1
  | some n => rw [q] at e1; cases e1; exact ⟨n, rfl, e2⟩
theorem i_ixT {p : Addr} {xs : List V} {i : Int} {v : V} (h : H p = some (.tup xs)) (e : atI xs i = some v) (q : Q v H) : rIxT K (.ref p) (.int i) H Q := ⟨p, xs, i, v, rfl, rfl, SqT.of h, e, q⟩
theorem i_setL {p : Addr} {xs : List V} {k : Int} {j : Nat} {v : V} {QH : Hp → Prop} (h : H p = some (.lst xs)) (e : ixN xs.length k = some j) (q : ∀ H', KL p H H' → H' p = some (.lst (xs.set j v)) → QH H') : rSetL (.ref p) (.int k) v H QH :=
  ⟨p, xs, k, j, rfl, rfl, h, e, q _ (kl_upd h) upd_same⟩
theorem i_gsub {to ti : TE} {t : TSet} {v : V} {QG : St → Hp → Prop} (h : to σ H fun o H1 => ti σ H1 fun i H2 => t o i v H2 fun H3 => QG σ H3) : gSub to ti t v σ H QG := h
theorem i_gname {i : Nat} {v : V} {QG : St → Hp → Prop} (h : QG (σ.set i (some v)) H) : gName i v σ H QG := h
theorem i_gtup2 {a : Addr} {x y : V} {i j : Nat} {QG : St → Hp → Prop} (h : H a = some (.tup [x, y])) (q : QG ((σ.set i (some x)).set j (some y)) H) : gTup K 2 (gCons (gName i) (gCons (gName j) gNil)) (.ref a) σ H QG :=
  ⟨a, [x, y], rfl, SqT.of h, rfl, x, [y], rfl, y, [], rfl, rfl, q⟩
theorem i_append {l : Addr} {xs : List V} {y : V} (h : H l = some (.lst xs)) (n : xs.length < sizeLine) (q : ∀ H', KL l H H' → H' l = some (.lst (xs ++ [y])) → Q .non H') : rAppend (.ref l) [y] H Q :=
  ⟨l, xs, y, rfl, rfl, h, n, q _ (kl_upd h) upd_same⟩
theorem i_bm {T : String} {r : V → List V → Hp → VK → Prop} {to : TE} {t : TA} (h : to σ H fun x H1 => tyV K T x H1 ∧ t σ H1 fun xs H2 => r x xs H2 Q) : tBM K T r to t σ H Q := h
theorem i_tyL {l : Addr} {xs : List V} {P : Prop} (h : H l = some (.lst xs)) (q : P) : tyV K "list" (.ref l) H ∧ P := ⟨.inl ⟨rfl, _, SqL.of h⟩, q⟩
theorem i_cat {l b : Addr} {xs zs : List V} (h : H l = some (.lst xs)) (h' : H b = some (.lst zs)) (n : xs.length + zs.length ≤ sizeLine) (q : ∀ p H', H p = none → Same H H' → H' p = some (.lst (xs ++ zs)) → Q (.ref p) H') : rCat (.ref l) (.ref b) H Q :=
  ⟨l, b, xs, zs, rfl, rfl, h, h', n, new_obj q⟩
theorem i_sl {r : V → Option Int → Option Int → Hp → VK → Prop} {te : TE} {tl th : TO} (h : te σ H fun x H1 => tl σ H1 fun l H2 => th σ H2 fun u H3 => r x l u H3 Q) : tSl r te tl th σ H Q := h
theorem i_noPart {QO : Option Int → Hp → Prop} (q : QO none H) : tNoPart σ H QO := q
theorem i_part {t : TE} {QO : Option Int → Hp → Prop} (h : t σ H fun x H1 => ∃ i, x = .int i ∧ QO (some i) H1) : tPart t σ H QO := h
theorem i_partI {QO : Int → Prop} {i : Int} (q : QO i) : ∃ j, V.int i = .int j ∧ QO j := ⟨i, rfl, q⟩
theorem i_slL {a : Addr} {xs : List V} {lo hi : Option Int} (h : H a = some (.lst xs)) (q : ∀ p H', H p = none → Same H H' → H' p = some (.lst (cutV xs lo hi)) → Q (.ref p) H') : rSlL K (.ref a) lo hi H Q := ⟨a, xs, rfl, SqL.of h, new_obj q⟩
def RevO (K : PySem.W.Frag) (x : V) (H1 : Hp) (Q : VK) : Prop := ∃ a xs, x = .ref a ∧ SqL K H1 a xs ∧ ∀ p, H1 p = none → Q (.ref p) (upd H1 p (.lst xs.reverse))
theorem i_revL {te : TE} (h : te σ H fun x H1 => RevO K x H1 Q) : tRevL K te σ H Q := h
theorem i_revL' {a : Addr} {xs : List V} (h : H a = some (.lst xs)) (q : ∀ p H', H p = none → Same H H' → H' p = some (.lst xs.reverse) → Q (.ref p) H') : RevO K (.ref a) H Q := ⟨a, xs, rfl, SqL.of h, new_obj q⟩
theorem i_gcd {a b : Int} (q : Q (.int ((Nat.gcd a.natAbs b.natAbs : Nat) : Int)) H) : rGcd [.int a, .int b] H Q := ⟨a, b, rfl, q⟩
theorem i_fld {ta : TE} {f : Str} (h : ta σ H fun x H1 => ∃ a C dx fs v, x = .ref a ∧ H1 a = some (.ins C dx fs) ∧ Cls K C ∧ NoAttr K C f ∧ fs.lookup f = some v ∧ Q v H1) : tFld K ta f σ H Q := h
theorem i_fld' {P : V → Prop} {a C dx : Addr} {fs : List (Str × V)} {v : V} {f : Str} (h : H a = some (.ins C dx fs)) (c : Cls K C) (n : NoAttr K C f) (e : fs.lookup f = some v) (q : P v) : ∃ b C dx fs v, V.ref a = .ref b ∧ H b = some (.ins C dx fs) ∧ Cls K C ∧ NoAttr K C f ∧ fs.lookup f = some v ∧ P v := ⟨a, C, dx, fs, v, rfl, h, c, n, e, q⟩
theorem i_rsum {a : Addr} {ns : List Int} (h : H a = some (.lst (ns.map V.int))) (q : Q (.int ns.sum) H) : rSum K [.ref a] H Q := ⟨a, ns, rfl, SqL.of h, q⟩
theorem i_rall {a : Addr} {bs : List Bool} (h : H a = some (.lst (bs.map V.bl))) (q : Q (.bl (bs.all id)) H) : rAll K [.ref a] H Q := ⟨a, bs, rfl, SqL.of h, q⟩
theorem ite_d {c : Prop} [Decidable c] {A B : Prop} (h1 : c → A) (h2 : ¬ c → B) : if decide c = true then A else B := by
  by_cases h : c
  · rw [decide_eq_true h]; exact iteT (h1 h)
  · rw [decide_eq_false h]; exact iteF (h2 h)
theorem ite_nd {c : Prop} [Decidable c] {A B : Prop} (h1 : ¬ c → A) (h2 : c → B) : if (!decide c) = true then A else B := by
  by_cases h : c
  · rw [decide_eq_true h]; exact iteF (h2 h)
  · rw [decide_eq_false h]; exact iteT (h1 h)
theorem ite_nT {A B : Prop} (h : B) : if (!true) = true then A else B := iteF h
theorem ite_nF {A B : Prop} (h : A) : if (!false) = true then A else B := iteT h
theorem ite_b {c : Bool} {A B : Prop} (h1 : c = true → A) (h2 : c = false → B) : if c = true then A else B := by
  cases c
  · exact iteF (h2 rfl)
  · exact iteT (h1 rfl)
theorem ite_nb {c : Bool} {A B : Prop} (h1 : c = false → A) (h2 : c = true → B) : if (!c) = true then A else B := by
  cases c
  · exact iteT (h1 rfl)
  · exact iteF (h2 rfl)
end

/-! ### loops -/
section
variable {K : PySem.W.Frag} {D : Ends} {σ : St} {H : Hp} {Q : VK}
def ForR (g : TG) (tb : TS) (D : Ends) (σ : St) (vs : List V) (H1 : Hp) : Prop := ∃ j : Int, vs = [.int j] ∧ -(2 ^ 62) ≤ j ∧ j < 2 ^ 62 ∧ ∃ W : Nat → Nat → St → Hp → Prop, (∃ m, W 0 m σ H1) ∧ ∀ i m σ H, W i m σ H →
  ((Itr 0 j.toNat).stop i H ∧ D.nx σ H) ∨ ((Itr 0 j.toNat).go i H ∧ ∃ N : St → Hp → Prop, (∀ σ' H', N σ' H' → ∃ m', m' < m ∧ W (i + 1) m' σ' H') ∧ ∀ x H', (Itr 0 j.toNat).yld i H x H' → g x σ H' fun σ2 H2 => tb { D with nx := N, ct := N, bk := D.nx } σ2 H2)
theorem i_forR {ta : TA} {g : TG} {tb : TS} (h : ta σ H fun vs H1 => ForR g tb D σ vs H1) : tFor (iRng1 ta) g tb D σ H := h
theorem forR_of {k : Nat} {tb : TS} {j : Int} {n : Nat} (Pv : Nat → St → Hp → Prop) (Bk : St → Hp → Prop) (hj : j = (n : Nat)) (hn : n < 4000000000) (h0 : Pv 0 σ H)
    (hs : ∀ (i : Nat) (σ : St) (H : Hp) (N B : St → Hp → Prop), i < n → Pv i σ H → (∀ σ H, Pv (i + 1) σ H → N σ H) → (∀ σ H, Bk σ H → B σ H) → tb { D with nx := N, ct := N, bk := B } (σ.set k (some (.int (i : Nat)))) H)
    (hd : ∀ σ H, Pv n σ H → D.nx σ H) (hb : ∀ σ H, Bk σ H → D.nx σ H) : ForR (gName k) tb D σ [.int j] H := by
  subst hj
  refine ⟨_, rfl, by omega, by omega, ?_⟩
  rw [Int.toNat_natCast]
  refine for_range (lo := 0) (n := n) Pv h0 (fun i σ H hi p => ?_) hd
  have h := hs i σ H (Pv (i + 1)) D.nx hi p (fun _ _ q => q) hb
  have e : (0 : Int) + ((i : Nat) : Int) = (i : Nat) := by omega
  rw [e]
  exact h
def ForT (K : PySem.W.Frag) (g : TG) (tb : TS) (D : Ends) (σ : St) (x : V) (H1 : Hp) : Prop := ∃ a, x = .ref a ∧ (∃ xs, SqT K H1 a xs) ∧ ∃ W : Nat → Nat → St → Hp → Prop, (∃ m, W 0 m σ H1) ∧ ∀ i m σ H, W i m σ H →
  ((Itt K a).stop i H ∧ D.nx σ H) ∨ ((Itt K a).go i H ∧ ∃ N : St → Hp → Prop, (∀ σ' H', N σ' H' → ∃ m', m' < m ∧ W (i + 1) m' σ' H') ∧ ∀ x H', (Itt K a).yld i H x H' → g x σ H' fun σ2 H2 => tb { D with nx := N, ct := N, bk := D.nx } σ2 H2)
theorem i_forT {tl : TE} {g : TG} {tb : TS} (h : tl σ H fun x H1 => ForT K g tb D σ x H1) : tFor (iTup K tl) g tb D σ H := h
theorem forT_of {g : TG} {tb : TS} {a : Addr} {xs : List V} (ha : H a = some (.tup xs)) (Pv : Nat → St → Hp → Prop) (Bk : St → Hp → Prop) (h0 : Pv 0 σ H) (hl : ∀ i σ H', Pv i σ H' → ∀ b ys, H b = some (.tup ys) → H' b = some (.tup ys))
    (hs : ∀ (i : Nat) (x : V) (σ : St) (H : Hp) (N B : St → Hp → Prop), xs[i]? = some x → Pv i σ H → (∀ σ H, Pv (i + 1) σ H → N σ H) → (∀ σ H, Bk σ H → B σ H) → g x σ H fun σ2 H2 => tb { D with nx := N, ct := N, bk := B } σ2 H2)
    (hd : ∀ σ H, Pv xs.length σ H → D.nx σ H) (hb : ∀ σ H, Bk σ H → D.nx σ H) : ForT K g tb D σ (.ref a) H :=
  ⟨a, rfl, ⟨xs, SqT.of ha⟩, for_tup (K := K) (a := a) (xs := xs) Pv h0 (fun i σ H' _ p => SqT.of (hl i σ H' p a xs ha)) (fun i x σ H hi p => hs i x σ H (Pv (i + 1)) D.nx hi p (fun _ _ q => q) hb) hd⟩
/-! ### comprehensions -/
def LcT (K : PySem.W.Frag) (g : TG) (te : TE) (vs : List Nat) (σ : St) (Q : VK) (x : V) (H1 : Hp) : Prop := ∃ a, x = .ref a ∧ (∃ xs, SqT K H1 a xs) ∧ ∀ D, H1 D = none → ∃ W : Nat → Nat → Hp → Prop, (∃ m, W 0 m (upd H1 D (.lst []))) ∧ ∀ i m H, W i m H →
  ((Itt K a).stop i H ∧ Q (.ref D) H) ∨ ((Itt K a).go i H ∧ ∃ Nx : Hp → Prop, (∀ H', Nx H' → ∃ m', m' < m ∧ W (i + 1) m' H') ∧ ∀ x H', (Itt K a).yld i H x H' → g x (wipe σ vs) H' fun σ2 H2 => wipe σ2 vs = wipe σ vs ∧ tYes σ2 H2 fun b H3 =>
    if b = true then te σ2 H3 fun y H4 => ∃ acc, H4 D = some (.lst acc) ∧ acc.length < sizeLine ∧ Nx (upd H4 D (.lst (acc ++ [y]))) else Nx H3)
theorem i_lcT {tl te : TE} {g : TG} {vs : List Nat} (h : tl σ H fun x H1 => LcT K g te vs σ Q x H1) : tLc (iTup K tl) g tYes te vs σ H Q := h
def LcL (K : PySem.W.Frag) (g : TG) (te : TE) (vs : List Nat) (σ : St) (Q : VK) (x : V) (H1 : Hp) : Prop := ∃ a, x = .ref a ∧ (∃ xs, SqL K H1 a xs) ∧ ∀ D, H1 D = none → ∃ W : Nat → Nat → Hp → Prop, (∃ m, W 0 m (upd H1 D (.lst []))) ∧ ∀ i m H, W i m H →
  ((Itl K a).stop i H ∧ Q (.ref D) H) ∨ ((Itl K a).go i H ∧ ∃ Nx : Hp → Prop, (∀ H', Nx H' → ∃ m', m' < m ∧ W (i + 1) m' H') ∧ ∀ x H', (Itl K a).yld i H x H' → g x (wipe σ vs) H' fun σ2 H2 => wipe σ2 vs = wipe σ vs ∧ tYes σ2 H2 fun b H3 =>
    if b = true then te σ2 H3 fun y H4 => ∃ acc, H4 D = some (.lst acc) ∧ acc.length < sizeLine ∧ Nx (upd H4 D (.lst (acc ++ [y]))) else Nx H3)
theorem i_lcL {tl te : TE} {g : TG} {vs : List Nat} (h : tl σ H fun x H1 => LcL K g te vs σ Q x H1) : tLc (iList K tl) g tYes te vs σ H Q := h
/-- what holds between two turns of a comprehension over data -/
def LcI (H : Hp) (Dl : Addr) (es : List PyData) (F : PyData → PyData) (i : Nat) (H1 : Hp) : Prop :=
  (∀ b o, H b = some o → H1 b = some o) ∧ ∃ ys, H1 Dl = some (.lst ys) ∧ ImL H1 ys ((es.take i).map F)
theorem lcI_0 {H : Hp} {Dl : Addr} {es : List PyData} {F : PyData → PyData} (hD : H Dl = none) : LcI H Dl es F 0 (upd H Dl (.lst [])) :=
  ⟨same_upd hD, [], upd_same, by simp [ImL]⟩
theorem lcI_turn {H : Hp} {Dl : Addr} {es : List PyData} {F : PyData → PyData} {i : Nat} {H1 H3 : Hp} {e : PyData} {y : V} (hD : H Dl = none) (hs : es.length < sizeLine) (he : es[i]? = some e) (p : LcI H Dl es F i H1) (s : Same H1 H3) (hy : Im H3 y (F e)) :
    ∃ acc, H3 Dl = some (.lst acc) ∧ acc.length < sizeLine ∧ LcI H Dl es F (i + 1) (upd H3 Dl (.lst (acc ++ [y]))) := by
  obtain ⟨k, ys, h1, h2⟩ := p
  have hl := h2.length
  refine ⟨ys, s _ _ h1, ?_, ?_, ys ++ [y], upd_same, ?_⟩
  · rw [hl, List.length_map, List.length_take]
    omega
  · exact same_loc (Same.trans k s) (kl_upd (s _ _ h1)) hD
  · have kl := kl_upd (ys := ys ++ [y]) (s _ _ h1)
    have e1 : (es.take (i + 1)).map F = (es.take i).map F ++ [F e] := by
      rw [List.take_add_one, he]; simp
    rw [e1]
    exact ImL.append (kl_iml kl (sm_iml s h2)) (by simp only [ImL]; exact ⟨kl_im kl hy, trivial⟩)
theorem lcT_of {g : TG} {te : TE} {vs : List Nat} {a : Addr} {xs : List V} {es : List PyData} (F : PyData → PyData) (ha : H a = some (.tup xs)) (hl : ImL H xs es) (hz : es.length < sizeLine)
    (turn : ∀ (e : PyData) (x : V) (H1 : Hp) (N : V → Hp → Prop), e ∈ es → Same H H1 → Im H1 x e → (∀ y H3, Same H1 H3 → Im H3 y (F e) → N y H3) → g x (wipe σ vs) H1 fun σ2 H2 => wipe σ2 vs = wipe σ vs ∧ te σ2 H2 N)
    (done : ∀ D H1 ys, H D = none → Same H H1 → H1 D = some (.lst ys) → ImL H1 ys (es.map F) → Q (.ref D) H1) : LcT K g te vs σ Q (.ref a) H := by
  refine ⟨a, rfl, ⟨xs, SqT.of ha⟩, fun Dl hD => ?_⟩
  refine lc_tup (K := K) (a := a) (xs := xs) (tt := tYes) (LcI H Dl es F) (lcI_0 hD) (fun i H' _ p => SqT.of (p.1 _ _ ha)) (fun i x H' hx p => ?_) (fun H' p => ?_)
  · obtain ⟨e, he, hi⟩ := hl.get hx
    exact turn e x H' _ (List.mem_of_getElem? he) p.1 (Im.mono (fun b ys q => p.1 b _ q) e hi) (fun y H3 s hy => lcI_turn hD hz he p s hy)
  · obtain ⟨k, ys, h1, h2⟩ := p
    rw [List.take_of_length_le (by rw [hl.length]; exact Nat.le_refl _)] at h2
    exact done Dl H' ys hD k h1 h2
theorem lcL_of {g : TG} {te : TE} {vs : List Nat} {a : Addr} {xs : List V} {es : List PyData} (F : PyData → PyData) (ha : SqL K H a xs) (hl : ImL H xs es) (hz : es.length < sizeLine)
    (turn : ∀ (e : PyData) (x : V) (H1 : Hp) (N : V → Hp → Prop), e ∈ es → Same H H1 → Im H1 x e → (∀ y H3, Same H1 H3 → Im H3 y (F e) → N y H3) → g x (wipe σ vs) H1 fun σ2 H2 => wipe σ2 vs = wipe σ vs ∧ te σ2 H2 N)
    (done : ∀ D H1 ys, H D = none → Same H H1 → H1 D = some (.lst ys) → ImL H1 ys (es.map F) → Q (.ref D) H1) : LcL K g te vs σ Q (.ref a) H := by
  refine ⟨a, rfl, ⟨xs, ha⟩, fun Dl hD => ?_⟩
  refine lc_list (K := K) (a := a) (xs := xs) (tt := tYes) (LcI H Dl es F) (lcI_0 hD) (fun i H' _ p => Same.seq p.1 ha) (fun i x H' hx p => ?_) (fun H' p => ?_)
  · obtain ⟨e, he, hi⟩ := hl.get hx
    exact turn e x H' _ (List.mem_of_getElem? he) p.1 (Im.mono (fun b ys q => p.1 b _ q) e hi) (fun y H3 s hy => lcI_turn hD hz he p s hy)
  · obtain ⟨k, ys, h1, h2⟩ := p
    rw [List.take_of_length_le (by rw [hl.length]; exact Nat.le_refl _)] at h2
    exact done Dl H' ys hD k h1 h2
theorem i_slLq {a : Addr} {xs : List V} {lo hi : Option Int} (h : SqL K H a xs) (q : ∀ p H', H p = none → Same H H' → H' p = some (.lst (cutV xs lo hi)) → Q (.ref p) H') : rSlL K (.ref a) lo hi H Q := ⟨a, xs, rfl, h, new_obj q⟩
theorem cutV_map (ns : List Int) (lo hi : Option Int) : ∃ ms : List Int, cutV (ns.map V.int) lo hi = ms.map V.int ∧ ms.length ≤ ns.length := by
  refine ⟨(ns.drop (HT.sIx (ns.map V.int).length 0 lo)).take (HT.sIx (ns.map V.int).length (ns.map V.int).length hi - HT.sIx (ns.map V.int).length 0 lo), ?_, ?_⟩
  · unfold cutV
    rw [List.map_take, List.map_drop]
  · rw [List.length_take, List.length_drop]
    omega
end

/-! ### calls -/
structure Okd (P : Program) (w : World) (K : PySem.W.Frag) (mg : Str → Option Value) (base : Heap) (k : Nat) (x : Str) (ps : List Str) (sp : Sp) : Prop where
  ex : ∃ f fd, FnOk P w K mg base CX0 k f fd ps sp ∧ mg x = some (.ref f) ∧ PySem.W.keepIn K (.ref f) = true ∧ Binds K fd ps []
section
variable {X : Cx} {x : Str} {p pos : Pos} {e : Expr} {es : List Expr} {t : TA} {k : Nat} {ps : List Str} {sp : Sp}
theorem pe_callD (Dd : Okd X.prog X.w X.K X.mg X.base k x ps sp) (hr : Room k X.A) (ha : PA X (e :: es) t) (hg : Gl X x := by rfl) (hdb : (x == ("__debug__" : Str)) = false := by decide)
    (he : starEach (e :: es) X.env = (false, eval e X.env) :: starEach es X.env := by rfl) (hpl : (backTo pos (starEach es X.env)).any (·.1) = false := by rfl) : PE X (.Call (.Name x p) (e :: es) [] pos) (tCall sp [] E0 t) := by
  obtain ⟨f, fd, F, h1, h2, h3⟩ := Dd.ex
  exact pe_call F hr hg h1 h2 h3 .nil pass0 ha hdb he hpl
end

/-! ### math.lcm of positive numbers -/
theorem log2_div (n : Nat) (h : n.log2 < 13001) : ¬ n.log2 / 30 + 1 > 450 := by omega
theorem max_log2 {a b c : Nat} (ha : a.log2 < c) (hb : b.log2 < c) : (max a b).log2 < c := by
  rcases Nat.le_total a b with h | h
  · rw [Nat.max_eq_right h]; exact hb
  · rw [Nat.max_eq_left h]; exact ha
theorem log2_mul_lt {a b i j : Nat} (ha : a.log2 < i) (hb : b.log2 < j) (h0 : a ≠ 0) (h1 : b ≠ 0) : (a * b).log2 < i + j := by
  have x : a < 2 ^ i := (Nat.log2_lt h0).mp ha
  have y : b < 2 ^ j := (Nat.log2_lt h1).mp hb
  refine (Nat.log2_lt (Nat.mul_ne_zero h0 h1)).mpr ?_
  rw [Nat.pow_add]
  exact Nat.mul_lt_mul'' x y
theorem log2_le {a b : Nat} (h : a ≤ b) (h0 : a ≠ 0) : a.log2 ≤ b.log2 := by
  have hb : b ≠ 0 := by omega
  have y : b < 2 ^ (b.log2 + 1) := (Nat.log2_lt hb).mp (Nat.lt_succ_self _)
  have z : a.log2 < b.log2 + 1 := (Nat.log2_lt h0).mpr (Nat.lt_of_le_of_lt h y)
  omega
section
variable {X : Cx}
theorem cr_lcm : CallR X (.builtin "math.lcm") rLcm := by
  intro pins s σ H vs us Q I r h
  obtain ⟨a, b, rfl, ha, hb, la, lb, q⟩ := h
  obtain ⟨t, u, rfl⟩ := Vals.int2 r
  have e1 : Nat.lcm 1 a.natAbs = a.natAbs := by simp [Nat.lcm]
  have na : a.natAbs ≠ 0 := by omega
  have nb : b.natAbs ≠ 0 := by omega
  have hle : a.natAbs.lcm b.natAbs ≤ a.natAbs * b.natAbs := Nat.le_of_dvd (Nat.mul_pos (by omega) (by omega)) ⟨a.natAbs.gcd b.natAbs, by rw [Nat.mul_comm (Nat.lcm _ _)]; exact (Nat.gcd_mul_lcm _ _).symm⟩
  have hpos : a.natAbs.lcm b.natAbs ≠ 0 := Nat.pos_iff_ne_zero.mp (Nat.lcm_pos (by omega) (by omega))
  have hl : (a.natAbs.lcm b.natAbs).log2 < 26001 := Nat.lt_of_le_of_lt (log2_le hle hpos) (Nat.lt_of_lt_of_le (log2_mul_lt la lb na nb) (by decide))
  have hm : (max a.natAbs b.natAbs).log2 < 13000 := max_log2 la lb
  have hm1 : (max 1 a.natAbs).log2 < 13000 := max_log2 (by decide) la
  have hz : ((((Nat.lcm 1 a.natAbs).lcm b.natAbs : Nat) : Int)).natAbs.log2 < bitsLine := by
    rw [e1, Int.natAbs_natCast, show bitsLine = 134217728 by decide]
    omega
  have g := PySem.W.mg_run_lcm a t b u (by omega) (by omega) hz
  rw [e1] at g
  exact call_function_meets PySem.W.MGF.kind_lcm PySem.W.MGF.plain_lcm PySem.W.MGF.entry_lcm (PySem.W.MGF.args_lcm _ _) g.meets ⟨.int _, H, I.tok _, ⟨_, rfl⟩, q⟩
end
theorem i_lcm {H : Hp} {Q : VK} {a b : Int} (ha : 0 < a) (hb : 0 < b) (la : a.natAbs.log2 < 13000) (lb : b.natAbs.log2 < 13000) (q : Q (.int ((Nat.lcm a.natAbs b.natAbs : Nat) : Int)) H) : rLcm [.int a, .int b] H Q := ⟨a, b, rfl, ha, hb, la, lb, q⟩
/-! ### answers -/
/-- a value that is d, all that stood stands -/
def Ret (H : Hp) (Q : VK) (d : PyData) : Prop := ∀ v H', Same H H' → Im H' v d → Q v H'
/-- the same, the hand at m drawn from -/
def RetM (m c : Addr) (H : Hp) (Q : VK) (d : PyData) : Prop := ∀ v H', KL m H H' → Hand H' m c → Im H' v d → Q v H'
theorem Ret.tup {H : Hp} {Q : VK} {ds : List PyData} {vs : List V} (r : Ret H Q (.tuple ds)) (H1 : Hp) (s : Same H H1) (l : ImL H1 vs ds) : ∀ p H', H1 p = none → Same H1 H' → H' p = some (.tup vs) → Q (.ref p) H' :=
  fun p H' _ s' e => r _ _ (s.trans s') (Im.tup e (sm_iml s' l))
theorem Ret.int {H : Hp} {Q : VK} {i : Int} (r : Ret H Q (.int i)) (H1 : Hp) (s : Same H H1) : Q (.int i) H1 := r _ _ s Im.int'
/-- shaped data -/
def Fl : PyData → Bool
  | .int _ => true
  | _ => false
theorem canAll_of {ds : List PyData} : (∀ d ∈ ds, d.canLay0 = true) → PyData.canLayAll0 ds = true := by
  induction ds with
  | nil => intro _; rfl
  | cons d ds ih =>
    intro h
    simp only [PyData.canLayAll0, Bool.and_eq_true]
    exact ⟨h d List.mem_cons_self, ih fun e he => h e (List.mem_cons_of_mem _ he)⟩
theorem depthAll_of {ds : List PyData} {n : Nat} : (∀ d ∈ ds, d.depth ≤ n) → PyData.depthAll ds ≤ n := by
  induction ds with
  | nil => intro _; exact Nat.zero_le _
  | cons d ds ih =>
    intro h
    simp only [PyData.depthAll]
    exact Nat.max_le.mpr ⟨h d List.mem_cons_self, ih fun e he => h e (List.mem_cons_of_mem _ he)⟩
theorem shaped_tup {ds : List PyData} {n : Nat} (hn : n < 64) (h : ∀ d ∈ ds, d.canLay0 = true ∧ d.depth ≤ n) : SeqAt.shaped (.tuple ds) = true := by
  unfold SeqAt.shaped
  have h1 := canAll_of fun d hd => (h d hd).1
  have h2 := depthAll_of fun d hd => (h d hd).2
  rw [Bool.and_eq_true]
  exact ⟨by simp only [PyData.canLay0]; exact h1, decide_eq_true (by simp only [PyData.depth]; omega)⟩
theorem Im.tup_at' {H : Hp} {v : V} {ds : List PyData} (h : Im H v (.tuple ds)) : ∃ a vs, v = .ref a ∧ H a = some (.tup vs) ∧ ImL H vs ds := by
  simpa only [Im] using h
/-- tuples put together, neither empty -/
theorem i_catT {K : PySem.W.Frag} {H : Hp} {Q : VK} {x y : V} {ds es : List PyData} (h1 : Im H x (.tuple ds)) (h2 : Im H y (.tuple es)) (n1 : ds ≠ []) (n2 : es ≠ []) (hz : ds.length + es.length ≤ sizeLine)
    (q : Ret H Q (.tuple (ds ++ es))) : rCatA K x y H Q := by
  obtain ⟨a, xs, rfl, ha, la⟩ := h1.tup_at'
  obtain ⟨b, ys, rfl, hb, lb⟩ := h2.tup_at'
  have e1 := la.length
  have e2 := lb.length
  refine ⟨a, b, xs, ys, rfl, rfl, SqT.of ha, SqT.of hb, by omega, fun z => ?_, fun _ z => ?_, fun _ _ => new_obj fun p H' hp s e => ?_⟩
  · subst z; exact absurd (List.eq_nil_of_length_eq_zero e1.symm) n1
  · subst z; exact absurd (List.eq_nil_of_length_eq_zero e2.symm) n2
  · exact q _ _ s (Im.tup e (sm_iml s (ImL.append la lb)))
theorem i_isiB {K : PySem.W.Frag} {H : Hp} {Q : VK} {x : V} {t n : String} {b : Bool} (ty : TyX K H x (.type t)) (h : kitB t n = some b) (q : Q (.bl b) H) : rIsi K [x, .ty n] H Q := ⟨x, .ty n, .type t, .type n, b, rfl, .ty n, ty, kit_ty h, q⟩
theorem kit_ii : kitB "int" "int" = some true := by decide +kernel
theorem kit_ib : kitB "int" "bool" = some false := by decide +kernel
theorem kit_tt : kitB "tuple" "tuple" = some true := by decide +kernel
theorem i_isi_ii {K : PySem.W.Frag} {H : Hp} {Q : VK} {i : Int} (q : Q (.bl true) H) : rIsi K [.int i, .ty "int"] H Q := i_isiB (.base (.int i)) kit_ii q
theorem i_isi_ib {K : PySem.W.Frag} {H : Hp} {Q : VK} {i : Int} (q : Q (.bl false) H) : rIsi K [.int i, .ty "bool"] H Q := i_isiB (.base (.int i)) kit_ib q
theorem i_isi_tt {K : PySem.W.Frag} {H : Hp} {Q : VK} {a : Addr} {xs : List V} (h : H a = some (.tup xs)) (q : Q (.bl true) H) : rIsi K [.ref a, .ty "tuple"] H Q := i_isiB (.base (.tup h)) kit_tt q
/-- list slices -/
theorem cutV_from {xs : List V} {i : Int} (h0 : 0 ≤ i) (h1 : i ≤ (xs.length : Nat)) : cutV xs (some i) none = xs.drop i.toNat := by
  have e : HT.sIx xs.length 0 (some i) = i.toNat := by
    obtain ⟨k, rfl⟩ : ∃ k : Nat, i = (k : Nat) := ⟨i.toNat, by omega⟩
    rw [HT.sIx_nat]
    omega
  have e2 : HT.sIx xs.length xs.length none = xs.length := rfl
  unfold cutV
  rw [e, e2]
  exact List.take_of_length_le (by rw [List.length_drop]; exact Nat.le_refl _)
theorem cutV_to {xs : List V} {i : Int} (h0 : 0 ≤ i) (h1 : i ≤ (xs.length : Nat)) : cutV xs none (some i) = xs.take i.toNat := by
  have e : HT.sIx xs.length xs.length (some i) = i.toNat := by
    obtain ⟨k, rfl⟩ : ∃ k : Nat, i = (k : Nat) := ⟨i.toNat, by omega⟩
    rw [HT.sIx_nat]
    omega
  have e2 : HT.sIx xs.length 0 none = 0 := rfl
  unfold cutV
  rw [e, e2, List.drop_zero]
  rfl
/-! ### fractions as data -/
def fr (q : Rat) : PyData := .tuple [.int q.num, .int (q.den : Nat)]
theorem fr_can (q : Rat) : (fr q).canLay0 = true ∧ (fr q).depth ≤ 1 := ⟨rfl, by simp [fr, PyData.depth, PyData.depthAll]⟩
theorem fr_shaped (q : Rat) : SeqAt.shaped (fr q) = true := by
  unfold SeqAt.shaped
  rw [(fr_can q).1]
  have := (fr_can q).2
  simp only [Bool.true_and, decide_eq_true_eq]
  omega
theorem frs_shaped (qs : List Rat) : SeqAt.shaped (.tuple (qs.map fr)) = true := shaped_tup (n := 1) (by decide) fun d hd => by
  obtain ⟨q, _, rfl⟩ := List.mem_map.mp hd
  exact fr_can q
theorem rat_ext {a b : Rat} (h1 : a.num = b.num) (h2 : a.den = b.den) : a = b := by
  cases a; cases b; simp_all
theorem eqv_fr (a b : Rat) : PyData.eqv (fr a) (fr b) = decide (a = b) := by
  simp only [fr, PyData.eqv, PyData.eqvAll, Bool.and_true]
  by_cases h : a = b
  · subst h; simp
  · rw [decide_eq_false h]
    by_cases h1 : a.num = b.num
    · by_cases h2 : (a.den : Int) = (b.den : Int)
      · exact absurd (rat_ext h1 (by omega)) h
      · simp [h1, h2]
    · simp [h1]
theorem eqvAll_frs : ∀ (as bs : List Rat), PyData.eqvAll (as.map fr) (bs.map fr) = decide (as = bs)
  | [], [] => by simp [PyData.eqvAll]
  | a :: as, b :: bs => by
    simp only [List.map_cons, PyData.eqvAll, eqv_fr, eqvAll_frs as bs]
    by_cases h : a = b <;> by_cases h2 : as = bs <;> simp [h, h2]
  | [], _ :: _ => by simp [PyData.eqvAll]
  | _ :: _, [] => by simp [PyData.eqvAll]
theorem eqv_frs (as bs : List Rat) : PyData.eqv (.tuple (as.map fr)) (.tuple (bs.map fr)) = decide (as = bs) := by
  simp only [PyData.eqv]; exact eqvAll_frs as bs
theorem Im.fr_at {H : Hp} {v : V} {q : Rat} (h : Im H v (fr q)) : ∃ a, v = .ref a ∧ H a = some (.tup [.int q.num, .int (q.den : Nat)]) := by
  simp only [fr, Im] at h
  obtain ⟨a, vs, e, ha, hl⟩ := h
  match vs, hl with
  | [x, y], hl =>
    simp only [ImL, Im] at hl
    obtain ⟨rfl, rfl, _⟩ := hl
    exact ⟨a, e, ha⟩
theorem Im.fr_of {H : Hp} {a : Addr} {q : Rat} (h : H a = some (.tup [.int q.num, .int (q.den : Nat)])) : Im H (.ref a) (fr q) := by
  simp only [fr, Im, ImL]; exact ⟨a, _, rfl, h, rfl, rfl, trivial⟩
theorem Im.tup_at {H : Hp} {v : V} {ds : List PyData} (h : Im H v (.tuple ds)) : ∃ a vs, v = .ref a ∧ H a = some (.tup vs) ∧ ImL H vs ds := by
  simpa only [Im] using h
end QW
namespace QW
open PySem L2
/-! ### what the top has written, def by def -/
def DefAt (K : PySem.W.Frag) (x : Str) (st : Stmt) : Prop := ∃ (f : Addr) (oc : Value) (od : Option Addr) (kV doc pm : Value) (an : Option Addr) (cdv ct : Value) (osl : Array (Option Value)),
  PySem.W.nsIn K mainGlobals x = some (some (.ref f)) ∧ K.lookup f = some ⟨oc, od, .func (PySem.W.fnOf x x (defArgs st) (defBody st) (defScope st) .none kV doc pm an cdv ct), osl⟩ ∧ PySem.W.codeIn K cdv x = true ∧ PySem.W.keepIn K (.ref f) = true
/-- a method m (by its long name q) of the class at Cc -/
def MethAt (K : PySem.W.Frag) (Cc : Addr) (m q : Str) (st : Stmt) : Prop := ∃ (f : Addr) (oc : Value) (od : Option Addr) (kV doc pm : Value) (an : Option Addr) (cdv ct : Value) (osl : Array (Option Value)),
  PySem.W.findIn K (.ref Cc) m = some (some (.ref f)) ∧ PySem.W.isFn K (.ref f) = true ∧ K.lookup f = some ⟨oc, od, .func (PySem.W.fnOf m q (defArgs st) (defBody st) (defScope st) .none kV doc pm an cdv ct), osl⟩ ∧ PySem.W.codeIn K cdv q = true ∧ PySem.W.keepIn K (.ref f) = true
/-- how the arguments of a def without defaults bind -/
def BindsBy (x q : Str) (st : Stmt) (ps : List Str) : Prop := ∀ (kV doc pm : Value) (an : Option Addr) (cdv ct : Value) (us : List Value), us.length = ps.length →
  bindArgs (PySem.W.fnOf x q (defArgs st) (defBody st) (defScope st) .none kV doc pm an cdv ct) ⟨us, []⟩ = pure (ps.zip us)
section
variable {P : Program} {w : World} {K : PySem.W.Frag} {mg : Str → Option Value} {base h : Heap} {k : Nat} {x q : Str} {ps : List Str} {sp : Sp} {st : Stmt} {Cc : Addr}
theorem DefAt.okd (D : DefAt K x st) (X : K.In h) (G : h.Ns mainGlobals mg) (hb : BindsBy x x st ps) (ok : ∀ f fd, Fun K x x st f fd → FnOk P w K mg base CX0 k f fd ps sp) : Okd P w K mg base k x ps sp := by
  obtain ⟨f, oc, od, kV, doc, pm, an, cdv, ct, osl, a, l, c, kp⟩ := D
  have F := fun_mk (st := st) l c kp
  exact ⟨⟨f, _, ok _ _ F, PySem.W.mg_of X G a, kp, F.binds hb⟩⟩
structure Okm (P : Program) (w : World) (K : PySem.W.Frag) (mg : Str → Option Value) (base : Heap) (k : Nat) (x : Str) (Cc : Addr) (ps : List Str) (sp : Sp) : Prop where
  ex : ∃ f fd, Mk K Cc f ∧ FnOk P w K mg base CX0 k f fd ps sp ∧ mg x = some (.ref Cc) ∧ Binds K fd ps []
theorem MethAt.okm (D : MethAt K Cc "__init__" q st) (hm : mg x = some (.ref Cc)) (mk : PySem.W.makesIn K Cc = true) (kc : PySem.W.keepIn K (.ref Cc) = true) (hb : BindsBy "__init__" q st ps) (ok : ∀ f fd, Fun K "__init__" q st f fd → FnOk P w K mg base CX0 k f fd ps sp) :
    Okm P w K mg base k x Cc ps sp := by
  obtain ⟨f, oc, od, kV, doc, pm, an, cdv, ct, osl, a, i, l, c, kp⟩ := D
  have F := fun_mk (st := st) l c kp
  exact ⟨⟨f, _, ⟨mk, a, i, kc⟩, ok _ _ F, hm, F.binds hb⟩⟩
structure Okf (P : Program) (w : World) (K : PySem.W.Frag) (mg : Str → Option Value) (base : Heap) (k : Nat) (m : Str) (Cc : Addr) (ps : List Str) (sp : Sp) : Prop where
  ex : ∃ f fd, Meth K Cc m f ∧ FnOk P w K mg base CX0 k f fd ps sp ∧ Binds K fd ps []
  cl : Cls K Cc
theorem MethAt.okf {m : Str} (D : MethAt K Cc m q st) (cl : Cls K Cc) (hb : BindsBy m q st ps) (ok : ∀ f fd, Fun K m q st f fd → FnOk P w K mg base CX0 k f fd ps sp) :
    Okf P w K mg base k m Cc ps sp := by
  obtain ⟨f, oc, od, kV, doc, pm, an, cdv, ct, osl, a, i, l, c, kp⟩ := D
  have F := fun_mk (st := st) l c kp
  exact ⟨⟨f, _, ⟨a, i, kp⟩, ok _ _ F, F.binds hb⟩, cl⟩
end
section
variable {X : Cx} {x m : Str} {p pos apos : Pos} {o e : Expr} {es : List Expr} {to : TE} {t : TA} {k : Nat} {Cc : Addr} {ps : List Str} {sp : Sp}
theorem pe_makeD (Dd : Okm X.prog X.w X.K X.mg X.base k x Cc ps sp) (hr : Room (k + 1) X.A) (ha : PA X (e :: es) t) (hg : Gl X x := by rfl) (hdb : (x == ("__debug__" : Str)) = false := by decide)
    (he : starEach (e :: es) X.env = (false, eval e X.env) :: starEach es X.env := by rfl) (hpl : (backTo pos (starEach es X.env)).any (·.1) = false := by rfl) : PE X (.Call (.Name x p) (e :: es) [] pos) (tMake Cc sp [] E0 t) := by
  obtain ⟨f, fd, M, F, h1, h3⟩ := Dd.ex
  exact pe_make M F hr hg h1 h3 .nil pass0 ha hdb he hpl
end
/-! ### the built-ins by their names -/
theorem bt_len : bootBuiltins "len" = some (.builtin "len") := PySem.boot_len
theorem bt_abs : bootBuiltins "abs" = some (.builtin "abs") := PyProof.Rows.boot_abs
theorem bt_max : bootBuiltins "max" = some (.builtin "max") := PyProof.Rows.boot_max
theorem bt_min : bootBuiltins "min" = some (.builtin "min") := PyProof.Rows.boot_min
theorem bt_sum : bootBuiltins "sum" = some (.builtin "sum") := PyProof.Rows.boot_sum
theorem bt_all : bootBuiltins "all" = some (.builtin "all") := PyProof.Rows.boot_all
theorem bt_isinstance : bootBuiltins "isinstance" = some (.builtin "isinstance") := PyProof.Rows.boot_isinstance
theorem bt_int : bootBuiltins "int" = some (.type "int") := PyProof.Rows.boot_int
theorem bt_bool : bootBuiltins "bool" = some (.type "bool") := PyProof.Rows.boot_bool
theorem bt_tuple : bootBuiltins "tuple" = some (.type "tuple") := PyProof.Rows.boot_tuple
theorem bt_range : bootBuiltins "range" = some (.type "range") := PyProof.Rows.boot_range
end QW

namespace QW
open PySem L2
/-! ### fractions -/
theorem low_num (n : Int) (d : Nat) (h : 0 < d) : (mkRat n d).num = n / ((n.natAbs.gcd d : Nat) : Int) := by
  rw [Rat.num_mkRat, if_neg (by omega), Nat.gcd_comm]
theorem low_den (n : Int) (d : Nat) (h : 0 < d) : (((mkRat n d).den : Nat) : Int) = (d : Int) / ((n.natAbs.gcd d : Nat) : Int) := by
  rw [Rat.den_mkRat, if_neg (by omega), Nat.gcd_comm]
  exact Int.natCast_ediv _ _
theorem gcd_le (n : Int) (d : Nat) (h : 0 < d) : 0 < n.natAbs.gcd d ∧ n.natAbs.gcd d ≤ d :=
  ⟨Nat.gcd_pos_of_pos_right _ h, Nat.le_of_dvd h (Nat.gcd_dvd_right _ _)⟩
theorem log2_lt_of_le {a b k : Nat} (h : a ≤ b) (hb : b.log2 < k) (hk : 0 < k) : a.log2 < k := by
  by_cases h0 : a = 0
  · subst h0; simpa using hk
  · exact Nat.lt_of_le_of_lt (log2_le h h0) hb
theorem div_ok {i : Int} {d : Nat} (h : 0 < d) (hk : d.log2 < 9000) : CDivW i (d : Int) := ⟨by omega, by rw [Int.natAbs_natCast]; exact hk⟩
theorem log2_of_lt {a k : Nat} (h : a < 2 ^ k) (hk : 0 < k) : a.log2 < k := by
  by_cases h0 : a = 0
  · subst h0; simpa using hk
  · exact (Nat.log2_lt h0).mpr h
/-- a common multiple of the bottoms -/
def ComM (qs : List Rat) (M : Nat) : Prop := 0 < M ∧ ∀ q ∈ qs, q.den ∣ M
/-- sums by a common bottom -/
theorem units_sum (L : Nat) (hL : 0 < L) : ∀ qs : List Rat, (∀ q ∈ qs, q.den ∣ L) → mkRat ((qs.map fun q => q.num * ((L : Int) / (q.den : Int))).sum) L = qs.sum
  | [], _ => by simp
  | q :: qs, h => by
    have ih := units_sum L hL qs fun x hx => h x (List.mem_cons_of_mem _ hx)
    obtain ⟨k, hk⟩ := h q List.mem_cons_self
    rw [List.map_cons, List.sum_cons, List.sum_cons, ← ih]
    have hd : q.den ≠ 0 := q.den_nz
    have e : (L : Int) / (q.den : Int) = (k : Int) := by
      rw [hk]; push_cast; exact Int.mul_ediv_cancel_left _ (by omega)
    rw [e]
    have hk0 : k ≠ 0 := by rintro rfl; omega
    have e1 : mkRat (q.num * k) L = q := by
      rw [hk, Int.mul_comm, Nat.mul_comm, Rat.mkRat_mul_left hk0, Rat.mkRat_self]
    generalize (qs.map fun q => q.num * ((L : Int) / (q.den : Int))).sum = S
    conv => rhs; rw [← e1]
    rw [Rat.mkRat_add_mkRat _ _ (by omega) (by omega)]
    rw [show q.num * ↑k * (L : Int) + S * (L : Int) = (L : Int) * (q.num * k + S) by grind, Rat.mkRat_mul_left (by omega)]
theorem fr_inj {a b : Rat} (h : fr a = fr b) : a = b := by
  simp only [fr, PyData.tuple.injEq, List.cons.injEq, PyData.int.injEq, and_true] at h
  exact rat_ext h.1 (by omega)
theorem mem_frs {qs : List Rat} {e : PyData} (h : e ∈ qs.map fr) : ∃ q ∈ qs, e = fr q := by
  obtain ⟨q, hq, rfl⟩ := List.mem_map.mp h
  exact ⟨q, hq, rfl⟩
theorem get_frs {qs : List Rat} {i : Nat} {e : PyData} (h : (qs.map fr)[i]? = some e) : ∃ q, qs[i]? = some q ∧ e = fr q := by
  rw [List.getElem?_map] at h
  cases e1 : qs[i]? with
  | none => rw [e1] at h; cases h
  | some q => rw [e1] at h; exact ⟨q, rfl, (Option.some.inj h).symm⟩
end QW
namespace QW
open PySem L2
/-! ### bounds of fractions -/
/-- bounds of fractions: a common bottom and the tops -/
def Bd (B : Nat) (qs : List Rat) : Prop := qs.length ≤ 1000 ∧ (∃ M, ComM qs M ∧ M < 2 ^ B) ∧ ∀ q ∈ qs, q.num.natAbs < 2 ^ B
/-- small ones: what the law's own adding can go through -/
def Bs (qs : List Rat) : Prop := qs.length ≤ 1000 ∧ (∃ M, ComM qs M ∧ M < 2 ^ 48) ∧ ∀ q ∈ qs, q.num.natAbs < 2 ^ 88
theorem Bs.bd {qs : List Rat} (h : Bs qs) : Bd 8000 qs := by
  obtain ⟨h1, ⟨M, h2, h3⟩, h4⟩ := h
  exact ⟨h1, ⟨M, h2, Nat.lt_trans h3 (Nat.pow_lt_pow_right (by decide) (by decide))⟩, fun q hq => Nat.lt_trans (h4 q hq) (Nat.pow_lt_pow_right (by decide) (by decide))⟩
theorem Bs.sub {qs rs : List Rat} (h : Bs qs) (hl : rs.length ≤ 1000) (hs : ∀ q ∈ rs, q ∈ qs) : Bs rs := by
  obtain ⟨h1, ⟨M, ⟨h2, h2'⟩, h3⟩, h4⟩ := h
  exact ⟨hl, ⟨M, ⟨h2, fun q hq => h2' q (hs q hq)⟩, h3⟩, fun q hq => h4 q (hs q hq)⟩
theorem Bs.take {qs : List Rat} (h : Bs qs) (i : Nat) : Bs (qs.take i) :=
  h.sub (Nat.le_trans (by rw [List.length_take]; omega) h.1) fun q hq => List.mem_of_mem_take hq
theorem sum_abs (M B : Nat) : ∀ qs : List Rat, (∀ q ∈ qs, q.num.natAbs ≤ B) → ((qs.map fun q => q.num * ((M : Int) / (q.den : Int))).sum).natAbs ≤ qs.length * (B * M)
  | [], _ => by simp
  | q :: qs, h => by
    have ih := sum_abs M B qs fun x hx => h x (List.mem_cons_of_mem _ hx)
    rw [List.map_cons, List.sum_cons, List.length_cons, Nat.succ_mul]
    refine Nat.le_trans (Int.natAbs_add_le _ _) ?_
    rw [Int.natAbs_mul, ← Int.natCast_ediv, Int.natAbs_natCast]
    have h1 : q.num.natAbs * (M / q.den) ≤ B * M := Nat.mul_le_mul (h q List.mem_cons_self) (Nat.div_le_self _ _)
    omega
theorem mkRat_num_le (n : Int) (d : Nat) (h : 0 < d) : (mkRat n d).num.natAbs ≤ n.natAbs := by
  rw [low_num n d h, Int.natAbs_ediv_of_dvd (Int.natCast_dvd_natCast.mpr (Nat.gcd_dvd_left _ _) |> fun h => Int.dvd_trans h (Int.natAbs_dvd.mpr (Int.dvd_refl _))), Int.natAbs_natCast]
  exact Nat.div_le_self _ _
theorem mkRat_den_dvd (n : Int) (d : Nat) (h : 0 < d) : (mkRat n d).den ∣ d := by
  rw [Rat.den_mkRat, if_neg (by omega)]
  exact Nat.div_dvd_of_dvd (Nat.gcd_dvd_left _ _)
/-- what a sum of small ones comes to -/
theorem Bs.sum {qs : List Rat} (h : Bs qs) : qs.sum.num.natAbs < 2 ^ 148 ∧ qs.sum.den < 2 ^ 148 := by
  obtain ⟨h1, ⟨M, ⟨h2, h2'⟩, h3⟩, h4⟩ := h
  have e := units_sum M h2 qs h2'
  have hs := sum_abs M (2 ^ 88) qs fun q hq => Nat.le_of_lt (h4 q hq)
  rw [← e]
  have l1 := mkRat_num_le ((qs.map fun q => q.num * ((M : Int) / (q.den : Int))).sum) M h2
  have l2 := Nat.le_of_dvd h2 (mkRat_den_dvd ((qs.map fun q => q.num * ((M : Int) / (q.den : Int))).sum) M h2)
  have l3 : qs.length * (2 ^ 88 * M) ≤ 1000 * (2 ^ 88 * 2 ^ 48) := Nat.mul_le_mul h1 (Nat.mul_le_mul_left _ (Nat.le_of_lt h3))
  have l4 : 1000 * (2 ^ 88 * 2 ^ 48) < 2 ^ 148 := by decide
  have l5 : (2 : Nat) ^ 48 < 2 ^ 148 := by decide
  omega
theorem Bs.den {qs : List Rat} (h : Bs qs) {q : Rat} (hq : q ∈ qs) : q.num.natAbs < 2 ^ 148 ∧ q.den < 2 ^ 148 := by
  obtain ⟨h1, ⟨M, ⟨h2, h2'⟩, h3⟩, h4⟩ := h
  have l := Nat.le_of_dvd h2 (h2' q hq)
  have l4 : (2 : Nat) ^ 88 < 2 ^ 148 := by decide
  have l5 : (2 : Nat) ^ 48 < 2 ^ 148 := by decide
  have := h4 q hq
  omega
/-- wider ones -/
def Bw (qs : List Rat) : Prop := qs.length ≤ 1000 ∧ (∃ M, ComM qs M ∧ M < 2 ^ 48) ∧ ∀ q ∈ qs, q.num.natAbs < 2 ^ 140
theorem Bs.bw {qs : List Rat} (h : Bs qs) : Bw qs := ⟨h.1, h.2.1, fun q hq => Nat.lt_trans (h.2.2 q hq) (Nat.pow_lt_pow_right (by decide) (by decide))⟩
theorem Bw.take {qs : List Rat} (h : Bw qs) (i : Nat) : Bw (qs.take i) := by
  obtain ⟨h1, ⟨M, ⟨h2, h2'⟩, h3⟩, h4⟩ := h
  exact ⟨Nat.le_trans (by rw [List.length_take]; omega) h1, ⟨M, ⟨h2, fun q hq => h2' q (List.mem_of_mem_take hq)⟩, h3⟩, fun q hq => h4 q (List.mem_of_mem_take hq)⟩
theorem Bw.sum {qs : List Rat} (h : Bw qs) : qs.sum.num.natAbs < 2 ^ 230 ∧ qs.sum.den < 2 ^ 60 := by
  obtain ⟨h1, ⟨M, ⟨h2, h2'⟩, h3⟩, h4⟩ := h
  have e := units_sum M h2 qs h2'
  have hs := sum_abs M (2 ^ 140) qs fun q hq => Nat.le_of_lt (h4 q hq)
  rw [← e]
  have l1 := mkRat_num_le ((qs.map fun q => q.num * ((M : Int) / (q.den : Int))).sum) M h2
  have l2 := Nat.le_of_dvd h2 (mkRat_den_dvd ((qs.map fun q => q.num * ((M : Int) / (q.den : Int))).sum) M h2)
  have l3 : qs.length * (2 ^ 140 * M) ≤ 1000 * (2 ^ 140 * 2 ^ 48) := Nat.mul_le_mul h1 (Nat.mul_le_mul_left _ (Nat.le_of_lt h3))
  have l4 : 1000 * (2 ^ 140 * 2 ^ 48) < 2 ^ 230 := by decide
  have l5 : (2 : Nat) ^ 48 < 2 ^ 60 := by decide
  omega
theorem Bw.den {qs : List Rat} (h : Bw qs) {q : Rat} (hq : q ∈ qs) : q.num.natAbs < 2 ^ 230 ∧ q.den < 2 ^ 60 := by
  obtain ⟨h1, ⟨M, ⟨h2, h2'⟩, h3⟩, h4⟩ := h
  have l := Nat.le_of_dvd h2 (h2' q hq)
  have l4 : (2 : Nat) ^ 140 < 2 ^ 230 := by decide
  have l5 : (2 : Nat) ^ 48 < 2 ^ 60 := by decide
  have := h4 q hq
  omega
/-- all whole numbers times one fraction -/
theorem sum_mul (u : Rat) : ∀ ns : List Int, (ns.map fun n : Int => (n : Rat) * u).sum = ((ns.sum : Int) : Rat) * u
  | [] => by simp
  | n :: ns => by
    rw [List.map_cons, List.sum_cons, List.sum_cons, sum_mul u ns]
    push_cast
    grind
theorem small_log {a : Int} (h : a.natAbs < 2 ^ 70) : a.natAbs.log2 < 9000 := Nat.lt_trans (log2_of_lt h (by decide)) (by decide)
theorem sum_rot (xs : List Int) (i : Nat) : (xs.drop i ++ xs.take i).sum = xs.sum := by
  conv => rhs; rw [← List.take_append_drop i xs]
  rw [List.sum_append, List.sum_append, Int.add_comm]
theorem sum_rev (xs : List Int) : xs.reverse.sum = xs.sum := by
  induction xs with
  | nil => rfl
  | cons x xs ih =>
    rw [List.reverse_cons, List.sum_append, ih, List.sum_cons]
    simp only [List.sum_cons, List.sum_nil]
    omega
theorem le_sum {ns : List Int} (h : ∀ n ∈ ns, 1 ≤ n) : ∀ n ∈ ns, n ≤ ns.sum := by
  induction ns with
  | nil => intro n hn; cases hn
  | cons x xs ih =>
    have hx := h x List.mem_cons_self
    have ih' := ih fun n hn => h n (List.mem_cons_of_mem _ hn)
    have h0 : 0 ≤ xs.sum := by
      cases xs with
      | nil => simp
      | cons y ys =>
        have a := ih' y List.mem_cons_self
        have b := h y (by simp)
        omega
    intro n hn
    rw [List.sum_cons]
    rcases List.mem_cons.mp hn with rfl | hn
    · omega
    · have := ih' n hn
      omega
theorem times_num {n : Int} {u : Rat} (hn : 1 ≤ n) (hu : 0 < u.num) : 0 < ((n : Rat) * u).num ∧ ((n : Rat) * u).num.natAbs ≤ n.natAbs * u.num.natAbs ∧ ((n : Rat) * u).den ∣ u.den := by
  have hd : 0 < u.den := Nat.pos_of_ne_zero u.den_nz
  have e : (n : Rat) * u = mkRat (n * u.num) u.den := by
    conv => lhs; rw [← Rat.mkRat_self u]
    rw [show (n : Rat) = mkRat n 1 from (Rat.mkRat_one n).symm, Rat.mkRat_mul_mkRat, Nat.one_mul]
  rw [e]
  have hp : 0 < n * u.num := Int.mul_pos (by omega) hu
  refine ⟨?_, ?_, mkRat_den_dvd _ _ hd⟩
  · rw [low_num _ _ hd]
    have g0 := (gcd_le (n * u.num) u.den hd).1
    have gd : ((((n * u.num).natAbs.gcd u.den : Nat)) : Int) ∣ n * u.num := Int.dvd_trans (Int.natCast_dvd_natCast.mpr (Nat.gcd_dvd_left _ _)) (Int.natAbs_dvd.mpr (Int.dvd_refl _))
    exact Int.ediv_pos_of_pos_of_dvd hp (by omega) gd
  · rw [← Int.natAbs_mul]
    exact mkRat_num_le _ _ hd
theorem drawn_bs {ns : List Int} {u : Rat} (h : ∀ n ∈ ns, 1 ≤ n) (hs : ns.sum < 2000000000000) (hu : 0 < u.num) (hu2 : u.num ≤ 1000000000000) :
    ∀ q ∈ ns.map (fun n : Int => (n : Rat) * u), 0 < q.num ∧ q.num.natAbs < 2 ^ 88 ∧ q.den ∣ u.den := by
  intro q hq
  obtain ⟨n, hn, rfl⟩ := List.mem_map.mp hq
  obtain ⟨h1, h2, h3⟩ := times_num (h n hn) hu
  have h4 := le_sum h n hn
  have h5 := h n hn
  refine ⟨h1, ?_, h3⟩
  have h6 : n.natAbs * u.num.natAbs ≤ 2000000000000 * 1000000000000 := Nat.mul_le_mul (by omega) (by omega)
  have h7 : 2000000000000 * 1000000000000 < 2 ^ 88 := by decide
  omega
/-- what is drawn: both sides of fractions above 0, of one sum -/
def Drawn (side : Nat) (o d : List Rat) : Prop := 1 ≤ o.length ∧ o.length ≤ side ∧ 1 ≤ d.length ∧ d.length ≤ side ∧ o.sum = d.sum ∧ (∀ q ∈ o, 0 < q.num) ∧ (∀ q ∈ d, 0 < q.num) ∧ Bs (o ++ d)
end QW

namespace QW
open PySem L2
/-! ### rules that the layer lacks: l[i] read for l[i] op= e; t * 1 -/
def rGetL (K : PySem.W.Frag) : V → V → Hp → VK → Prop := fun x y H Q => ∃ p xs i v, x = .ref p ∧ y = .int i ∧ SqL K H p xs ∧ 0 ≤ i ∧ xs[i.toNat]? = some v ∧ Q v H
theorem pg_list {X : Cx} : PGet X (rGetL X.K) := by
  intro pins s σ H o i ov iv Q I ro ri h
  obtain ⟨p, xs, k, v, rfl, rfl, hq, h0, hx, q⟩ := h
  cases ro
  obtain ⟨t, rfl⟩ := ri
  obtain ⟨its, r, pl, hz⟩ := I.list hq
  obtain ⟨w, ew, rw'⟩ := r.get hx
  have hl := r.length
  have hi : k.toNat < xs.length := by
    rcases Nat.lt_or_ge k.toNat xs.length with h | h
    · exact h
    · rw [List.getElem?_eq_none h] at hx; cases hx
  have e : sizeLine = 16777216 := PySem.sizeLine_eq
  exact wpAny_getItem_list pl.isList h0 (by omega) (by simpa using ew) ⟨v, H, I, rw', q⟩
theorem i_augS {D : Ends} {σ : St} {H : Hp} {to ti te : TE} {tget : V → V → Hp → VK → Prop} {tip : TIp} {tset : TSet}
    (h : to σ H fun o H1 => ti σ H1 fun i H2 => tget o i H2 fun x H3 => te σ H3 fun y H4 => tip x y H4 fun z H5 => tset o i z H5 fun H6 => D.nx σ H6) : tAugS to ti te tget tip tset D σ H := h
theorem i_getL {K : PySem.W.Frag} {H : Hp} {Q : VK} {p : Addr} {xs : List V} {i : Int} {v : V} (h : H p = some (.lst xs)) (h0 : 0 ≤ i) (e : xs[i.toNat]? = some v) (q : Q v H) : rGetL K (.ref p) (.int i) H Q := ⟨p, xs, i, v, rfl, rfl, SqL.of h, h0, e, q⟩
theorem i_ipI {H : Hp} {Q : VK} {f : Int → Int → Int} {i j : Int} (q : Q (.int (f i j)) H) : ipI f (.int i) (.int j) H Q := ⟨i, j, rfl, rfl, q⟩
theorem tuple_mul1 (l : Addr) (items : Array Value) (n : Nat) (dd : Option Addr) (sl : Array (Option Value)) (u : Tok) :
    Meets (Builtin.«tuple.__mul__» ⟨[.ref l, .int 1 u], []⟩) (fun _ R s => s.heap.get? l = some { cls := .type "tuple", dict := dd, data := .seq items n, slots := sl } ∧ R (.ok (.ret (Value.ref l))) s) :=
  .of_wp fun prog w A R s h => by
    obtain ⟨hp, g, d, tk, os⟩ := s
    obtain ⟨hl, h⟩ := h
    have f1 := AutoSeq1.idx_int
    wp_walk using wpAny_loadPart' hl
    repeat (first
      | (refine wpAny_ite_false (by decide) ?_; wp_walk using wpAny_loadPart' hl)
      | (refine wpAny_ite_true (by simp) ?_; wp_walk using wpAny_loadPart' hl))
    exact ⟨_, rfl, h⟩
open PyProof.Rows in
theorem op_rep1 {X : Cx} : OpR X (binaryOp .Mult) (fun x y H Q => ∃ l xs, x = .ref l ∧ y = .int 1 ∧ SqT X.K H l xs ∧ Q (.ref l) H) := by
  intro pins s σ H x y v u Q I rx ry h
  obtain ⟨l, xs, rfl, rfl, hT, q⟩ := h
  cases rx
  obtain ⟨t, rfl⟩ := ry
  obtain ⟨its, r, ⟨⟨cls, dd, data, sl⟩, ho, hc, n, hd⟩, hs⟩ := I.tuple hT
  simp only at hc hd
  subst hc hd
  exact wpAny_binaryOp_repeat_ref (T := "tuple") (U := "int") (by decide) ⟨_, ho, rfl⟩ (fun s' => typeIs_int s' 1 t) noFill_tuple_mul F.fills_int_mul F.slot_int_rmul repeat_tuple F.slot_int_index.lookup
    (call_meets F.slot_int_rmul (typeIs_int s 1 t) F.entry_int_rmul (F.args_int_rmul_2 _ _) (int_rmul_tuple 1 t l its.toArray n dd sl)
      ⟨ho, rfl, ⟨_, ho, rfl⟩, call_meets F.slot_tuple_mul ⟨_, ho, rfl⟩ F.entry_tuple_mul (F.args_tuple_mul_2 _ _) (tuple_mul1 l its.toArray n dd sl t) ⟨ho, ⟨.ref l, H, I, rfl, q⟩⟩⟩)
/-- tuple * int, the int 1 or more -/
def rRepA (K : PySem.W.Frag) : R2 := fun x y H Q => (∃ l xs, x = .ref l ∧ y = .int 1 ∧ SqT K H l xs ∧ Q (.ref l) H) ∨ rRepT K x y H Q
theorem op_repA {X : Cx} : OpR X (binaryOp .Mult) (rRepA X.K) := op_rep1.or op_repT
theorem ImL.rep {H : Hp} {vs : List V} {ds : List PyData} (h : ImL H vs ds) : ∀ n : Nat, ImL H (List.replicate n vs).flatten (List.replicate n ds).flatten
  | 0 => by simp [ImL]
  | n + 1 => by
    rw [List.replicate_succ, List.replicate_succ, List.flatten_cons, List.flatten_cons]
    exact ImL.append h (ImL.rep h n)
theorem i_repA {K : PySem.W.Frag} {H : Hp} {Q : VK} {x : V} {k : Int} {ds : List PyData} (h : Im H x (.tuple ds)) (hn : ds ≠ []) (h1 : 1 ≤ k) (h2 : k ≤ 1000) (hz : ds.length ≤ 1000) (q : Ret H Q (.tuple (List.replicate k.toNat ds).flatten)) : rRepA K x (.int k) H Q := by
  obtain ⟨a, xs, rfl, ha, hl⟩ := h.tup_at
  have e := hl.length
  by_cases hk : k = 1
  · subst hk
    refine .inl ⟨a, xs, rfl, rfl, SqT.of ha, q _ _ (Same.refl _) ?_⟩
    have e1 : (List.replicate (Int.toNat 1) ds).flatten = ds := by
      show (List.replicate 1 ds).flatten = ds
      simp
    rw [e1]
    exact h
  · refine .inr ⟨a, k, xs, rfl, rfl, SqT.of ha, fun z => hn (List.eq_nil_of_length_eq_zero (by rw [← e, z]; rfl)), by omega, h2, by omega, new_obj fun p H' hp s ee => q _ _ s (Im.tup ee (ImL.rep (sm_iml s hl) _))⟩
/-- tuples put together -/
theorem i_catA {K : PySem.W.Frag} {H : Hp} {Q : VK} {x y : V} {ds es : List PyData} (h1 : Im H x (.tuple ds)) (h2 : Im H y (.tuple es)) (hz : ds.length + es.length ≤ sizeLine)
    (q : Ret H Q (.tuple (ds ++ es))) : rCatA K x y H Q := by
  obtain ⟨a, xs, rfl, ha, la⟩ := h1.tup_at
  obtain ⟨b, ys, rfl, hb, lb⟩ := h2.tup_at
  have e1 := la.length
  have e2 := lb.length
  refine ⟨a, b, xs, ys, rfl, rfl, SqT.of ha, SqT.of hb, by omega, fun z => ?_, fun _ z => ?_, fun _ _ => new_obj fun p H' hp s e => ?_⟩
  · subst z
    have : ds = [] := List.eq_nil_of_length_eq_zero e1.symm
    subst this
    exact q _ _ (Same.refl _) h2
  · subst z
    have : es = [] := List.eq_nil_of_length_eq_zero e2.symm
    subst this
    rw [List.append_nil] at q
    exact q _ _ (Same.refl _) h1
  · exact q _ _ s (Im.tup e (sm_iml s (ImL.append la lb)))
/-! ### comprehensions with a test, over a range -/
section
variable {K : PySem.W.Frag} {σ : St} {H : Hp} {Q : VK}
def LcR (g : TG) (tt : TT) (te : TE) (vs : List Nat) (σ : St) (Q : VK) (ws : List V) (H1 : Hp) : Prop := ∃ j : Int, ws = [.int j] ∧ -(2 ^ 62) ≤ j ∧ j < 2 ^ 62 ∧ ∀ D, H1 D = none → ∃ W : Nat → Nat → Hp → Prop, (∃ m, W 0 m (upd H1 D (.lst []))) ∧ ∀ i m H, W i m H →
  ((Itr 0 j.toNat).stop i H ∧ Q (.ref D) H) ∨ ((Itr 0 j.toNat).go i H ∧ ∃ Nx : Hp → Prop, (∀ H', Nx H' → ∃ m', m' < m ∧ W (i + 1) m' H') ∧ ∀ x H', (Itr 0 j.toNat).yld i H x H' → g x (wipe σ vs) H' fun σ2 H2 => wipe σ2 vs = wipe σ vs ∧ tt σ2 H2 fun b H3 =>
    if b = true then te σ2 H3 fun y H4 => ∃ acc, H4 D = some (.lst acc) ∧ acc.length < sizeLine ∧ Nx (upd H4 D (.lst (acc ++ [y]))) else Nx H3)
theorem i_lcR {ta : TA} {te : TE} {tt : TT} {g : TG} {vs : List Nat} (h : ta σ H fun ws H1 => LcR g tt te vs σ Q ws H1) : tLc (iRng1 ta) g tt te vs σ H Q := h
/-- what holds between two turns: F i tells the items that turn i gives (none or one) -/
def LcF (H : Hp) (Dl : Addr) (F : Nat → List PyData) (i : Nat) (H1 : Hp) : Prop :=
  Same H H1 ∧ ∃ ys, H1 Dl = some (.lst ys) ∧ ImL H1 ys ((List.range i).flatMap F)
theorem flatMap_range_succ (F : Nat → List PyData) (i : Nat) : (List.range (i + 1)).flatMap F = (List.range i).flatMap F ++ F i := by
  rw [List.range_succ, List.flatMap_append]; simp
theorem flatMap_len (F : Nat → List PyData) (hF : ∀ i, (F i).length ≤ 1) : ∀ n, ((List.range n).flatMap F).length ≤ n
  | 0 => by simp
  | n + 1 => by
    rw [flatMap_range_succ, List.length_append]
    have := flatMap_len F hF n
    have := hF n
    omega
theorem lcR_of {k : Nat} {te : TE} {tt : TT} {vs : List Nat} {j : Int} {n : Nat} (F : Nat → List PyData) (hj : j = (n : Nat)) (hn : n < 1000000) (hF : ∀ i, (F i).length ≤ 1)
    (turn : ∀ (i : Nat) (H1 : Hp) (N M : Hp → Prop) (NE : V → Hp → Prop), i < n → Same H H1 → (∀ y H3 d, F i = [d] → Same H1 H3 → Im H3 y d → NE y H3) → (∀ H3, F i = [] → Same H1 H3 → M H3) →
      wipe ((wipe σ vs).set k (some (.int (i : Nat)))) vs = wipe σ vs ∧ tt ((wipe σ vs).set k (some (.int (i : Nat)))) H1 fun b H3 => if b = true then te ((wipe σ vs).set k (some (.int (i : Nat)))) H3 NE else M H3)
    (done : ∀ D H1 ys, H D = none → Same H H1 → H1 D = some (.lst ys) → ImL H1 ys ((List.range n).flatMap F) → Q (.ref D) H1) : LcR (gName k) tt te vs σ Q [.int j] H := by
  subst hj
  refine ⟨_, rfl, by omega, by omega, fun Dl hD => ?_⟩
  rw [Int.toNat_natCast]
  refine lc_range (lo := 0) (n := n) (LcF H Dl F) ⟨same_upd hD, [], upd_same, by simp [ImL]⟩ (fun i H1 hi p => ?_) (fun H1 p => ?_)
  · obtain ⟨s, ys, h1, h2⟩ := p
    have hl := h2.length
    have hb := flatMap_len F hF i
    have e0 : sizeLine = 16777216 := PySem.sizeLine_eq
    have e : (0 : Int) + ((i : Nat) : Int) = (i : Nat) := by omega
    rw [e]
    refine turn i H1 (LcF H Dl F (i + 1)) _ _ hi s (fun y H3 d hd s3 hy => ?_) (fun H3 hd s3 => ?_)
    · refine ⟨ys, s3 _ _ h1, by omega, same_loc (Same.trans s s3) (kl_upd (s3 _ _ h1)) hD, ys ++ [y], upd_same, ?_⟩
      have kl := kl_upd (ys := ys ++ [y]) (s3 _ _ h1)
      rw [flatMap_range_succ, hd]
      exact ImL.append (kl_iml kl (sm_iml s3 h2)) (by simp only [ImL]; exact ⟨kl_im kl hy, trivial⟩)
    · refine ⟨s.trans s3, ys, s3 _ _ h1, ?_⟩
      rw [flatMap_range_succ, hd, List.append_nil]
      exact sm_iml s3 h2
  · obtain ⟨s, ys, h1, h2⟩ := p
    exact done Dl H1 ys hD s h1 h2
end
section
variable {K : PySem.W.Frag} {D : Ends} {σ : St} {H : Hp} {Q : VK}
theorem i_meth {Cc : Addr} {m : Str} {sp : Sp} {E : XK} {ta : TE} {t : TA} (h : ta σ H fun x H1 => ∃ a dx fs, x = .ref a ∧ H1 a = some (.ins Cc dx fs) ∧ fs.lookup m = none ∧ t σ H1 fun vs H2 => sp (x :: (vs ++ [])) H2 Q E) : tMeth Cc m sp [] E ta t σ H Q := h
theorem i_meth' {P : Prop} {a Cc dx : Addr} {fs : List (Str × V)} {m : Str} (h : H a = some (.ins Cc dx fs)) (e : fs.lookup m = none) (q : P) : ∃ b dx fs, V.ref a = .ref b ∧ H b = some (.ins Cc dx fs) ∧ fs.lookup m = none ∧ P := ⟨a, dx, fs, rfl, h, e, q⟩
def ForL (K : PySem.W.Frag) (g : TG) (tb : TS) (D : Ends) (σ : St) (x : V) (H1 : Hp) : Prop := ∃ a, x = .ref a ∧ (∃ xs, SqL K H1 a xs) ∧ ∃ W : Nat → Nat → St → Hp → Prop, (∃ m, W 0 m σ H1) ∧ ∀ i m σ H, W i m σ H →
  ((Itl K a).stop i H ∧ D.nx σ H) ∨ ((Itl K a).go i H ∧ ∃ N : St → Hp → Prop, (∀ σ' H', N σ' H' → ∃ m', m' < m ∧ W (i + 1) m' σ' H') ∧ ∀ x H', (Itl K a).yld i H x H' → g x σ H' fun σ2 H2 => tb { D with nx := N, ct := N, bk := D.nx } σ2 H2)
theorem i_forL {tl : TE} {g : TG} {tb : TS} (h : tl σ H fun x H1 => ForL K g tb D σ x H1) : tFor (iList K tl) g tb D σ H := h
theorem forL_of {g : TG} {tb : TS} {a : Addr} {xs : List V} (ha : H a = some (.lst xs)) (Pv : Nat → St → Hp → Prop) (Bk : St → Hp → Prop) (h0 : Pv 0 σ H) (hl : ∀ i σ H', Pv i σ H' → H' a = some (.lst xs))
    (hs : ∀ (i : Nat) (x : V) (σ : St) (H : Hp) (N B : St → Hp → Prop), xs[i]? = some x → Pv i σ H → (∀ σ H, Pv (i + 1) σ H → N σ H) → (∀ σ H, Bk σ H → B σ H) → g x σ H fun σ2 H2 => tb { D with nx := N, ct := N, bk := B } σ2 H2)
    (hd : ∀ σ H, Pv xs.length σ H → D.nx σ H) (hb : ∀ σ H, Bk σ H → D.nx σ H) : ForL K g tb D σ (.ref a) H :=
  ⟨a, rfl, ⟨xs, SqL.of ha⟩, for_list (K := K) (a := a) (xs := xs) Pv h0 (fun i σ H' _ p => SqL.of (hl i σ H' p)) (fun i x σ H hi p => hs i x σ H (Pv (i + 1)) D.nx hi p (fun _ _ q => q) hb) hd⟩
theorem forT_of' {g : TG} {tb : TS} {a : Addr} {xs : List V} (ha : H a = some (.tup xs)) (Pv : Nat → St → Hp → Prop) (Bk : St → Hp → Prop) (h0 : Pv 0 σ H) (hl : ∀ i σ H', Pv i σ H' → H' a = some (.tup xs))
    (hs : ∀ (i : Nat) (x : V) (σ : St) (H : Hp) (N B : St → Hp → Prop), xs[i]? = some x → Pv i σ H → (∀ σ H, Pv (i + 1) σ H → N σ H) → (∀ σ H, Bk σ H → B σ H) → g x σ H fun σ2 H2 => tb { D with nx := N, ct := N, bk := B } σ2 H2)
    (hd : ∀ σ H, Pv xs.length σ H → D.nx σ H) (hb : ∀ σ H, Bk σ H → D.nx σ H) : ForT K g tb D σ (.ref a) H :=
  ⟨a, rfl, ⟨xs, SqT.of ha⟩, for_tup (K := K) (a := a) (xs := xs) Pv h0 (fun i σ H' _ p => SqT.of (hl i σ H' p)) (fun i x σ H hi p => hs i x σ H (Pv (i + 1)) D.nx hi p (fun _ _ q => q) hb) hd⟩
theorem i_gtup3 {a : Addr} {x y z : V} {i j k : Nat} {QG : St → Hp → Prop} (h : H a = some (.tup [x, y, z])) (q : QG (((σ.set i (some x)).set j (some y)).set k (some z)) H) : gTup K 3 (gCons (gName i) (gCons (gName j) (gCons (gName k) gNil))) (.ref a) σ H QG :=
  ⟨a, [x, y, z], rfl, SqT.of h, rfl, x, [y, z], rfl, y, [z], rfl, z, [], rfl, rfl, q⟩
theorem i_clistT {p : Addr} {ys : List V} (h : H p = some (.tup ys)) (q : ∀ l H', H l = none → Same H H' → H' l = some (.lst ys) → Q (.ref l) H') : cList K [.ref p] H Q := ⟨p, ys, rfl, .inr (SqT.of h), new_obj q⟩
end
/-- some lists are changed -/
structure KS (S : List Addr) (H H' : Hp) : Prop where
  keep : ∀ b o, b ∉ S → H b = some o → H' b = some o
  tup : ∀ b xs, H b = some (.tup xs) → H' b = some (.tup xs)
  ins : ∀ b C dx fs, H b = some (.ins C dx fs) → H' b = some (.ins C dx fs)
  live : ∀ b, H' b = none → H b = none
  lst : ∀ b xs, H b = some (.lst xs) → ∃ ys, H' b = some (.lst ys)
  dk : ∀ b kvs, H b = some (.dK kvs) → H' b = some (.dK kvs)
theorem Same.ks {S : List Addr} {H H' : Hp} (s : Same H H') : KS S H H' := ⟨fun b o _ e => s b o e, fun b xs e => s b _ e, fun b C dx fs e => s b _ e, fun b e => s.free e, fun b xs e => ⟨xs, s b _ e⟩, fun b xs e => s b _ e⟩
theorem KL.ks {S : List Addr} {m : Addr} {H H' : Hp} (s : KL m H H') (h : m ∈ S) : KS S H H' := ⟨fun b o hb e => s.keep b o (fun z => hb (z ▸ h)) e, s.tup, s.ins, s.live, s.lst, s.dk⟩
theorem KS.trans {S : List Addr} {H H1 H2 : Hp} (a : KS S H H1) (b : KS S H1 H2) : KS S H H2 :=
  ⟨fun c o hc e => b.keep c o hc (a.keep c o hc e), fun c xs e => b.tup c xs (a.tup c xs e), fun c C dx fs e => b.ins c C dx fs (a.ins c C dx fs e), fun c e => a.live c (b.live c e), fun c xs e => by
    obtain ⟨ys, e1⟩ := a.lst c xs e
    exact b.lst c ys e1, fun c xs e => b.dk c xs (a.dk c xs e)⟩
theorem KS.loc {S : List Addr} {l : Addr} {H H1 H2 : Hp} (a : KS S H H1) (b : KL l H1 H2) (hl : H l = none) : KS S H H2 :=
  ⟨fun c o hc e => b.keep c o (ne_of_none e hl) (a.keep c o hc e), fun c xs e => b.tup c xs (a.tup c xs e), fun c C dx fs e => b.ins c C dx fs (a.ins c C dx fs e), fun c e => a.live c (b.live c e), fun c xs e => by
    obtain ⟨ys, e1⟩ := a.lst c xs e
    exact b.lst c ys e1, fun c xs e => b.dk c xs (a.dk c xs e)⟩
theorem same_ks {S : List Addr} {H H1 H2 : Hp} (a : Same H H1) (b : KS S H1 H2) (h : ∀ c ∈ S, H c = none) : Same H H2 := fun c o e =>
  b.keep c o (fun hc => by rw [h c hc] at e; cases e) (a c o e)
theorem ks_im {S : List Addr} {H H' : Hp} {v : V} {d : PyData} (s : KS S H H') (h : Im H v d) : Im H' v d := Im.mono s.tup d h
theorem ks_iml {S : List Addr} {H H' : Hp} {v : List V} {d : List PyData} (s : KS S H H') (h : ImL H v d) : ImL H' v d := ImL.mono s.tup d h
/-- one instance is changed -/
structure KI (t : Addr) (H H' : Hp) : Prop where
  keep : ∀ b o, b ≠ t → H b = some o → H' b = some o
  tup : ∀ b xs, H b = some (.tup xs) → H' b = some (.tup xs)
  lst : ∀ b xs, H b = some (.lst xs) → H' b = some (.lst xs)
theorem Same.ki {t : Addr} {H H' : Hp} (s : Same H H') : KI t H H' := ⟨fun b o _ e => s b o e, fun b xs e => s b _ e, fun b xs e => s b _ e⟩
theorem KI.trans {t : Addr} {H H1 H2 : Hp} (a : KI t H H1) (b : KI t H1 H2) : KI t H H2 := ⟨fun c o h e => b.keep c o h (a.keep c o h e), fun c xs e => b.tup c xs (a.tup c xs e), fun c xs e => b.lst c xs (a.lst c xs e)⟩
theorem KI.free {t : Addr} {H H' : Hp} {o : HO} (k : KI t H H') (e : H' t = some o) {b : Addr} (h : H' b = none) : H b = none := by
  cases q : H b with
  | none => rfl
  | some x =>
    have n : b ≠ t := fun z => by rw [z, e] at h; cases h
    rw [k.keep b x n q] at h; cases h
theorem ki_upd {t Cc dx : Addr} {fs gs : List (Str × V)} {H : Hp} (h : H t = some (.ins Cc dx fs)) : KI t H (upd H t (.ins Cc dx gs)) := by
  refine ⟨fun b o hb e => by rw [upd_ne hb]; exact e, fun b zs e => ?_, fun b zs e => ?_⟩
  · rw [upd_ne (ne_of e h (by intro q; cases q))]; exact e
  · rw [upd_ne (ne_of e h (by intro q; cases q))]; exact e
theorem ki_im {t : Addr} {H H' : Hp} {v : V} {d : PyData} (s : KI t H H') (h : Im H v d) : Im H' v d := Im.mono s.tup d h
def SfO (K : PySem.W.Frag) (f : Str) (y x : V) (H2 : Hp) (P : Hp → Prop) : Prop := ∃ a C dx fs, x = .ref a ∧ H2 a = some (.ins C dx fs) ∧ Cls K C ∧ NoAttr K C f ∧ fs.length < 1000 ∧ P (upd H2 a (.ins C dx (putF f y fs)))
theorem i_sfld {K : PySem.W.Frag} {D : Ends} {σ : St} {H : Hp} {ta tv : TE} {f : Str} (h : tv σ H fun y H1 => ta σ H1 fun x H2 => SfO K f y x H2 (D.nx σ)) : sFld K ta tv f D σ H := h
theorem sfO_of {K : PySem.W.Frag} {f : Str} {y : V} {a Cc dx : Addr} {fs : List (Str × V)} {H : Hp} {P : Hp → Prop} (h : H a = some (.ins Cc dx fs)) (c : Cls K Cc) (n : NoAttr K Cc f) (l : fs.length < 1000)
    (q : ∀ H', KI a H H' → H' a = some (.ins Cc dx (putF f y fs)) → P H') : SfO K f y (.ref a) H P := ⟨a, Cc, dx, fs, rfl, h, c, n, l, q _ (ki_upd h) upd_same⟩
end QW

namespace QW
open PySem L2
theorem bt_list : bootBuiltins "list" = some (.type "list") := PyProof.Rows.boot_list
theorem bt_str : bootBuiltins "str" = some (.type "str") := PyProof.Rows.boot_str
theorem bt_dict : bootBuiltins "dict" = some (.type "dict") := PyProof.Rows.boot_dict
theorem bt_set : bootBuiltins "set" = some (.type "set") := PyProof.Rows.boot_set
theorem bt_object : bootBuiltins "object" = some (.type "object") := PyProof.Rows.boot_object
theorem bt_type : bootBuiltins "type" = some (.type "type") := PyProof.Rows.boot_type
theorem bt_sorted : bootBuiltins "sorted" = some (.builtin "sorted") := PyProof.Rows.boot_sorted
theorem bt_any : bootBuiltins "any" = some (.builtin "any") := PyProof.Rows.boot_any
/-! ### payments, in fractions -/
abbrev Sta := List Rat × List Rat
def minR (a b : Rat) : Rat := if b < a then b else a
def amtR (s : Sta) (p : Nat × Nat) : Rat := minR (s.1.getD p.1 0) (s.2.getD p.2 0)
def payR (s : Sta) (p : Nat × Nat) : Sta := (s.1.set p.1 (s.1.getD p.1 0 - amtR s p), s.2.set p.2 (s.2.getD p.2 0 - amtR s p))
def canR (s : Sta) (p : Nat × Nat) : Prop := p.1 < s.1.length ∧ p.2 < s.2.length ∧ 0 < s.1.getD p.1 0 ∧ 0 < s.2.getD p.2 0
def rowR : Sta → List (Nat × Nat) → Prop
  | _, [] => True
  | s, p :: ps => canR s p ∧ rowR (payR s p) ps
def runR (s : Sta) (ps : List (Nat × Nat)) : Sta := ps.foldl payR s
def amtsR : Sta → List (Nat × Nat) → List Rat
  | _, [] => []
  | s, p :: ps => amtR s p :: amtsR (payR s p) ps
def overR (s : Sta) : Prop := ∀ p, ¬ canR s p
/-- what holds of all rests: from 0 on, of one sum, bounded -/
structure StOk (M : Nat) (s : Sta) : Prop where
  m0 : 0 < M
  m1 : M < 2 ^ 48
  o0 : ∀ q ∈ s.1, 0 ≤ q ∧ q ≤ (2 ^ 88 : Nat) ∧ q.den ∣ M
  d0 : ∀ q ∈ s.2, 0 ≤ q ∧ q ≤ (2 ^ 88 : Nat) ∧ q.den ∣ M
  su : s.1.sum = s.2.sum
  lo : s.1.length ≤ 100
  ld : s.2.length ≤ 100
theorem getD_mem {α : Type} {l : List α} {i : Nat} {x : α} (h : i < l.length) : l.getD i x ∈ l := by
  rw [List.getD_eq_getElem?_getD, List.getElem?_eq_getElem h]
  exact List.getElem_mem h
theorem getD_some {α : Type} {l : List α} {i : Nat} {x : α} (h : i < l.length) : l[i]? = some (l.getD i x) := by
  rw [List.getD_eq_getElem?_getD, List.getElem?_eq_getElem h]; rfl
theorem sum_setR : ∀ (l : List Rat) (i : Nat) (y : Rat), i < l.length → (l.set i y).sum = l.sum - l.getD i 0 + y
  | [], _, _, h => by simp at h
  | a :: l, 0, y, _ => by
    simp only [List.set_cons_zero, List.sum_cons, List.getD_cons_zero]
    grind
  | a :: l, i + 1, y, h => by
    have ih := sum_setR l i y (by simpa using h)
    simp only [List.set_cons_succ, List.sum_cons, List.getD_cons_succ, ih]
    grind
theorem mem_set_of {α : Type} {l : List α} {i : Nat} {x y : α} (h : y ∈ l.set i x) : y ∈ l ∨ y = x := by
  rcases List.mem_or_eq_of_mem_set h with h | h
  · exact .inl h
  · exact .inr h
theorem minR_le (a b : Rat) : minR a b ≤ a ∧ minR a b ≤ b := by
  unfold minR; split <;> grind
theorem minR_pos {a b : Rat} (ha : 0 < a) (hb : 0 < b) : 0 < minR a b := by
  unfold minR; split <;> assumption
theorem mkRat_sub' (x y : Int) {M : Nat} (hM : 0 < M) : mkRat x M - mkRat y M = mkRat (x - y) M := by
  rw [Rat.mkRat_eq_div, Rat.mkRat_eq_div, Rat.mkRat_eq_div]
  push_cast
  grind
theorem den_sub_dvd {a b : Rat} {M : Nat} (hM : 0 < M) (ha : a.den ∣ M) (hb : b.den ∣ M) : (a - b).den ∣ M := by
  obtain ⟨x, hx⟩ := ha
  obtain ⟨y, hy⟩ := hb
  have ex : 0 < x := by
    rcases Nat.eq_zero_or_pos x with z | z
    · subst z; omega
    · exact z
  have ey : 0 < y := by
    rcases Nat.eq_zero_or_pos y with z | z
    · subst z; omega
    · exact z
  have e1 : a = mkRat (a.num * x) M := by
    rw [hx, Int.mul_comm, Nat.mul_comm, Rat.mkRat_mul_left (by omega), Rat.mkRat_self]
  have e2 : b = mkRat (b.num * y) M := by
    rw [hy, Int.mul_comm, Nat.mul_comm, Rat.mkRat_mul_left (by omega), Rat.mkRat_self]
  have e3 : a - b = mkRat (a.num * x - b.num * y) M := by
    have := mkRat_sub' (a.num * x) (b.num * y) hM
    rw [← e1, ← e2] at this
    exact this
  rw [e3]
  exact mkRat_den_dvd _ _ hM
theorem den_minR {a b : Rat} {M : Nat} (ha : a.den ∣ M) (hb : b.den ∣ M) : (minR a b).den ∣ M := by
  unfold minR; split <;> assumption
theorem StOk.pay {M : Nat} {s : Sta} {p : Nat × Nat} (h : StOk M s) (c : canR s p) : StOk M (payR s p) := by
  obtain ⟨c1, c2, c3, c4⟩ := c
  have o1 := h.o0 _ (getD_mem (x := 0) c1)
  have d1 := h.d0 _ (getD_mem (x := 0) c2)
  have m1 := minR_le (s.1.getD p.1 0) (s.2.getD p.2 0)
  have m2 := minR_pos c3 c4
  have dm := den_minR o1.2.2 d1.2.2
  refine ⟨h.m0, h.m1, fun q hq => ?_, fun q hq => ?_, ?_, ?_, ?_⟩
  · rcases mem_set_of hq with hq | rfl
    · exact h.o0 q hq
    · unfold amtR
      exact ⟨by grind, by grind, den_sub_dvd h.m0 o1.2.2 dm⟩
  · rcases mem_set_of hq with hq | rfl
    · exact h.d0 q hq
    · unfold amtR
      exact ⟨by grind, by grind, den_sub_dvd h.m0 d1.2.2 dm⟩
  · show (s.1.set _ _).sum = (s.2.set _ _).sum
    rw [sum_setR _ _ _ c1, sum_setR _ _ _ c2, h.su]
    grind
  · show (s.1.set _ _).length ≤ 100
    rw [List.length_set]; exact h.lo
  · show (s.2.set _ _).length ≤ 100
    rw [List.length_set]; exact h.ld
theorem rowR_append : ∀ {s : Sta} {ps qs : List (Nat × Nat)}, rowR s (ps ++ qs) ↔ rowR s ps ∧ rowR (runR s ps) qs
  | s, [], qs => by simp [rowR, runR]
  | s, p :: ps, qs => by
    simp only [List.cons_append, rowR, rowR_append (s := payR s p), runR, List.foldl_cons]
    exact and_assoc.symm
theorem amtsR_append : ∀ (s : Sta) (ps qs : List (Nat × Nat)), amtsR s (ps ++ qs) = amtsR s ps ++ amtsR (runR s ps) qs
  | s, [], qs => rfl
  | s, p :: ps, qs => by
    simp only [List.cons_append, amtsR, amtsR_append (payR s p), runR, List.foldl_cons]
theorem runR_snoc (s : Sta) (ps : List (Nat × Nat)) (p : Nat × Nat) : runR s (ps ++ [p]) = payR (runR s ps) p := by
  simp [runR]
theorem StOk.run {M : Nat} : ∀ {s : Sta} {ps : List (Nat × Nat)}, StOk M s → rowR s ps → StOk M (runR s ps)
  | s, [], h, _ => h
  | s, p :: ps, h, r => StOk.run (s := payR s p) (h.pay r.1) r.2
theorem run_len : ∀ (s : Sta) (ps : List (Nat × Nat)), (runR s ps).1.length = s.1.length ∧ (runR s ps).2.length = s.2.length
  | s, [] => ⟨rfl, rfl⟩
  | s, p :: ps => by
    have := run_len (payR s p) ps
    simp only [payR, List.length_set] at this
    exact this
theorem zeros_of {l : List Rat} (h : ∀ q ∈ l, 0 ≤ q) (hs : l.sum = 0) : ∀ q ∈ l, q = 0 := by
  induction l with
  | nil => intro q hq; cases hq
  | cons a l ih =>
    have ha := h a List.mem_cons_self
    have hl : ∀ q ∈ l, 0 ≤ q := fun q hq => h q (List.mem_cons_of_mem _ hq)
    have h0 : 0 ≤ l.sum := by
      clear ih hs
      induction l with
      | nil => simp
      | cons b l ih =>
        rw [List.sum_cons]
        have := hl b List.mem_cons_self
        have := ih (fun q hq => h q (by rcases List.mem_cons.mp hq with e | e; exact e ▸ List.mem_cons_self; exact List.mem_cons_of_mem _ (List.mem_cons_of_mem _ e))) (fun q hq => hl q (List.mem_cons_of_mem _ hq))
        grind
    rw [List.sum_cons] at hs
    have e1 : a = 0 := by grind
    have e2 : l.sum = 0 := by grind
    intro q hq
    rcases List.mem_cons.mp hq with rfl | hq
    · exact e1
    · exact ih hl e2 q hq
/-- where nobody can pay all are quits -/
theorem over_zero {M : Nat} {s : Sta} (h : StOk M s) (o : overR s) : (∀ q ∈ s.1, q = 0) ∧ (∀ q ∈ s.2, q = 0) := by
  by_cases h1 : ∃ q ∈ s.1, 0 < q
  · obtain ⟨q, hq, q0⟩ := h1
    obtain ⟨i, hi, e⟩ := List.mem_iff_getElem.mp hq
    have h2 : ∀ r ∈ s.2, r = 0 := by
      intro r hr
      obtain ⟨j, hj, e2⟩ := List.mem_iff_getElem.mp hr
      have r0 := (h.d0 r hr).1
      by_cases hr0 : 0 < r
      · exfalso
        refine o (i, j) ⟨hi, hj, ?_, ?_⟩
        · rw [List.getD_eq_getElem?_getD, List.getElem?_eq_getElem hi, e]; exact q0
        · rw [List.getD_eq_getElem?_getD, List.getElem?_eq_getElem hj, e2]; exact hr0
      · grind
    have s2 : s.2.sum = 0 := by
      generalize s.2 = l at h2
      induction l with
      | nil => simp
      | cons a l ih => rw [List.sum_cons, h2 a List.mem_cons_self, ih fun q hq => h2 q (List.mem_cons_of_mem _ hq)]; grind
    exact ⟨zeros_of (fun q hq => (h.o0 q hq).1) (by rw [h.su, s2]), h2⟩
  · have h2 : ∀ q ∈ s.1, q = 0 := by
      intro q hq
      have := (h.o0 q hq).1
      have : ¬ 0 < q := fun z => h1 ⟨q, hq, z⟩
      grind
    have s1 : s.1.sum = 0 := by
      generalize s.1 = l at h2
      induction l with
      | nil => simp
      | cons a l ih => rw [List.sum_cons, h2 a List.mem_cons_self, ih fun q hq => h2 q (List.mem_cons_of_mem _ hq)]; grind
    exact ⟨h2, zeros_of (fun q hq => (h.d0 q hq).1) (by rw [← h.su, s1])⟩
/-- how many are not quits -/
def nzL : List Rat → Nat
  | [] => 0
  | a :: l => (if a = 0 then 0 else 1) + nzL l
def nzR (s : Sta) : Nat := nzL s.1 + nzL s.2
theorem nzL_set : ∀ (l : List Rat) (i : Nat) (y : Rat), i < l.length → l.getD i 0 ≠ 0 → nzL (l.set i y) ≤ nzL l ∧ (y = 0 → nzL (l.set i y) + 1 ≤ nzL l)
  | [], _, _, h, _ => by simp at h
  | a :: l, 0, y, _, hn => by
    simp only [List.getD_cons_zero] at hn
    simp only [List.set_cons_zero, nzL, if_neg hn]
    refine ⟨by split <;> omega, fun z => ?_⟩
    rw [if_pos z]; omega
  | a :: l, i + 1, y, h, hn => by
    have ih := nzL_set l i y (by simpa using h) (by simpa using hn)
    simp only [List.set_cons_succ, nzL]
    refine ⟨by have := ih.1; omega, fun z => by have := ih.2 z; omega⟩
theorem nzL_le : ∀ l : List Rat, nzL l ≤ l.length
  | [] => Nat.le_refl _
  | a :: l => by
    have := nzL_le l
    simp only [nzL, List.length_cons]
    split <;> omega
theorem nzL_zero : ∀ {l : List Rat}, nzL l = 0 → ∀ q ∈ l, q = 0
  | [], _, q, hq => by cases hq
  | a :: l, h, q, hq => by
    simp only [nzL] at h
    by_cases ha : a = 0
    · rcases List.mem_cons.mp hq with rfl | hq
      · exact ha
      · exact nzL_zero (by omega) q hq
    · rw [if_neg ha] at h; omega
theorem nzR_pay {s : Sta} {p : Nat × Nat} (c : canR s p) : nzR (payR s p) + 1 ≤ nzR s := by
  obtain ⟨c1, c2, c3, c4⟩ := c
  have h1 := nzL_set s.1 p.1 (s.1.getD p.1 0 - amtR s p) c1 (by grind)
  have h2 := nzL_set s.2 p.2 (s.2.getD p.2 0 - amtR s p) c2 (by grind)
  have h3 : s.1.getD p.1 0 - amtR s p = 0 ∨ s.2.getD p.2 0 - amtR s p = 0 := by
    unfold amtR minR
    split <;> grind
  show nzL (s.1.set _ _) + nzL (s.2.set _ _) + 1 ≤ nzL s.1 + nzL s.2
  rcases h3 with h3 | h3
  · have := h1.2 h3; omega
  · have := h2.2 h3; omega
theorem nzR_run : ∀ {s : Sta} {ps : List (Nat × Nat)}, rowR s ps → nzR (runR s ps) + ps.length ≤ nzR s
  | s, [], _ => Nat.le_refl _
  | s, p :: ps, r => by
    have := nzR_run r.2
    have := nzR_pay r.1
    simp only [List.length_cons]
    have e : runR s (p :: ps) = runR (payR s p) ps := rfl
    rw [e]; omega
theorem over_of_nz {s : Sta} (h : nzR s = 0) : overR s := by
  rintro p ⟨c1, c2, c3, c4⟩
  have h1 : nzL s.1 = 0 := by unfold nzR at h; omega
  have := nzL_zero h1 _ (getD_mem (x := 0) c1)
  grind
/-- what is paid and what is left -/
theorem paid_sum : ∀ {s : Sta} {ps : List (Nat × Nat)}, rowR s ps → (amtsR s ps).sum + (runR s ps).1.sum = s.1.sum
  | s, [], _ => by simp [amtsR, runR, Rat.zero_add]
  | s, p :: ps, r => by
    have ih := paid_sum r.2
    have e : runR s (p :: ps) = runR (payR s p) ps := rfl
    have e2 : (payR s p).1.sum = s.1.sum - amtR s p := by
      show (s.1.set _ _).sum = _
      rw [sum_setR _ _ _ r.1.1]
      grind
    rw [e]
    simp only [amtsR, List.sum_cons]
    rw [e2] at ih
    grind
theorem amts_ok {M : Nat} : ∀ {s : Sta} {ps : List (Nat × Nat)}, StOk M s → rowR s ps → ∀ q ∈ amtsR s ps, 0 < q ∧ q ≤ (2 ^ 88 : Nat) ∧ q.den ∣ M
  | s, [], _, _ => by intro q hq; cases hq
  | s, p :: ps, h, r => by
    intro q hq
    rcases List.mem_cons.mp hq with rfl | hq
    · have o1 := h.o0 _ (getD_mem (x := 0) r.1.1)
      have d1 := h.d0 _ (getD_mem (x := 0) r.1.2.1)
      exact ⟨minR_pos r.1.2.2.1 r.1.2.2.2, Rat.le_trans (minR_le _ _).1 o1.2.1, den_minR o1.2.2 d1.2.2⟩
    · exact amts_ok (h.pay r.1) r.2 q hq
theorem amts_len : ∀ (s : Sta) (ps : List (Nat × Nat)), (amtsR s ps).length = ps.length
  | s, [] => rfl
  | s, p :: ps => by simp [amtsR, amts_len]
theorem StOk.bd {M : Nat} {q : Rat} (m1 : M < 2 ^ 48) (m0 : 0 < M) (h0 : 0 ≤ q) (h1 : q ≤ (2 ^ 88 : Nat)) (h2 : q.den ∣ M) : q.num.natAbs < 2 ^ 140 ∧ q.num.natAbs < 2 ^ 230 ∧ q.den < 2 ^ 60 := by
  have hd := Nat.le_of_dvd m0 h2
  have hn : 0 ≤ q.num := Rat.num_nonneg.mpr h0
  rw [Rat.le_iff] at h1
  have e1 : (((2 ^ 88 : Nat) : Rat)).num = ((2 ^ 88 : Nat) : Int) := rfl
  have e2 : (((2 ^ 88 : Nat) : Rat)).den = 1 := rfl
  rw [e1, e2] at h1
  have e3 : ((2 ^ 88 : Nat) : Int) * (q.den : Int) = ((2 ^ 88 * q.den : Nat) : Int) := (Int.natCast_mul _ _).symm
  rw [e3] at h1
  have h3 : q.num.natAbs ≤ 2 ^ 88 * q.den := by omega
  have h4 : 2 ^ 88 * q.den < 2 ^ 88 * 2 ^ 48 := Nat.mul_lt_mul_of_pos_left (by omega) (by decide)
  have h5 : (2 : Nat) ^ 88 * 2 ^ 48 < 2 ^ 140 := by decide
  have h6 : (2 : Nat) ^ 140 < 2 ^ 230 := by decide
  have h7 : (2 : Nat) ^ 48 < 2 ^ 60 := by decide
  omega
/-- what is drawn is right for payments -/
theorem nat_le_rat {q : Rat} (h0 : 0 < q.num) (h : q.num.natAbs < 2 ^ 88) : 0 ≤ q ∧ q ≤ (2 ^ 88 : Nat) := by
  have hd : 0 < q.den := Nat.pos_of_ne_zero q.den_nz
  refine ⟨Rat.num_nonneg.mp (by omega), ?_⟩
  rw [Rat.le_iff]
  have e1 : (((2 ^ 88 : Nat) : Rat)).num = ((2 ^ 88 : Nat) : Int) := rfl
  have e2 : (((2 ^ 88 : Nat) : Rat)).den = 1 := rfl
  rw [e1, e2]
  have e3 : ((2 ^ 88 : Nat) : Int) * (q.den : Int) = ((2 ^ 88 * q.den : Nat) : Int) := (Int.natCast_mul _ _).symm
  rw [e3]
  have h4 : 2 ^ 88 * 1 ≤ 2 ^ 88 * q.den := Nat.mul_le_mul_left _ hd
  omega
theorem Drawn.stOk {side : Nat} {o d : List Rat} (h : Drawn side o d) (hs : side ≤ 100) : ∃ M, StOk M (o, d) := by
  obtain ⟨h1, h2, h3, h4, h5, h6, h7, h8, ⟨M, ⟨m0, m1⟩, m2⟩, h9⟩ := h
  refine ⟨M, m0, m2, fun q hq => ?_, fun q hq => ?_, h5, by show o.length ≤ 100; omega, by show d.length ≤ 100; omega⟩
  · have := nat_le_rat (h6 q hq) (h9 q (List.mem_append_left _ hq))
    exact ⟨this.1, this.2, m1 q (List.mem_append_left _ hq)⟩
  · have := nat_le_rat (h7 q hq) (h9 q (List.mem_append_right _ hq))
    exact ⟨this.1, this.2, m1 q (List.mem_append_right _ hq)⟩
theorem ImL.set {H : Hp} : ∀ {vs : List V} {ds : List PyData} (i : Nat) {v : V} {d : PyData}, ImL H vs ds → Im H v d → ImL H (vs.set i v) (ds.set i d)
  | [], [], _, _, _, _, _ => by simp [ImL]
  | v :: vs, d :: ds, 0, _, _, h, q => by
    simp only [ImL] at h
    simp only [List.set_cons_zero, ImL]
    exact ⟨q, h.2⟩
  | v :: vs, d :: ds, i + 1, _, _, h, q => by
    simp only [ImL] at h
    simp only [List.set_cons_succ, ImL]
    exact ⟨h.1, ImL.set i h.2 q⟩
  | [], _ :: _, _, _, _, h, _ => by simp [ImL] at h
  | _ :: _, [], _, _, _, h, _ => by simp [ImL] at h
theorem ImL.fr_get {H : Hp} {vs : List V} {qs : List Rat} {i : Nat} (h : ImL H vs (qs.map fr)) (hi : i < qs.length) : ∃ v, vs[i]? = some v ∧ Im H v (fr (qs.getD i 0)) := by
  refine h.get' ?_
  rw [List.getElem?_map, getD_some (x := 0) hi]; rfl
/-- both sides, taken apart -/
theorem Im.st_at {H : Hp} {v : V} {s : List Rat × List Rat} (h : Im H v (.tuple [.tuple (s.1.map fr), .tuple (s.2.map fr)])) : ∃ p x y, v = .ref p ∧ H p = some (.tup [x, y]) ∧ Im H x (.tuple (s.1.map fr)) ∧ Im H y (.tuple (s.2.map fr)) := by
  obtain ⟨a, xs, rfl, ha, hl⟩ := h.tup_at
  obtain ⟨x, y, rfl⟩ : ∃ x y, xs = [x, y] := by
    match xs, hl with
    | [x, y], _ => exact ⟨x, y, rfl⟩
  simp only [ImL] at hl
  exact ⟨a, x, y, rfl, ha, hl.1, hl.2.1⟩
/-- the pairs in a list that can pay, and none is lacking -/
def gPair (s : List Rat × List Rat) (i j : Nat) : List (Nat × Nat) := if s.2.getD j 0 ≠ 0 then [(i, j)] else []
theorem gPair_len (s : List Rat × List Rat) (i j : Nat) : (gPair s i j).length ≤ 1 := by
  unfold gPair; split <;> simp
end QW

namespace QW
open PySem L2
/-! ### != by an own __eq__ -/
section
variable {prog : Program} {w : World} {A : Around} {E : Value → Shared → Prop} {s : Shared} {K : PySem.W.Frag} {x C L f : Addr} {h₀ : Heap} {m : Str → Option Value} {ox : Obj} {od : Option Obj} {b tb : Value}
open PySem.W in
theorem ifBound_B {M : Model} {name : Str} {id : String} {args : List Value} {Q : Option Value → Shared → Prop} (X : K.In s.heap) (I : InstAt s.heap x ox C od) (hs : findIn K (.ref C) name = some (some (.builtin id)))
    (hb : ∀ self, bindSpecial (.builtin id) self = pure (.builtin id, [self])) (h : wpAny M A (call (.builtin id) (.ref x :: args)) (fun v => Q (some v)) E s) : wpAny M A (callSpecialIfBound? (.ref x) name args) Q E s := by
  simp only [callSpecialIfBound?, bindSpecialIfBound?]
  refine wpAny_holding (wpAny_bind (wpAny_bind (wpAny_bind (I.type.here ((looks_findIn X hs).here ?_)))))
  refine wpAny_bind (wpAny_askSetting (wpAny_ite ?_))
  have fin : wpAny M A (call (.builtin id) ([.ref x] ++ args) >>= fun v => pure (some v)) Q E s := wpAny_bind (wpAny_mono h (fun v s' h' => wpAny_pure h') fun _ _ h' => h')
  split
  · exact wpAny_bind ((Looks.of_pure (hb _)).here (wpAny_pure (by exact fin)))
  · exact wpAny_tryCatch (wpAny_bind ((Looks.of_pure (hb _)).here (wpAny_pure (by exact fin))))
open PySem.W Builtin in
theorem obj_ne {y : Addr} {Q : Value → Shared → Prop} (hu : A.in1.units < cLine) (X : K.In s.heap) (I : InstAt s.heap x ox C od) (hm : mroIn K C (.type "object") = some true) (hr : findIn K (.ref C) "__eq__" = some (some (.ref f))) (hf : isFn K (.ref f) = true)
    (h : wpAny (model prog w) A.in1 (call (.ref f) [.ref x, .ref y]) (fun v s' => ∃ b, v = .bool b ∧ Q (.bool (!b)) s') E s) : wpAny (model prog w) A (call (.builtin "object.__ne__") [.ref x, .ref y]) Q E s := by
  refine wpAny_call (codeAny_call_builtin PySem.F.slot_object_ne.plain PySem.F.entry_object_ne (@check_slot (model prog w) _ _ s "object.__ne__" "object" "__ne__" (.ref x) [.ref y] [] _ (by decide +kernel) (by decide +kernel) (I.type.andThen (looks_mroIn X hm)) (PySem.F.args_object_ne_2 _ _) ?_))
  unfold Builtin.«object.__ne__»
  refine wpAny_bind (m := slotArgs "__ne__" 1 _) (wpAny_pure ?_)
  refine wpAny_bind (m := cRoomFor _ _) (wpAny_cRoomFor hu ?_)
  refine wpAny_bind (m := callSpecialIfBound? (.ref x) (Str.ofString "__eq__") _) (ifBound_K X I hr hf (wpAny_mono h (fun r s' hq => ?_) fun _ _ y => y))
  obtain ⟨b, rfl, q⟩ := hq
  refine wpAny_bind (m := truthy (.bool b)) (wpAny_truthy_bool ?_)
  exact wpAny_pure q
open PySem.W in
theorem ne_own {y : Addr} {Q : Value → Shared → Prop} {oy : Obj} {oe : Option Obj} (hu : A.units < cLine) (hu1 : A.in1.units < cLine) (X : K.In s.heap) (I : InstAt s.heap x ox C od) (J : InstAt s.heap y oy C oe) (hm : mroIn K C (.type "object") = some true)
    (hn : findIn K (.ref C) "__ne__" = some (some (.builtin "object.__ne__"))) (hr : findIn K (.ref C) "__eq__" = some (some (.ref f))) (hf : isFn K (.ref f) = true)
    (h : wpAny (model prog w) A.in1 (call (.ref f) [.ref x, .ref y]) (fun v s' => ∃ b, v = .bool b ∧ Q (.bool (!b)) s') E s) : wpAny (model prog w) A (compareOp .NotEq (.ref x) (.ref y)) Q E s := by
  have one : wpAny (model prog w) A (tryCompare (.ref x) (cmpInfo .NotEq).2.1 (.ref y)) (fun r s' => ∃ v, r = some v ∧ Q v s') E s := by
    unfold tryCompare
    refine wpAny_bind (ifBound_B X I hn PySem.F.slot_object_ne.bind (obj_ne hu1 X I hm hr hf (wpAny_mono h (fun v s' hv => ?_) fun _ _ e => e)))
    obtain ⟨b, rfl, hq⟩ := hv
    exact ⟨b, rfl, wpAny_pure ⟨_, rfl, hq⟩⟩
  unfold compareOp
  show wpAny (model prog w) A (richCompare .NotEq (.ref x) (.ref y)) Q E s
  unfold richCompare
  simp only [oneThing_ref]
  refine wpAny_holding (wpAny_bind (wpAny_cRoomFor hu ?_))
  refine wpAny_bind (I.type.here (wpAny_bind (J.type.here ?_)))
  rw [show (Value.ref C != Value.ref C) = false from by simp]
  simp only [Bool.false_eq_true, if_false]
  refine wpAny_bind (wpAny_pure ?_)
  simp only [Bool.false_eq_true, if_false]
  refine wpAny_bind (wpAny_mono one (fun r s' z => ?_) fun _ _ e => e)
  obtain ⟨v, rfl, hq⟩ := z
  exact wpAny_pure hq
end
/-- x != y, both instances of the class at C with its own __eq__ -/
def rOwnNe (C : Addr) (sp : Sp) : R2 := fun x y H Q => ∃ a dx fs b dy gs, x = .ref a ∧ y = .ref b ∧ H a = some (.ins C dx fs) ∧ H b = some (.ins C dy gs) ∧ sp [x, y] H (fun z H' => ∃ c, z = .bl c ∧ Q (.bl (!c)) H') E0
theorem op_ownNe {X : Cx} {C f : Addr} {fd : FuncData} {ps : List Str} {sp : Sp} {k : Nat} (hm : PySem.W.mroIn X.K C (.type "object") = some true) (hn : PySem.W.findIn X.K (.ref C) "__ne__" = some (some (.builtin "object.__ne__")))
    (M : Meth X.K C "__eq__" f) (F : FnOk X.prog X.w X.K X.mg X.base CX0 k f fd ps sp) (hb : Binds X.K fd ps []) (hr : Room (k + 1) X.A) : OpR X (compareOp .NotEq) (rOwnNe C sp) := by
  intro pins s σ H x y v u Q I rx ry h
  obtain ⟨a, dx, fs, b, dy, gs, rfl, rfl, ha, hb', q⟩ := h
  cases rx
  cases ry
  obtain ⟨mA, J, _⟩ := ins_get I.hok ha
  obtain ⟨mB, J', _⟩ := ins_get I.hok hb'
  obtain ⟨od, J, _⟩ := J.look
  obtain ⟨od', J', _⟩ := J'.look
  have e0 : Env0 X.prog X.w X.K X.mg X.base X.A.in1 X.stack s H := by
    have e := I.env0
    exact ⟨e.frames, e.mod, e.bs, e.bsz, e.funs, e.frf, e.hok, e.bare⟩
  have hl := F.len _ _ _ _ q
  have r2 : Vals [V.ref a, V.ref b] [Value.ref a, Value.ref b] := .cons rfl (.cons rfl .nil)
  refine ne_own hr.units0 hr.in1.units0 I.kIn J J' hm hn M.at_ M.fn ?_
  refine wpAny_call (codeAny_mono (F.run X.A.in1 X.stack s H ⟨[.ref a, .ref b], []⟩ [.ref a, .ref b] [.ref a, .ref b] _ E0 hr.in1 e0 (by
    have := hb s [.ref a, .ref b] I.kIn (by simpa using hl)
    simpa using this) r2 q) fun r s' hq => ?_)
  cases r with
  | error e => exact pass0 pins σ H s e s' I hq
  | ok fl =>
    cases fl with
    | ret w =>
      obtain ⟨z, H', I', rz, c, ez, qz⟩ := I.after hq
      subst ez
      cases rz
      exact ⟨c, rfl, .bl (!c), H', I', rfl, qz⟩
    | next => exact False.elim hq
    | brk => exact False.elim hq
    | cont => exact False.elim hq

/-! ### == and != of an instance with an own __eq__ against anything -/
section
variable {prog : Program} {w : World} {A : Around} {E : Value → Shared → Prop} {s : Shared} {K : PySem.W.Frag} {x C L f : Addr} {h₀ : Heap} {m : Str → Option Value} {ox : Obj} {od : Option Obj} {b tb : Value}
open PySem.W Builtin in
theorem obj_neA {y : Value} {Q : Value → Shared → Prop} (hu : A.in1.units < cLine) (X : K.In s.heap) (I : InstAt s.heap x ox C od) (hm : mroIn K C (.type "object") = some true) (hr : findIn K (.ref C) "__eq__" = some (some (.ref f))) (hf : isFn K (.ref f) = true)
    (h : wpAny (model prog w) A.in1 (call (.ref f) [.ref x, y]) (fun v s' => ∃ b, v = .bool b ∧ Q (.bool (!b)) s') E s) : wpAny (model prog w) A (call (.builtin "object.__ne__") [.ref x, y]) Q E s := by
  refine wpAny_call (codeAny_call_builtin PySem.F.slot_object_ne.plain PySem.F.entry_object_ne (@check_slot (model prog w) _ _ s "object.__ne__" "object" "__ne__" (.ref x) [y] [] _ (by decide +kernel) (by decide +kernel) (I.type.andThen (looks_mroIn X hm)) (PySem.F.args_object_ne_2 _ _) ?_))
  unfold Builtin.«object.__ne__»
  refine wpAny_bind (m := slotArgs "__ne__" 1 _) (wpAny_pure ?_)
  refine wpAny_bind (m := cRoomFor _ _) (wpAny_cRoomFor hu ?_)
  refine wpAny_bind (m := callSpecialIfBound? (.ref x) (Str.ofString "__eq__") _) (ifBound_K X I hr hf (wpAny_mono h (fun r s' hq => ?_) fun _ _ y => y))
  obtain ⟨b, rfl, q⟩ := hq
  refine wpAny_bind (m := truthy (.bool b)) (wpAny_truthy_bool ?_)
  exact wpAny_pure q
open PySem.W in
theorem ne_ownA {y : Value} {Q : Value → Shared → Prop} (hu : A.units < cLine) (hu1 : A.in1.units < cLine) (X : K.In s.heap) (I : InstAt s.heap x ox C od) (hb : Looks (model prog w) s.heap (typeOf y) tb) (hnf : notFirst K C tb = true) (hm : mroIn K C (.type "object") = some true)
    (hn : findIn K (.ref C) "__ne__" = some (some (.builtin "object.__ne__"))) (hr : findIn K (.ref C) "__eq__" = some (some (.ref f))) (hf : isFn K (.ref f) = true)
    (h : wpAny (model prog w) A.in1 (call (.ref f) [.ref x, y]) (fun v s' => ∃ b, v = .bool b ∧ Q (.bool (!b)) s') E s) : wpAny (model prog w) A (compareOp .NotEq (.ref x) y) Q E s := by
  have one : wpAny (model prog w) A (tryCompare (.ref x) (cmpInfo .NotEq).2.1 y) (fun r s' => ∃ v, r = some v ∧ Q v s') E s := by
    unfold tryCompare
    refine wpAny_bind (ifBound_B X I hn PySem.F.slot_object_ne.bind (obj_neA hu1 X I hm hr hf (wpAny_mono h (fun v s' hv => ?_) fun _ _ e => e)))
    obtain ⟨b, rfl, hq⟩ := hv
    exact ⟨b, rfl, wpAny_pure ⟨_, rfl, hq⟩⟩
  unfold compareOp
  show wpAny (model prog w) A (richCompare .NotEq (.ref x) y) Q E s
  unfold richCompare
  simp only [oneThing_ref]
  refine wpAny_holding (wpAny_bind (wpAny_cRoomFor hu ?_))
  refine wpAny_bind (I.type.here (wpAny_bind (hb.here ?_)))
  split
  · rename_i q
    have e : subIn K tb (.ref C) = some false := by
      rcases Bool.or_eq_true_iff.mp hnf with e | e
      · rw [beq_iff_eq.mp e] at q; simp at q
      · exact beq_iff_eq.mp e
    refine wpAny_bind ((looks_subIn X e).here ?_)
    simp only [Bool.false_eq_true, if_false]
    refine wpAny_bind (wpAny_mono one (fun r s' z => ?_) fun _ _ e => e)
    obtain ⟨v, rfl, hq⟩ := z
    exact wpAny_pure hq
  · refine wpAny_bind (wpAny_pure ?_)
    simp only [Bool.false_eq_true, if_false]
    refine wpAny_bind (wpAny_mono one (fun r s' z => ?_) fun _ _ e => e)
    obtain ⟨v, rfl, hq⟩ := z
    exact wpAny_pure hq
end
/-- x == y, x an instance of the class at C with its own __eq__, y anything of a class not below C -/
def rOwnEqA (K : PySem.W.Frag) (C : Addr) (sp : Sp) : R2 := fun x y H Q => ∃ a dx fs t, x = .ref a ∧ H a = some (.ins C dx fs) ∧ TyX K H y t ∧ PySem.W.notFirst K C t = true ∧ sp [x, y] H (fun z H' => ∃ c, z = .bl c ∧ Q (.bl c) H') E0
def rOwnNeA (K : PySem.W.Frag) (C : Addr) (sp : Sp) : R2 := fun x y H Q => ∃ a dx fs t, x = .ref a ∧ H a = some (.ins C dx fs) ∧ TyX K H y t ∧ PySem.W.notFirst K C t = true ∧ sp [x, y] H (fun z H' => ∃ c, z = .bl c ∧ Q (.bl (!c)) H') E0
section
variable {X : Cx} {C f : Addr} {fd : FuncData} {ps : List Str} {sp : Sp} {k : Nat}
theorem own_run {pins : List (Addr × Obj)} {σ : St} {H : Hp} {s : Shared} {A : Around} {x y : V} {u v : Value} {Q : VK} (M : Meth X.K C "__eq__" f) (F : FnOk X.prog X.w X.K X.mg X.base CX0 k f fd ps sp) (hb : Binds X.K fd ps []) (hr : Room k A) (hf : A.frames = X.A.frames)
    (I : Inv X pins σ H s) (rx : RelV x u) (ry : RelV y v) (q : sp [x, y] H Q E0) : wpAny (model X.prog X.w) A (call (.ref f) [u, v]) (EP X pins σ Q) X.xe s := by
  have e0 : Env0 X.prog X.w X.K X.mg X.base A X.stack s H := by
    have e := I.env0
    exact ⟨by rw [hf]; exact e.frames, e.mod, e.bs, e.bsz, e.funs, e.frf, e.hok, e.bare⟩
  have hl := F.len _ _ _ _ q
  have r2 : Vals [x, y] [u, v] := .cons rx (.cons ry .nil)
  refine wpAny_call (codeAny_mono (F.run A X.stack s H ⟨[u, v], []⟩ [u, v] [x, y] Q E0 hr e0 (by
    have := hb s [u, v] I.kIn (by simpa using hl)
    simpa using this) r2 q) fun r s' hq => ?_)
  cases r with
  | error e => exact pass0 pins σ H s e s' I hq
  | ok fl =>
    cases fl with
    | ret w => exact I.after hq
    | next => exact False.elim hq
    | brk => exact False.elim hq
    | cont => exact False.elim hq
theorem op_ownNeA (hm : PySem.W.mroIn X.K C (.type "object") = some true) (hn : PySem.W.findIn X.K (.ref C) "__ne__" = some (some (.builtin "object.__ne__")))
    (M : Meth X.K C "__eq__" f) (F : FnOk X.prog X.w X.K X.mg X.base CX0 k f fd ps sp) (hb : Binds X.K fd ps []) (hr : Room (k + 1) X.A) : OpR X (compareOp .NotEq) (rOwnNeA X.K C sp) := by
  intro pins s σ H x y v u Q I rx ry h
  obtain ⟨a, dx, fs, t, rfl, ha, ty, hnf, q⟩ := h
  cases (show v = Value.ref a from rx)
  obtain ⟨mA, J, _⟩ := ins_get I.hok ha
  obtain ⟨od, J, _⟩ := J.look
  obtain ⟨P, Z, hP, _⟩ := kit_of I ry ty
  refine ne_ownA hr.units0 hr.in1.units0 I.kIn J (Z.ty _ _ I.kIn hP) hnf hm hn M.at_ M.fn ?_
  refine wpAny_mono (own_run M F hb hr.in1 rfl I (show RelV (.ref a) (.ref a) from rfl) ry q) (fun r s' hq => ?_) fun _ _ x => x
  obtain ⟨z, H', I', rz, c, ez, qz⟩ := hq
  subst ez
  cases rz
  exact ⟨c, rfl, .bl (!c), H', I', rfl, qz⟩
theorem op_ownEqA (M : Meth X.K C "__eq__" f) (F : FnOk X.prog X.w X.K X.mg X.base CX0 k f fd ps sp) (hb : Binds X.K fd ps []) (hr : Room k X.A) : OpR X (compareOp .Eq) (rOwnEqA X.K C sp) := by
  intro pins s σ H x y v u Q I rx ry h
  obtain ⟨a, dx, fs, t, rfl, ha, ty, hnf, q⟩ := h
  cases (show v = Value.ref a from rx)
  obtain ⟨mA, J, _⟩ := ins_get I.hok ha
  obtain ⟨od, J, _⟩ := J.look
  obtain ⟨P, Z, hP, _⟩ := kit_of I ry ty
  obtain ⟨m, hF⟩ := I.fr
  refine PySem.W.cmp_K (op := .Eq) hr.units0 hF I.ok.mod.kin J (Z.ty _ _ I.kIn hP) hnf M.at_ M.fn ?_
  refine wpAny_mono (own_run M F hb hr rfl I (show RelV (.ref a) (.ref a) from rfl) ry q) (fun r s' hq => ?_) fun _ _ x => x
  obtain ⟨z, H', I', rz, c, ez, qz⟩ := hq
  subst ez
  cases rz
  exact ⟨.bl c, H', I', rfl, qz⟩
end
end QW

namespace QW
open PySem L2
/-! ### things of any kind: ints, flags, tuples of things, others -/
inductive Th where
  | int (i : Int)
  | bl (b : Bool)
  | tup (l : List Th)
  | oth
mutual
def ThR (P : Addr → Prop) (H : Hp) : V → Th → Prop
  | v, .int i => v = .int i
  | v, .bl b => v = .bl b
  | v, .tup ds => ∃ a vs, v = .ref a ∧ H a = some (.tup vs) ∧ ThL P H vs ds
  | v, .oth => v = .non ∨ (∃ x, v = .str x) ∨ (∃ a xs, v = .ref a ∧ P a ∧ H a = some (.lst xs)) ∨ (∃ a kvs, v = .ref a ∧ P a ∧ H a = some (.dK kvs))
def ThL (P : Addr → Prop) (H : Hp) : List V → List Th → Prop
  | [], [] => True
  | v :: vs, d :: ds => ThR P H v d ∧ ThL P H vs ds
  | [], _ :: _ => False
  | _ :: _, [] => False
end
structure Kp (P : Addr → Prop) (H H' : Hp) : Prop where
  lst : ∀ b xs, P b → H b = some (.lst xs) → ∃ ys, H' b = some (.lst ys)
  dk : ∀ b kvs, P b → H b = some (.dK kvs) → H' b = some (.dK kvs)
  tup : ∀ b xs, H b = some (.tup xs) → H' b = some (.tup xs)
theorem Same.kp {P : Addr → Prop} {H H' : Hp} (s : Same H H') : Kp P H H' := ⟨fun b xs _ e => ⟨xs, s b _ e⟩, fun b xs _ e => s b _ e, fun b xs e => s b _ e⟩
theorem KL.kp {m : Addr} {P : Addr → Prop} {H H' : Hp} (s : KL m H H') : Kp P H H' := ⟨fun b xs _ e => s.lst b xs e, fun b xs _ e => s.dk b xs e, s.tup⟩
theorem KS.kp {S : List Addr} {P : Addr → Prop} {H H' : Hp} (s : KS S H H') : Kp P H H' := ⟨fun b xs _ e => s.lst b xs e, fun b xs _ e => s.dk b xs e, s.tup⟩
mutual
theorem ThR.mono {P P' : Addr → Prop} {H H' : Hp} (hp : ∀ a, P a → P' a) (k : Kp P H H') : ∀ {v : V} (d : Th), ThR P H v d → ThR P' H' v d
  | _, .int _, h => by simpa [ThR] using h
  | _, .bl _, h => by simpa [ThR] using h
  | _, .tup ds, h => by
    simp only [ThR] at h ⊢
    obtain ⟨a, vs, e, ha, hl⟩ := h
    exact ⟨a, vs, e, k.tup _ _ ha, ThL.mono hp k ds hl⟩
  | _, .oth, h => by
    simp only [ThR] at h ⊢
    rcases h with h | h | ⟨a, xs, e, pa, ha⟩ | ⟨a, xs, e, pa, ha⟩
    · exact .inl h
    · exact .inr (.inl h)
    · obtain ⟨ys, e2⟩ := k.lst _ _ pa ha
      exact .inr (.inr (.inl ⟨a, ys, e, hp _ pa, e2⟩))
    · exact .inr (.inr (.inr ⟨a, xs, e, hp _ pa, k.dk _ _ pa ha⟩))
theorem ThL.mono {P P' : Addr → Prop} {H H' : Hp} (hp : ∀ a, P a → P' a) (k : Kp P H H') : ∀ {vs : List V} (ds : List Th), ThL P H vs ds → ThL P' H' vs ds
  | [], [], _ => by simp [ThL]
  | v :: vs, d :: ds, h => by
    simp only [ThL] at h ⊢
    exact ⟨ThR.mono hp k d h.1, ThL.mono hp k ds h.2⟩
  | [], _ :: _, h => by simp [ThL] at h
  | _ :: _, [], h => by simp [ThL] at h
end
theorem ThR.mon {P : Addr → Prop} {H H' : Hp} (k : Kp P H H') {v : V} {d : Th} (h : ThR P H v d) : ThR P H' v d := ThR.mono (fun _ h => h) k d h
theorem sm_th {P : Addr → Prop} {v : V} {d : Th} {H H' : Hp} (s : Same H H') (h : ThR P H v d) : ThR P H' v d := h.mon (Same.kp s)
theorem kl_th {m : Addr} {P : Addr → Prop} {v : V} {d : Th} {H H' : Hp} (s : KL m H H') (h : ThR P H v d) : ThR P H' v d := h.mon s.kp
theorem ks_th {S : List Addr} {P : Addr → Prop} {v : V} {d : Th} {H H' : Hp} (s : KS S H H') (h : ThR P H v d) : ThR P H' v d := h.mon s.kp
theorem ThL.mon {P : Addr → Prop} {H H' : Hp} (k : Kp P H H') {v : List V} {d : List Th} (h : ThL P H v d) : ThL P H' v d := ThL.mono (fun _ h => h) k d h
mutual
theorem ThR.live {P P' : Addr → Prop} {H : Hp} (hp : ∀ a, P a → H a ≠ none → P' a) : ∀ {v : V} (d : Th), ThR P H v d → ThR P' H v d
  | _, .int _, h => by simpa [ThR] using h
  | _, .bl _, h => by simpa [ThR] using h
  | _, .tup ds, h => by
    simp only [ThR] at h ⊢
    obtain ⟨a, vs, e, ha, hl⟩ := h
    exact ⟨a, vs, e, ha, ThL.live hp ds hl⟩
  | _, .oth, h => by
    simp only [ThR] at h ⊢
    rcases h with h | h | ⟨a, xs, e, pa, ha⟩ | ⟨a, xs, e, pa, ha⟩
    · exact .inl h
    · exact .inr (.inl h)
    · exact .inr (.inr (.inl ⟨a, xs, e, hp _ pa (by rw [ha]; simp), ha⟩))
    · exact .inr (.inr (.inr ⟨a, xs, e, hp _ pa (by rw [ha]; simp), ha⟩))
theorem ThL.live {P P' : Addr → Prop} {H : Hp} (hp : ∀ a, P a → H a ≠ none → P' a) : ∀ {vs : List V} (ds : List Th), ThL P H vs ds → ThL P' H vs ds
  | [], [], _ => by simp [ThL]
  | v :: vs, d :: ds, h => by
    simp only [ThL] at h ⊢
    exact ⟨ThR.live hp d h.1, ThL.live hp ds h.2⟩
  | [], _ :: _, h => by simp [ThL] at h
  | _ :: _, [], h => by simp [ThL] at h
end
theorem ThL.length {P : Addr → Prop} {H : Hp} : ∀ {vs : List V} {ds : List Th}, ThL P H vs ds → vs.length = ds.length
  | [], [], _ => rfl
  | v :: vs, d :: ds, h => by
    simp only [ThL] at h
    simp [ThL.length h.2]
  | [], _ :: _, h => by simp [ThL] at h
  | _ :: _, [], h => by simp [ThL] at h
theorem ThL.get {P : Addr → Prop} {H : Hp} : ∀ {vs : List V} {ds : List Th} {i : Nat} {v : V}, ThL P H vs ds → vs[i]? = some v → ∃ d, ds[i]? = some d ∧ ThR P H v d
  | [], [], _, _, _, e => by simp at e
  | v :: vs, d :: ds, 0, w, h, e => by
    simp only [ThL] at h
    simp at e
    subst e
    exact ⟨d, rfl, h.1⟩
  | v :: vs, d :: ds, i + 1, w, h, e => by
    simp only [ThL] at h
    obtain ⟨x, h1, h2⟩ := ThL.get (i := i) h.2 (by simpa using e)
    exact ⟨x, by simpa using h1, h2⟩
  | [], _ :: _, _, _, h, _ => by simp [ThL] at h
  | _ :: _, [], _, _, h, _ => by simp [ThL] at h
theorem ThL.append {P : Addr → Prop} {H : Hp} : ∀ {vs : List V} {ds : List Th} {ws : List V} {es : List Th}, ThL P H vs ds → ThL P H ws es → ThL P H (vs ++ ws) (ds ++ es)
  | [], [], _, _, _, q => q
  | v :: vs, d :: ds, _, _, h, q => by
    simp only [ThL] at h
    simp only [List.cons_append, ThL]
    exact ⟨h.1, ThL.append h.2 q⟩
  | [], _ :: _, _, _, h, _ => by simp [ThL] at h
  | _ :: _, [], _, _, h, _ => by simp [ThL] at h
theorem ThL.take {P : Addr → Prop} {H : Hp} : ∀ {vs : List V} {ds : List Th} (n : Nat), ThL P H vs ds → ThL P H (vs.take n) (ds.take n)
  | _, _, 0, _ => by simp [ThL]
  | [], [], n + 1, h => by simp [ThL]
  | v :: vs, d :: ds, n + 1, h => by
    simp only [ThL] at h
    simp only [List.take_succ_cons, ThL]
    exact ⟨h.1, ThL.take n h.2⟩
  | [], _ :: _, _ + 1, h => by simp [ThL] at h
  | _ :: _, [], _ + 1, h => by simp [ThL] at h
theorem ThL.drop {P : Addr → Prop} {H : Hp} : ∀ {vs : List V} {ds : List Th} (n : Nat), ThL P H vs ds → ThL P H (vs.drop n) (ds.drop n)
  | _, _, 0, h => h
  | [], [], n + 1, h => by simp [ThL]
  | v :: vs, d :: ds, n + 1, h => by
    simp only [ThL] at h
    simp only [List.drop_succ_cons]
    exact ThL.drop n h.2
  | [], _ :: _, _ + 1, h => by simp [ThL] at h
  | _ :: _, [], _ + 1, h => by simp [ThL] at h
mutual
def thOf : PyData → Th
  | .int i => .int i
  | .bool b => .bl b
  | .tuple ds => .tup (thAll ds)
  | _ => .oth
def thAll : List PyData → List Th
  | [] => []
  | d :: ds => thOf d :: thAll ds
end
theorem thAll_map (ds : List PyData) : thAll ds = ds.map thOf := by
  induction ds with
  | nil => rfl
  | cons d ds ih => simp [thAll, ih]
mutual
theorem Im.th {P : Addr → Prop} {H : Hp} : ∀ {v : V} (d : PyData), Im H v d → ThR P H v (thOf d)
  | _, .none, h => by simp only [Im] at h; subst h; simp [thOf, ThR]
  | _, .bool _, h => by simp only [Im] at h; subst h; simp [thOf, ThR]
  | _, .int _, h => by simp only [Im] at h; subst h; simp [thOf, ThR]
  | _, .str _, h => by simp only [Im] at h; subst h; simp [thOf, ThR]
  | _, .tuple ds, h => by
    simp only [Im] at h
    obtain ⟨a, vs, e, ha, hl⟩ := h
    simp only [thOf, ThR]
    exact ⟨a, vs, e, ha, ImL.th ds hl⟩
  | _, .list _, h => by simp [Im] at h
  | _, .dict _, h => by simp [Im] at h
theorem ImL.th {P : Addr → Prop} {H : Hp} : ∀ {vs : List V} (ds : List PyData), ImL H vs ds → ThL P H vs (thAll ds)
  | [], [], _ => by simp [thAll, ThL]
  | v :: vs, d :: ds, h => by
    simp only [ImL] at h
    simp only [thAll, ThL]
    exact ⟨Im.th d h.1, ImL.th ds h.2⟩
  | [], _ :: _, h => by simp [ImL] at h
  | _ :: _, [], h => by simp [ImL] at h
end
def Th.isTup : Th → Bool
  | .tup _ => true
  | _ => false
def Th.isInt : Th → Bool
  | .int _ => true
  | .bl _ => true
  | _ => false
def Th.isBl : Th → Bool
  | .bl _ => true
  | _ => false
theorem kit_bi : kitB "bool" "int" = some true := by decide +kernel
theorem kit_bb : kitB "bool" "bool" = some true := by decide +kernel
theorem kit_it : kitB "int" "tuple" = some false := by decide +kernel
theorem kit_bt : kitB "bool" "tuple" = some false := by decide +kernel
theorem kit_nt : kitB "NoneType" "tuple" = some false := by decide +kernel
theorem kit_st : kitB "str" "tuple" = some false := by decide +kernel
theorem kit_lt : kitB "list" "tuple" = some false := by decide +kernel
theorem kit_dt : kitB "dict" "tuple" = some false := by decide +kernel
theorem kit_ti : kitB "tuple" "int" = some false := by decide +kernel
theorem kit_ni : kitB "NoneType" "int" = some false := by decide +kernel
theorem kit_si : kitB "str" "int" = some false := by decide +kernel
theorem kit_li : kitB "list" "int" = some false := by decide +kernel
theorem kit_di : kitB "dict" "int" = some false := by decide +kernel
theorem kit_tb : kitB "tuple" "bool" = some false := by decide +kernel
theorem kit_nb : kitB "NoneType" "bool" = some false := by decide +kernel
theorem kit_sb : kitB "str" "bool" = some false := by decide +kernel
theorem kit_lb : kitB "list" "bool" = some false := by decide +kernel
theorem kit_db : kitB "dict" "bool" = some false := by decide +kernel
section
variable {K : PySem.W.Frag} {H : Hp} {Q : VK} {P : Addr → Prop}
theorem i_isi_tupT {v : V} {d : Th} (h : ThR P H v d) (q : Q (.bl d.isTup) H) : rIsi K [v, .ty "tuple"] H Q := by
  cases d with
  | int i => simp only [ThR] at h; subst h; exact i_isiB (.base (.int _)) kit_it q
  | bl b => simp only [ThR] at h; subst h; exact i_isiB (.base (.bl _)) kit_bt q
  | tup l =>
    simp only [ThR] at h
    obtain ⟨a, vs, rfl, ha, hl⟩ := h
    exact i_isiB (.base (.tup ha)) kit_tt q
  | oth =>
    simp only [ThR] at h
    rcases h with rfl | ⟨x, rfl⟩ | ⟨a, xs, rfl, _, ha⟩ | ⟨a, xs, rfl, _, ha⟩
    · exact i_isiB (.base .non) kit_nt q
    · exact i_isiB (.base (.str _)) kit_st q
    · exact i_isiB (.base (.lst ha)) kit_lt q
    · exact i_isiB (.base (.dK ha)) kit_dt q
theorem i_isi_intT {v : V} {d : Th} (h : ThR P H v d) (q : Q (.bl d.isInt) H) : rIsi K [v, .ty "int"] H Q := by
  cases d with
  | int i => simp only [ThR] at h; subst h; exact i_isiB (.base (.int _)) kit_ii q
  | bl b => simp only [ThR] at h; subst h; exact i_isiB (.base (.bl _)) kit_bi q
  | tup l =>
    simp only [ThR] at h
    obtain ⟨a, vs, rfl, ha, hl⟩ := h
    exact i_isiB (.base (.tup ha)) kit_ti q
  | oth =>
    simp only [ThR] at h
    rcases h with rfl | ⟨x, rfl⟩ | ⟨a, xs, rfl, _, ha⟩ | ⟨a, xs, rfl, _, ha⟩
    · exact i_isiB (.base .non) kit_ni q
    · exact i_isiB (.base (.str _)) kit_si q
    · exact i_isiB (.base (.lst ha)) kit_li q
    · exact i_isiB (.base (.dK ha)) kit_di q
theorem i_isi_blT {v : V} {d : Th} (h : ThR P H v d) (q : Q (.bl d.isBl) H) : rIsi K [v, .ty "bool"] H Q := by
  cases d with
  | int i => simp only [ThR] at h; subst h; exact i_isiB (.base (.int _)) kit_ib q
  | bl b => simp only [ThR] at h; subst h; exact i_isiB (.base (.bl _)) kit_bb q
  | tup l =>
    simp only [ThR] at h
    obtain ⟨a, vs, rfl, ha, hl⟩ := h
    exact i_isiB (.base (.tup ha)) kit_tb q
  | oth =>
    simp only [ThR] at h
    rcases h with rfl | ⟨x, rfl⟩ | ⟨a, xs, rfl, _, ha⟩ | ⟨a, xs, rfl, _, ha⟩
    · exact i_isiB (.base .non) kit_nb q
    · exact i_isiB (.base (.str _)) kit_sb q
    · exact i_isiB (.base (.lst ha)) kit_lb q
    · exact i_isiB (.base (.dK ha)) kit_db q
theorem i_isi_bb {b : Bool} (q : Q (.bl true) H) : rIsi K [.bl b, .ty "bool"] H Q := i_isiB (.base (.bl _)) kit_bb q
/-- tuples of things put together -/
theorem i_catTh {x y : V} {ds es : List Th} (h1 : ThR P H x (.tup ds)) (h2 : ThR P H y (.tup es)) (hz : ds.length + es.length ≤ sizeLine)
    (q : ∀ v H', Same H H' → ThR P H' v (.tup (ds ++ es)) → Q v H') : rCatA K x y H Q := by
  have h1' := h1
  have h2' := h2
  simp only [ThR] at h1' h2'
  obtain ⟨a, xs, rfl, ha, la⟩ := h1'
  obtain ⟨b, ys, rfl, hb, lb⟩ := h2'
  have e1 := la.length
  have e2 := lb.length
  refine ⟨a, b, xs, ys, rfl, rfl, SqT.of ha, SqT.of hb, by omega, fun z => ?_, fun _ z => ?_, fun _ _ => new_obj fun p H' hp s e => ?_⟩
  · subst z
    have : ds = [] := List.eq_nil_of_length_eq_zero e1.symm
    subst this
    exact q _ _ (Same.refl _) h2
  · subst z
    have : es = [] := List.eq_nil_of_length_eq_zero e2.symm
    subst this
    rw [List.append_nil] at q
    exact q _ _ (Same.refl _) h1
  · refine q _ _ s ?_
    simp only [ThR]
    exact ⟨p, _, rfl, e, ThL.append (la.mon (Same.kp s)) (lb.mon (Same.kp s))⟩
/-- a slice of a tuple of things: some of them -/
theorem i_slTh {x : V} {ds : List Th} {lo hi : Option Int} (h : ThR P H x (.tup ds))
    (q : ∀ v H' es, Same H H' → es.length ≤ ds.length → ThR P H' v (.tup es) → Q v H') : rSlA K x lo hi H Q := by
  have h' := h
  simp only [ThR] at h'
  obtain ⟨a, xs, rfl, ha, la⟩ := h'
  refine ⟨a, xs, rfl, SqT.of ha, fun _ => q _ _ ds (Same.refl _) (Nat.le_refl _) h, fun _ => new_obj fun p H' hp s e => ?_⟩
  refine q _ _ ((ds.drop (HT.sIx xs.length 0 lo)).take (HT.sIx xs.length xs.length hi - HT.sIx xs.length 0 lo)) s ?_ ?_
  · rw [List.length_take, List.length_drop]; omega
  · simp only [ThR]
    refine ⟨p, _, rfl, e, ?_⟩
    unfold cutV
    exact ThL.take _ (ThL.drop _ (la.mon (Same.kp s)))
end
theorem ThR.tup_of {P : Addr → Prop} {H : Hp} {a : Addr} {vs : List V} {ds : List Th} (h : H a = some (.tup vs)) (l : ThL P H vs ds) : ThR P H (.ref a) (.tup ds) := by
  simp only [ThR]; exact ⟨a, vs, rfl, h, l⟩
theorem ThR.tup_at {P : Addr → Prop} {H : Hp} {v : V} {ds : List Th} (h : ThR P H v (.tup ds)) : ∃ a vs, v = .ref a ∧ H a = some (.tup vs) ∧ ThL P H vs ds := by
  simpa only [ThR] using h
/-! ### any(xs) of a list of ints -/
theorem truth_ints {prog : Program} {w : World} {A : Around} {ns : List Int} {its : List Value} (r : Vals (ns.map V.int) its) :
    TruthOf prog w A (fun i v => its.toArray[i]? = some v) (fun i => ns.getD i 0 != 0) := fun i v s Q E hv hq => by
  have hv' : its[i]? = some v := by simpa using hv
  have hi : i < ns.length := by
    have := r.length
    rw [List.length_map] at this
    rcases Nat.lt_or_ge i its.length with h | h
    · omega
    · rw [List.getElem?_eq_none h] at hv'; cases hv'
  have e1 : (ns.map V.int)[i]? = some (.int (ns.getD i 0)) := by
    rw [List.getElem?_map, List.getD_eq_getElem?_getD, List.getElem?_eq_getElem hi]; rfl
  obtain ⟨u, eu, ru⟩ := r.get e1
  rw [hv'] at eu
  cases eu
  obtain ⟨t, rfl⟩ := ru
  exact PySem.P.truthy_int hq
theorem any_rangeI : ∀ ns : List Int, (List.range ns.length).any (fun i => ns.getD i 0 != 0) = ns.any (· != 0)
  | [] => rfl
  | b :: bs => by
    rw [List.length_cons, List.range_succ_eq_map, List.any_cons, List.any_map, List.any_cons, ← any_rangeI bs]
    all_goals rfl
def rAnyI (K : PySem.W.Frag) : List V → Hp → VK → Prop := fun vs H Q => ∃ (a : Addr) (ns : List Int), vs = [V.ref a] ∧ SqL K H a (ns.map V.int) ∧ Q (.bl (ns.any (· != 0))) H
theorem cr_anyI {X : Cx} (hc : X.calm = true) : CallR X (.builtin "any") (rAnyI X.K) := by
  intro pins s σ H vs us Q I r h
  obtain ⟨a, ns, rfl, hs, q⟩ := h
  obtain ⟨its, rv, hl, _⟩ := I.list hs
  rw [Vals.ref1 r]
  have hlen := rv.length
  rw [List.length_map] at hlen
  refine call_any_walk (iter_any hl.isList fun s₂ e2 st hne => ?_)
  subst e2
  refine ⟨_, _, _, _, _, _, _, rfl, Walks.list (A := X.A.in1) (I.ok.hd hc) _ a hne its.toArray, st, truth_ints rv, fun h' tk hk => ?_⟩
  refine ⟨.bl _, H, I.kept fun b o eo => hk b o (fun hmem => ?_) (Heap.get?_push_of_some _ eo), ?_, q⟩
  · rcases List.mem_cons.mp hmem with e1 | hmem
    · exact absurd (e1 ▸ Heap.lt_size eo) (Nat.lt_irrefl _)
    · cases hmem
  · show Value.bool _ = Value.bool _
    rw [← any_rangeI, List.size_toArray, ← hlen]
theorem i_ranyI {K : PySem.W.Frag} {H : Hp} {Q : VK} {a : Addr} {ns : List Int} (h : H a = some (.lst (ns.map V.int))) (q : Q (.bl (ns.any (· != 0))) H) : rAnyI K [.ref a] H Q := ⟨a, ns, rfl, SqL.of h, q⟩
/-! ### dict displays -/
theorem i_dnew {σ : St} {H : Hp} {Q : VK} (q : ∀ p H', H p = none → Same H H' → H' p = some (.dK []) → Q (.ref p) H') : tDNewK σ H Q := new_obj q
theorem i_disp1 {σ : St} {H : Hp} {Q : VK} {x : Str} {v : V} (q : ∀ p H' kvs, H p = none → Same H H' → H' p = some (.dK kvs) → Q (.ref p) H') : tDisp [(tC (.str x), tC v)] σ H Q := by
  intro p hp
  refine ⟨upd_same, [(.inr x, v)], rfl, by show 1 ≤ 15; omega, ?_⟩
  rw [upd_upd]
  exact q p _ _ hp (same_upd hp) upd_same
/-! ### comprehensions over a tuple with a test -/
section
variable {K : PySem.W.Frag} {σ : St} {H : Hp} {Q : VK}
def LcTt (K : PySem.W.Frag) (g : TG) (tt : TT) (te : TE) (vs : List Nat) (σ : St) (Q : VK) (x : V) (H1 : Hp) : Prop := ∃ a, x = .ref a ∧ (∃ xs, SqT K H1 a xs) ∧ ∀ D, H1 D = none → ∃ W : Nat → Nat → Hp → Prop, (∃ m, W 0 m (upd H1 D (.lst []))) ∧ ∀ i m H, W i m H →
  ((Itt K a).stop i H ∧ Q (.ref D) H) ∨ ((Itt K a).go i H ∧ ∃ Nx : Hp → Prop, (∀ H', Nx H' → ∃ m', m' < m ∧ W (i + 1) m' H') ∧ ∀ x H', (Itt K a).yld i H x H' → g x (wipe σ vs) H' fun σ2 H2 => wipe σ2 vs = wipe σ vs ∧ tt σ2 H2 fun b H3 =>
    if b = true then te σ2 H3 fun y H4 => ∃ acc, H4 D = some (.lst acc) ∧ acc.length < sizeLine ∧ Nx (upd H4 D (.lst (acc ++ [y]))) else Nx H3)
theorem i_lcTt {tl te : TE} {tt : TT} {g : TG} {vs : List Nat} (h : tl σ H fun x H1 => LcTt K g tt te vs σ Q x H1) : tLc (iTup K tl) g tt te vs σ H Q := h
def LcF2 (H : Hp) (Dl : Addr) (es : List PyData) (F : PyData → List PyData) (i : Nat) (H1 : Hp) : Prop :=
  Same H H1 ∧ ∃ ys, H1 Dl = some (.lst ys) ∧ ImL H1 ys ((es.take i).flatMap F)
theorem flatMap_le {F : PyData → List PyData} (hF : ∀ e, (F e).length ≤ 1) : ∀ es : List PyData, (es.flatMap F).length ≤ es.length
  | [] => by simp
  | e :: es => by
    rw [List.flatMap_cons, List.length_append, List.length_cons]
    have := flatMap_le hF es
    have := hF e
    omega
theorem lcTt_of {g : TG} {tt : TT} {te : TE} {vs : List Nat} {a : Addr} {xs : List V} {es : List PyData} (F : PyData → List PyData) (hF : ∀ e, (F e).length ≤ 1) (ha : H a = some (.tup xs)) (hl : ImL H xs es) (hz : es.length < 1000000)
    (turn : ∀ (e : PyData) (x : V) (H1 : Hp) (N M : Hp → Prop) (NE : V → Hp → Prop), e ∈ es → Same H H1 → Im H1 x e → (∀ y H3 d, F e = [d] → Same H1 H3 → Im H3 y d → NE y H3) → (∀ H3, F e = [] → Same H1 H3 → M H3) →
      g x (wipe σ vs) H1 fun σ2 H2 => wipe σ2 vs = wipe σ vs ∧ tt σ2 H2 fun b H3 => if b = true then te σ2 H3 NE else M H3)
    (done : ∀ D H1 ys, H D = none → Same H H1 → H1 D = some (.lst ys) → ImL H1 ys (es.flatMap F) → Q (.ref D) H1) : LcTt K g tt te vs σ Q (.ref a) H := by
  have e0 : sizeLine = 16777216 := PySem.sizeLine_eq
  refine ⟨a, rfl, ⟨xs, SqT.of ha⟩, fun Dl hD => ?_⟩
  refine lc_tup (K := K) (a := a) (xs := xs) (tt := tt) (LcF2 H Dl es F) ⟨same_upd hD, [], upd_same, by simp [ImL]⟩ (fun i H' _ p => SqT.of (p.1 _ _ ha)) (fun i x H' hx p => ?_) (fun H' p => ?_)
  · obtain ⟨e, he, hi⟩ := hl.get hx
    obtain ⟨s, ys, h1, h2⟩ := p
    have hy := h2.length
    have hb := flatMap_le hF (es.take i)
    rw [List.length_take] at hb
    have e1 : (es.take (i + 1)).flatMap F = (es.take i).flatMap F ++ F e := by
      rw [List.take_add_one, he, List.flatMap_append]; simp
    refine turn e x H' (LcF2 H Dl es F (i + 1)) _ _ (List.mem_of_getElem? he) s (sm_im s hi) (fun y H3 d hd s3 hy => ?_) (fun H3 hd s3 => ?_)
    · refine ⟨ys, s3 _ _ h1, by omega, same_loc (Same.trans s s3) (kl_upd (s3 _ _ h1)) hD, ys ++ [y], upd_same, ?_⟩
      have kl := kl_upd (ys := ys ++ [y]) (s3 _ _ h1)
      rw [e1, hd]
      exact ImL.append (kl_iml kl (sm_iml s3 h2)) (by simp only [ImL]; exact ⟨kl_im kl hy, trivial⟩)
    · refine ⟨s.trans s3, ys, s3 _ _ h1, ?_⟩
      rw [e1, hd, List.append_nil]
      exact sm_iml s3 h2
  · obtain ⟨s, ys, h1, h2⟩ := p
    rw [List.take_of_length_le (by rw [hl.length]; exact Nat.le_refl _)] at h2
    exact done Dl H' ys hD s h1 h2
end
/-! ### pairs among things -/
def pth (p : Nat × Nat) : Th := .tup [.int (p.1 : Nat), .int (p.2 : Nat)]
theorem pth_inj {p q : Nat × Nat} (h : pth p = pth q) : p = q := by
  obtain ⟨a, b⟩ := p
  obtain ⟨c, d⟩ := q
  simp only [pth, Th.tup.injEq, List.cons.injEq, Th.int.injEq, and_true] at h
  obtain ⟨h1, h2⟩ := h
  have : a = c := by omega
  have : b = d := by omega
  simp_all
theorem pths_inj : ∀ {ps qs : List (Nat × Nat)}, ps.map pth = qs.map pth → ps = qs
  | [], [], _ => rfl
  | p :: ps, q :: qs, h => by
    simp only [List.map_cons, List.cons.injEq] at h
    rw [pth_inj h.1, pths_inj h.2]
  | [], _ :: _, h => by simp at h
  | _ :: _, [], h => by simp at h
/-- a pair of people as data (the same as pd) -/
def pd0 (p : Nat × Nat) : PyData := .tuple [.int (p.1 : Nat), .int (p.2 : Nat)]
theorem thOf_pd (p : Nat × Nat) (q : PyData) (h : q = .tuple [.int (p.1 : Nat), .int (p.2 : Nat)]) : thOf q = pth p := by subst h; rfl
def Th.blw (n : Int) : Th → Bool
  | .int i => decide (0 ≤ i ∧ i < n)
  | _ => false
def Th.two (n m : Int) : Th → Bool
  | .tup [x, y] => x.blw n && y.blw m
  | _ => false
theorem blw_iff {d : Th} {n : Nat} : d.blw n = true ↔ ∃ i : Nat, d = .int i ∧ i < n := by
  cases d with
  | int i =>
    simp only [Th.blw, decide_eq_true_eq, Th.int.injEq]
    constructor
    · rintro ⟨h1, h2⟩
      exact ⟨i.toNat, by omega, by omega⟩
    · rintro ⟨k, h1, h2⟩
      omega
  | bl b => simp [Th.blw]
  | tup l => simp [Th.blw]
  | oth => simp [Th.blw]
theorem two_iff {d : Th} {n m : Nat} : d.two n m = true ↔ ∃ p : Nat × Nat, d = pth p ∧ p.1 < n ∧ p.2 < m := by
  constructor
  · intro h
    match d, h with
    | .tup [x, y], h =>
      simp only [Th.two, Bool.and_eq_true] at h
      obtain ⟨i, rfl, hi⟩ := blw_iff.mp h.1
      obtain ⟨j, rfl, hj⟩ := blw_iff.mp h.2
      exact ⟨(i, j), rfl, hi, hj⟩
  · rintro ⟨p, rfl, h1, h2⟩
    simp only [pth, Th.two, Bool.and_eq_true]
    exact ⟨blw_iff.mpr ⟨_, rfl, h1⟩, blw_iff.mpr ⟨_, rfl, h2⟩⟩
def Th.small (d : Th) : Prop := ∀ l, d = .tup l → l.length ≤ 1000
def IsRow (s : Sta) (d : Th) : Prop := ∃ ps, d = .tup (ps.map pth) ∧ rowR s ps
def IsWay (s : Sta) (d : Th) : Prop := ∃ ps, d = .tup (ps.map pth) ∧ rowR s ps ∧ ∀ q ∈ (runR s ps).1, q = 0
theorem th_cases (d : Th) : (∃ l, d = .tup l) ∨ (d.isTup = false ∧ ∀ l, d ≠ .tup l) := by
  cases d with
  | tup l => exact .inl ⟨l, rfl⟩
  | int i => exact .inr ⟨rfl, fun l h => by cases h⟩
  | bl i => exact .inr ⟨rfl, fun l h => by cases h⟩
  | oth => exact .inr ⟨rfl, fun l h => by cases h⟩
theorem ThR.pd {P : Addr → Prop} {H : Hp} {v : V} {p : Nat × Nat} (h : ThR P H v (pth p)) : ∃ a, v = .ref a ∧ H a = some (.tup [.int (p.1 : Nat), .int (p.2 : Nat)]) := by
  obtain ⟨a, vs, rfl, ha, hl⟩ := h.tup_at
  match vs, hl, ha with
  | [x, y], hl, ha =>
    simp only [ThL, ThR] at hl
    obtain ⟨rfl, rfl, _⟩ := hl
    exact ⟨a, rfl, ha⟩
theorem not_row {s : Sta} {l0 : List Th} {ps : List (Nat × Nat)} {i : Nat} {e : Th} (htk : l0.take i = ps.map pth) (he : l0[i]? = some e) (hno : ¬ ∃ p, e = pth p ∧ canR (runR s ps) p) : ¬ IsRow s (.tup l0) := by
  rintro ⟨ps', e', r'⟩
  have e1 : l0 = ps'.map pth := by injection e'
  have e2 : ps'.take i = ps := by
    refine pths_inj ?_
    rw [List.map_take, ← e1, htk]
  rw [e1, List.getElem?_map] at he
  cases e3 : ps'[i]? with
  | none => rw [e3] at he; cases he
  | some p =>
    rw [e3] at he
    have e4 : pth p = e := by simpa using he
    refine hno ⟨p, e4.symm, ?_⟩
    have := r'
    rw [← List.take_append_drop (i + 1) ps', rowR_append, List.take_add_one, e3, Option.toList_some, e2, rowR_append] at this
    exact this.1.2.1
theorem IsWay.row {s : Sta} {d : Th} (h : IsWay s d) : IsRow s d := by
  obtain ⟨ps, e, r, _⟩ := h
  exact ⟨ps, e, r⟩
/-- the things of a list of values that a menu holds -/
theorem th_non {P : Addr → Prop} {H : Hp} : ThR P H .non .oth := by simp [ThR]
theorem th_str {P : Addr → Prop} {H : Hp} {x : Str} : ThR P H (.str x) .oth := by simp [ThR]
theorem th_bl {P : Addr → Prop} {H : Hp} {b : Bool} : ThR P H (.bl b) (.bl b) := by simp [ThR]
theorem th_int {P : Addr → Prop} {H : Hp} {b : Int} : ThR P H (.int b) (.int b) := by simp [ThR]
theorem th_lst {P : Addr → Prop} {H : Hp} {a : Addr} {xs : List V} (h : H a = some (.lst xs)) (p : P a) : ThR P H (.ref a) .oth := by
  simp only [ThR]; exact .inr (.inr (.inl ⟨a, xs, rfl, p, h⟩))
theorem th_dK {P : Addr → Prop} {H : Hp} {a : Addr} {xs : List (Key × V)} (h : H a = some (.dK xs)) (p : P a) : ThR P H (.ref a) .oth := by
  simp only [ThR]; exact .inr (.inr (.inr ⟨a, xs, rfl, p, h⟩))
theorem th_t0 {P : Addr → Prop} {H : Hp} {a : Addr} (h : H a = some (.tup [])) : ThR P H (.ref a) (.tup []) := ThR.tup_of h (by simp [ThL])
theorem th_t1 {P : Addr → Prop} {H : Hp} {a : Addr} {x : V} {d : Th} (h : H a = some (.tup [x])) (hx : ThR P H x d) : ThR P H (.ref a) (.tup [d]) := ThR.tup_of h (by simp only [ThL]; exact ⟨hx, trivial⟩)
theorem th_t2 {P : Addr → Prop} {H : Hp} {a : Addr} {x y : V} {d e : Th} (h : H a = some (.tup [x, y])) (hx : ThR P H x d) (hy : ThR P H y e) : ThR P H (.ref a) (.tup [d, e]) := ThR.tup_of h (by simp only [ThL]; exact ⟨hx, hy, trivial⟩)
theorem th_t3 {P : Addr → Prop} {H : Hp} {a : Addr} {x y z : V} {d e f : Th} (h : H a = some (.tup [x, y, z])) (hx : ThR P H x d) (hy : ThR P H y e) (hz : ThR P H z f) : ThR P H (.ref a) (.tup [d, e, f]) := ThR.tup_of h (by simp only [ThL]; exact ⟨hx, hy, hz, trivial⟩)
def Th.Sm : Th → Prop
  | .tup l => l.length ≤ 1000
  | _ => True
theorem Th.Sm.small {d : Th} (h : d.Sm) : d.small := fun l e => by subst e; exact h
/-- a small thing -/
def Thing (H : Hp) (v : V) : Prop := ∃ d, ThR (fun _ => True) H v d ∧ d.Sm
theorem Thing.same {H H' : Hp} {v : V} (s : Same H H') (h : Thing H v) : Thing H' v := by
  obtain ⟨d, h1, h2⟩ := h
  exact ⟨d, sm_th s h1, h2⟩
theorem Thing.kl {m : Addr} {H H' : Hp} {v : V} (s : KL m H H') (h : Thing H v) : Thing H' v := by
  obtain ⟨d, h1, h2⟩ := h
  exact ⟨d, kl_th s h1, h2⟩
theorem all_get {p : V → Prop} : ∀ {xs : List V} {i : Nat} {v : V}, (∀ x ∈ xs, p x) → xs[i]? = some v → p v := fun h e => h _ (List.mem_of_getElem? e)
theorem atI_lt {xs : List V} {i : Int} (h0 : 0 ≤ i) (h1 : i < (xs.length : Nat)) : ∃ v ∈ xs, atI xs i = some v := by
  obtain ⟨v, e1, e2⟩ := atI_i h0 h1
  exact ⟨v, List.mem_of_getElem? e1, e2⟩
theorem len_two {α : Type} {l : List α} (h : l.length = 2) : ∃ a b, l = [a, b] := by
  match l, h with
  | [a, b], _ => exact ⟨a, b, rfl⟩
theorem len_three {α : Type} {l : List α} (h : l.length = 3) : ∃ a b c, l = [a, b, c] := by
  match l, h with
  | [a, b, c], _ => exact ⟨a, b, c, rfl⟩
theorem i_notB {H : Hp} {Q : VK} {a b : Bool} (q : Q (.bl (!decide (a = b))) H) : rNotB (.bl a) (.bl b) H Q := ⟨a, b, rfl, rfl, q⟩
theorem i_isB {H : Hp} {Q : VK} {a b : Bool} (q : Q (.bl (decide (a = b))) H) : rIsB (.bl a) (.bl b) H Q := ⟨a, b, rfl, rfl, q⟩
theorem thAll_pd (ps : List (Nat × Nat)) : thAll (ps.map pd0) = ps.map pth := by
  rw [thAll_map, List.map_map]; rfl
theorem ite_ndT {α : Type} {x : α} {i : Decidable (x = x)} {A B : Prop} (h : B) : if (!decide (x = x)) = true then A else B := by
  rw [if_neg (by simp)]; exact h
theorem ite_dT {α : Type} {x : α} {i : Decidable (x = x)} {A B : Prop} (h : A) : if decide (x = x) = true then A else B := by
  rw [if_pos (by simp)]; exact h
theorem im_bb {H : Hp} {a : Addr} {x y : Bool} (h : H a = some (.tup [.bl x, .bl y])) : Im H (.ref a) (.tuple [.bool x, .bool y]) := Im.tup h (by simp [ImL, Im])
end QW

namespace L2
open PySem PySem.Spec PyProof.Rows
/-! ### an exception without fields: made by an own __init__ that keeps nothing -/
section
variable {X : Cx}
theorem mk_endN0 {pins : List (Addr × Obj)} {σ : St} {H1 H2 : Hp} {hp hp2 h2 : Heap} {g1 g2 : Array GenState} {d1 d2 : Drawn} {t1 t2 : Nat} {os1 os2 : OsState} {a C : Addr} (I1 : Inv X pins σ H1 ⟨hp, g1, d1, t1, os1⟩)
    (ha : hp.objs.size ≤ a) (k : ∀ b o, hp.get? b = some o → hp2.get? b = some o) (un : Un (frs X.stack) [] (upd H1 a (exo a C none)) H2 hp2 h2) (hok : HOk X.prog X.w H2 h2) (ho : os2 = os1) (hb : AllBare g2)
    (ea : H2 a = some (exo a C none)) :
    ∃ (t0 : Addr) (G : Heap), Inv X pins σ (del H2 a) ⟨G, g2, d2, t2, os2⟩ ∧ (∀ b o, G.get? b = some o → h2.get? b = some o) ∧ G.get? a = none ∧
      h2.get? a = some ({ cls := .ref C, dict := none, data := .fields #[.ref t0, .none, .none, .none, .bool false, .none] } : Obj) ∧ (del H2 a) a = none := by
  obtain ⟨t0, hoe⟩ := exo_at hok ea
  have hn : H1 a = none := I1.hok.fresh ha
  obtain ⟨G, g1', g2'⟩ := restrict h2 fun b => decide (b ≠ a)
  have gk : ∀ b, b ≠ a → G.get? b = h2.get? b := fun b hb => g1' b (decide_eq_true hb)
  have ge : G.get? a = none := g2' a (by simp)
  have nha : ∀ {b : Addr} {o : Obj}, hp.get? b = some o → b ≠ a := fun {b o} z => Nat.ne_of_lt (Nat.lt_of_lt_of_le (Heap.lt_size z) ha)
  have up : ∀ {b : Addr}, b ≠ a → H1 b = none → upd H1 a (exo a C none) b = none := fun {b} hb n => by rw [upd_ne hb]; exact n
  have U : Un (frs X.stack) [] H1 (del H2 a) hp G := {
    keep := fun b o z n hf hx => by
      rw [gk b (nha z)]
      exact un.keep b o (k b o z) (up (nha z) n) hf hx
    slot := fun b o z n hf hx => by
      rw [gk b (nha z)]
      exact un.slot b o (k b o z) (up (nha z) n) hf hx
    free := fun b o z n hx => by
      rw [del_ne (nha z)]
      exact un.free b o (k b o z) (up (nha z) n) hx
    there := fun b o z hx => by
      rw [gk b (nha z)]
      exact un.there b o (k b o z) hx
    tups := fun b xs z => by
      rw [del_ne (ne_of_none z hn)]
      exact un.tups b xs (by rw [upd_ne (ne_of_none z hn)]; exact z)
    frzs := fun b o v z => by
      rw [del_ne (ne_of_none z hn)]
      exact un.frzs b o v (by rw [upd_ne (ne_of_none z hn)]; exact z)
    tbls := fun b ps z => by
      rw [del_ne (ne_of_none z hn)]
      exact un.tbls b ps (by rw [upd_ne (ne_of_none z hn)]; exact z) }
  have hok3 : HOk X.prog X.w (del H2 a) G := fun b o z => by
    have hba : b ≠ a := fun e => by
      rw [e, del_same] at z
      cases z
    rw [del_ne hba] at z
    have noa : ∀ {c : Addr}, H2 c = some (.own b) → c ≠ a := fun {c} hc => at_ne ea hc exo_own
    exact (hok b o z).stay (fun c v hc y => by
        have hca : c ≠ a := by
          rcases hc with hc | hc
          · rw [hc]
            exact hba
          · exact noa hc
        rw [gk c hca]
        exact y)
      (fun c hc => by rw [del_ne (noa hc)]; exact hc) (fun c xs hc => by rw [del_ne (at_ne ea hc exo_tup)]; exact hc)
  have J : Inv X pins σ (del H2 a) ⟨G, g2, d2, t2, os2⟩ := I1.call' (ch := []) ho U hok3 hb (fun b z => absurd z (by simp))
  refine ⟨t0, G, J, fun b o z => ?_, ge, hoe, del_same⟩
  by_cases hba : b = a
  · rw [hba, ge] at z
    cases z
  · exact (gk b hba).symm.trans z
def tMkN (C : Addr) (sp : Sp) : St → Hp → XK → Prop := fun σ H Q => ∀ a, H a = none → sp [.ref a] (upd H a (exo a C none)) (fun v H2 => v = .non ∧ H2 a = some (exo a C none) ∧ Q (.ref C) none (del H2 a)) (fun _ _ _ => False)
theorem pmk_oex0 {CX : CXT} {x : Str} {C fI : Addr} {k : Nat} {fd : FuncData} {ps : List Str} {sp : Sp} {p pos : Pos} (T : OexC X.K C) (iC : PySem.W.findIn X.K (.ref C) "__init__" = some (some (.ref fI))) (tI : PySem.W.typeIn X.K (.ref fI) = some (.type "function"))
    (F1 : FnOk X.prog X.w X.K X.mg X.base CX k fI fd ps sp) (hr : Room (k + 1) X.A) (hb : Binds X.K fd ps []) (hx : Passes CX X (fun _ _ _ => False)) (hg : Gl X x) (hm : X.mg x = some (.ref C))
    (hdb : (x == ("__debug__" : Str)) = false := by decide) :
    PMk X (.Call (.Name x p) [] [] pos) (tMkN C sp) := by
  intro pins s σ H1 Q I1 q1
  obtain ⟨nm, q, N, bs, bm, sn, sub, ab, col, dd, k0, k1, k2, k3, k5, hC, hbm⟩ := T.cls
  refine wpAny_Call_Name_kw (ld_glob I1 hg hm ?_ hdb)
  refine PySem.W.callWith_K0 I1.kIn T.kC ?_
  show wpAny _ _ (call (.ref C) []) _ _ _
  have I2' := I1.tok
  obtain ⟨hp, g, dr, tk, os⟩ := s
  have hsz : hp.objs.size ≤ hp.objs.size + 1 := Nat.le_succ _
  have hn : H1 (hp.objs.size + 1) = none := I1.hok.fresh hsz
  have hq := q1 (hp.objs.size + 1) hn
  have kk : ∀ b o, hp.get? b = some o → ((hp.push (PySem.W.kdv_tup [])).push (PySem.HandSPX.excO C hp.objs.size)).get? b = some o := fun b o e => Heap.get?_push_of_some _ (Heap.get?_push_of_some _ e)
  have hget : ((hp.push (PySem.W.kdv_tup [])).push (PySem.HandSPX.excO C hp.objs.size)).get? (hp.objs.size + 1) = some (PySem.HandSPX.excO C hp.objs.size) := by heap_get
  have I2 : Inv X pins σ (upd H1 (hp.objs.size + 1) (exo (hp.objs.size + 1) C none)) ⟨(hp.push (PySem.W.kdv_tup [])).push (PySem.HandSPX.excO C hp.objs.size), g, dr, tk, os⟩ :=
    I1.laid (t' := tk) (a := hp.objs.size + 1) (o := exo (hp.objs.size + 1) C none) (h' := (hp.push (PySem.W.kdv_tup [])).push (PySem.HandSPX.excO C hp.objs.size)) kk hsz (exo_ok hget)
  have r2 : Vals [V.ref (hp.objs.size + 1)] [Value.ref (hp.objs.size + 1)] := .cons rfl .nil
  have hl : [Value.ref (hp.objs.size + 1)].length = ps.length := by
    have e := r2.length
    rw [F1.len _ _ _ _ hq] at e
    exact e.symm
  have hus : ([] : List Value).length ≤ sizeLine := Nat.zero_le _
  refine wpAny_call (PySem.HandSPX.call_own F.excBase_ValueError (fun Y => PySem.HandSPX.refsVE_contains Y bm hbm) (I1.kIn _ _ hC) (PySem.W.looks_findIn I1.kIn iC) (fun self => PySem.W.bind_fn I1.kIn self tI) hus
    (codeAny_mono (F1.run _ X.stack _ _ ⟨Value.ref (hp.objs.size + 1) :: [], []⟩ [Value.ref (hp.objs.size + 1)] _ _ (fun _ _ _ => False) (hr.make C [] []) (I2.env0.make C [] []) (hb _ [Value.ref (hp.objs.size + 1)] I2.kIn (by rw [List.append_nil]; exact hl)) r2 hq) fun r s' hq' => ?_))
  cases r with
  | error er => exact hx pins σ _ _ er s' I2 hq'
  | ok fl =>
    cases fl with
    | ret u =>
      obtain ⟨v, H2, os2, bare2, un2, hok2, rv, ev, ea, q2⟩ := hq'
      subst ev
      obtain ⟨h2, g2, d2, t2, os'⟩ := s'
      obtain ⟨t0, G, J, kG, ge, hoe, na⟩ := mk_endN0 (d2 := d2) (t2 := t2) I1 hsz kk un2 hok2 os2 bare2 ea
      exact ⟨rv, _, _, _, ⟨G, g2, d2, t2, os'⟩, _, .ref C, none, rfl, J, kG, ge, hoe, ⟨rfl, rfl⟩, rfl, rfl, na, rfl, bare2, raises_own T.exC T.tyC, q2⟩
    | next => exact False.elim hq'
    | brk => exact False.elim hq'
    | cont => exact False.elim hq'
end
end L2
namespace QW
open PySem L2
theorem del_upd {H : Hp} {a : Addr} {o : HO} (h : H a = none) : del (upd H a o) a = H := by
  funext b
  unfold del upd
  by_cases e : b = a
  · subst e; rw [if_pos rfl, h]
  · rw [if_neg e, if_neg e]
end QW

namespace HT
open PySem PySem.Spec PyProof.Rows L2
section
variable {prog : Program} {w : World} {A : Around} {E : Value → Shared → Prop} {s : Shared}
theorem adjust_rev (n : Nat) : Builtin.Slice.sliceAdjust none none (-1) (n : Int) = ((n : Int) - 1, -1) := by
  unfold Builtin.Slice.sliceAdjust
  rfl
theorem places_rev (n : Nat) : Builtin.Slice.slicePlaces ((n : Int) - 1) (-1) (-1) = n := by
  unfold Builtin.Slice.slicePlaces
  have h1 : ¬ ((-1 : Int) > 0) := by omega
  simp only [h1, if_false]
  split
  · have : - -(1 : Int) = 1 := rfl
    rw [this, Int.ediv_one]; omega
  · omega
theorem sliceApplied_rev {sl : Addr} {vs : Value} {n : Nat} {Q : Int × Int × Nat → Shared → Prop} (hs : s.heap.IsSliceOf sl .none .none vs) (pv : IsPart vs (some (-1)))
    (h : Q ((n : Int) - 1, -1, n) s) : wpAny (model prog w) A (Builtin.Slice.sliceApplied (.ref sl) (pure (n : Int))) Q E s := by
  obtain ⟨os, hos, hcs, hds⟩ := id hs
  unfold Builtin.Slice.sliceApplied Builtin.Slice.sliceFields
  refine wpAny_bind (wpAny_bind (wpAny_field hos hds (x := .none) rfl (wpAny_bind (wpAny_field hos hds (x := .none) rfl (wpAny_bind (wpAny_field hos hds (x := vs) rfl (wpAny_pure ?_)))))))
  refine wpAny_bind (slicePart_ pv ?_)
  show wpAny _ _ (if ((-1 : Int) == 0) = true then _ else _) _ _ s
  rw [if_neg (by decide)]
  refine wpAny_bind (slicePart_none (wpAny_bind (slicePart_none (wpAny_bind (wpAny_pure ?_)))))
  show wpAny _ _ (match Builtin.Slice.sliceAdjust none none (-1) (n : Int) with | (lo, hi) => pure (lo, (-1 : Int), Builtin.Slice.slicePlaces lo hi (-1))) _ _ s
  rw [adjust_rev n]
  show wpAny _ _ (pure ((n : Int) - 1, (-1 : Int), Builtin.Slice.slicePlaces ((n : Int) - 1) (-1) (-1))) _ _ s
  rw [places_rev]
  exact wpAny_pure h
theorem fm_congr {α β : Type} {f g : α → Option β} : ∀ {l : List α}, (∀ a ∈ l, f a = g a) → l.filterMap f = l.filterMap g
  | [], _ => rfl
  | a :: l, h => by
    rw [List.filterMap_cons, List.filterMap_cons, h a List.mem_cons_self, fm_congr fun b hb => h b (List.mem_cons_of_mem _ hb)]
theorem pick_rev (xs : Array Value) : ((List.range xs.size).filterMap fun (m : Nat) => xs[(((xs.size : Int) - 1) + (m : Int) * -1).toNat]?).toArray = xs.toList.reverse.toArray := by
  congr 1
  have e : (List.range xs.size).filterMap (fun (m : Nat) => xs[(((xs.size : Int) - 1) + (m : Int) * -1).toNat]?) = (List.range xs.size).filterMap (fun m => xs.toList.reverse[m]?) := by
    refine fm_congr fun m hm => ?_
    have hm' := List.mem_range.mp hm
    have e1 : (((xs.size : Int) - 1) + (m : Int) * -1).toNat = xs.size - 1 - m := by omega
    rw [e1, List.getElem?_reverse (by simpa using hm')]
    simp
  rw [e]
  have : ∀ l : List Value, (List.range l.length).filterMap (fun m => l[m]?) = l := by
    intro l
    induction l with
    | nil => rfl
    | cons a l ih =>
      rw [List.length_cons, List.range_succ_eq_map, List.filterMap_cons]
      simp only [List.getElem?_cons_zero, List.filterMap_map]
      have : ((fun m => (a :: l)[m]?) ∘ Nat.succ) = fun m => l[m]? := by funext m; simp
      rw [this, ih]
  have h2 := this xs.toList.reverse
  rw [List.length_reverse, Array.length_toList] at h2
  exact h2
theorem getItem_tuple_rev {t sl : Addr} {items : Array Value} {vs : Value} {Q : Value → Shared → Prop} (ht : IsTup s.heap t items) (hs : s.heap.IsSliceOf sl .none .none vs) (pv : IsPart vs (some (-1)))
    (h : Q (.ref s.heap.objs.size) { s with heap := s.heap.push { cls := .type "tuple", data := .seq items.toList.reverse.toArray } })
    (hsz : items.size ≤ sizeLine) : wpAny (model prog w) A (getItem (.ref t) (.ref sl)) Q E s := by
  have htake : sizeOk (.seq items.toList.reverse.toArray) := by
    show items.toList.reverse.toArray.size ≤ sizeLine
    rw [List.size_toArray, List.length_reverse, Array.length_toList]
    exact hsz
  obtain ⟨os, hos, hcs, hds⟩ := id hs
  have hTs : s.TypeIs (.ref sl) "slice" := ⟨os, hos, hcs⟩
  unfold getItem
  try with_reducible refine wpAny_holding ?_
  first | refine wpAny_bind (wpAny_pure ?_) | skip
  refine wpAny_bind (wpAny_sequenceKey ht.typeIs (by decide) ?_)
  refine wpAny_bind (wpAny_callSpecial?_slot (name := Str.ofString "__getitem__") ht.typeIs PyProof.Rows.slot_tuple_getitem
    (wpAny_call_entry PyProof.Rows.slot_tuple_getitem ht.typeIs entry_tuple_getitem ?_ (args_tuple_getitem _ _)))
  show wpAny _ _ (Builtin.Tuple.tupleItemsOf (.ref t) >>= _) _ _ s
  refine wpAny_bind (tupleItemsOf_ ht ?_)
  refine wpAny_bind (wpAny_typeOf hTs ?_)
  rw [if_pos (by decide)]
  refine wpAny_bind (sliceApplied_rev hs pv ?_)
  have hno : ¬ ((((items.size : Int) - 1) == 0 && (-1 : Int) == 1 && items.size == items.size) = true) := by
    intro q
    rw [Bool.and_eq_true, Bool.and_eq_true] at q
    exact absurd q.1.2 (by decide)
  show wpAny _ _ (if (((items.size : Int) - 1) == 0 && (-1 : Int) == 1 && items.size == items.size) = true then _ else _) _ _ s
  rw [if_neg hno, pick_rev]
  first
    | exact wpAny_bind (m := Builtin.Tuple.tupleExact _) (wpAny_newObj_type (wpAny_pure ⟨_, rfl, wpAny_pure h⟩) htake)
    | exact wpAny_bind (m := Builtin.Tuple.tupleExact _) (wpAny_newObj_type (wpAny_bind (wpAny_pure (wpAny_pure ⟨_, rfl, wpAny_pure h⟩))) htake)
    | exact wpAny_bind (wpAny_bind (m := Builtin.Tuple.tupleExact _) (wpAny_newObj_type (wpAny_pure (wpAny_pure ⟨_, rfl, wpAny_pure h⟩)) htake))
    | exact wpAny_bind (wpAny_bind (m := Builtin.Tuple.tupleExact _) (wpAny_newObj_type (wpAny_pure ⟨_, rfl, wpAny_pure h⟩) htake))
end
end HT
namespace L2
open PySem PySem.Spec PyProof.Rows
section
variable {X : Cx}
/-- t[::-1] -/
def tRevT (K : PySem.W.Frag) (te : TE) : TE := fun σ H Q => te σ H fun x H1 => ∃ a xs, x = .ref a ∧ SqT K H1 a xs ∧ ∀ p, H1 p = none → Q (.ref p) (upd H1 p (.tup xs.reverse))
theorem pe_revT {e : Expr} {te : TE} {k : Nat} {p1 p2 p3 pos : Pos} (he : PE X e te) : PE X (.Subscript e (.Slice none none (some (.UnaryOp .USub (.Constant (.int 1) k p1) p2)) p3) pos) (tRevT X.K te) := by
  refine ⟨fun pins s σ H Q I h => ?_⟩
  refine Subscript_ (thn (he.run pins s σ H _ I h) fun v s1 ⟨x, H1, I1, r1, q1⟩ => ?_)
  obtain ⟨a, xs, ex, hx, q⟩ := q1
  subst ex
  cases r1
  have hst : PO X (some (.UnaryOp .USub (.Constant (.int 1) k p1) p2)) (tPart (tUn (rU fun i => .int (-i)) (tC (.int 1)))) := po_some (pe_un un_neg pe_int)
  refine wpAny_Slice (thn (po_none.run pins s1 σ H1 (fun o H2 => o = none ∧ H2 = H1) I1 ⟨rfl, rfl⟩) fun vl s2 ⟨l, H2, I2, pl, el, e2⟩ => ?_)
  subst el e2
  refine thn (po_none.run pins s2 σ H2 (fun o H3 => o = none ∧ H3 = H2) I2 ⟨rfl, rfl⟩) fun vu s3 ⟨u, H3, I3, pu, eu, e3⟩ => ?_
  subst eu e3
  refine thn (hst.run pins s3 σ H3 (fun o H4 => o = some (-1) ∧ H4 = H3) I3 ⟨1, rfl, -1, rfl, rfl, rfl⟩) fun vs s4 ⟨o, H4, I4, ps, eo, e4⟩ => ?_
  subst eo e4
  have I5 : Inv X pins σ H4 { s4 with heap := s4.heap.push { cls := .type "slice", data := .fields #[vl, vu, vs] } } := I4.kept (t' := s4.toks) fun b ob q => Heap.get?_push_of_some _ q
  obtain ⟨its, r, ht, hz⟩ := I5.tuple hx
  have hlen := r.length
  cases pl
  cases pu
  show wpAny (model X.prog X.w) X.A (subscriptTail e (.Slice none none (some (.UnaryOp .USub (.Constant (.int 1) k p1) p2)) p3) (.ref a) (.ref s4.heap.objs.size)) (EP X pins σ Q) X.xe { s4 with heap := s4.heap.push { cls := .type "slice", data := .fields #[.none, .none, vs] } }
  refine tail_any (ops := [.ref a, .ref s4.heap.objs.size]) ht.typeIs (PyProof.Rows.slot_tuple_getitem.lookup) ?_ (by with_unfolding_all rfl)
  refine HT.getItem_tuple_rev ht (Heap.IsSliceOf.new _ .none .none vs) ps ?_ (by rw [List.size_toArray]; omega)
  refine ⟨.ref _, _, I5.laid (t' := s4.toks) (o := .tup xs.reverse) (fun b ob q => Heap.get?_push_of_some _ q) (Nat.le_refl _) ?_, rfl, q _ (I5.hok.fresh (Nat.le_refl _))⟩
  exact ⟨by rw [List.length_reverse]; exact hz, _, r.reverse, IsTup.new _ _⟩
end
end L2
namespace QW
open PySem L2
/-! ### raising and trying -/
def tRz (t : St → Hp → XK → Prop) (W : WX) : TS := fun _ σ H => t σ H fun cls d H' => W cls d σ H'
theorem ps_rz {X : Cx} {W : WX} {e : Expr} {t : St → Hp → XK → Prop} {pos : Pos} (hc : X.calm = true) (tk : Takes X W) (he : PMk X e t) : PS X (.Raise (some e) none pos) (tRz t W) := ps_raise hc tk he
theorem i_rz {t : St → Hp → XK → Prop} {W : WX} {D : Ends} {σ : St} {H : Hp} (h : t σ H fun cls d H' => W cls d σ H') : tRz t W D σ H := h
def tTryAs (K : PySem.W.Frag) (c : Value) (i : Nat) (ts : Addr → Value → Option Addr → TS) (tb : WX → TS) : TS := fun D σ H => tb (wAs K c i ts (fun _ _ _ _ => False) D) D σ H
def tTryMany (K : PySem.W.Frag) (l : List (Value × (Addr → Value → Option Addr → TS))) (tb : WX → TS) : TS := fun D σ H => tb (wMany K (fun _ _ _ _ => False) D l) D σ H
theorem i_tryAs {K : PySem.W.Frag} {c : Value} {i : Nat} {ts : Addr → Value → Option Addr → TS} {tb : WX → TS} {D : Ends} {σ : St} {H : Hp} (h : tb (wAs K c i ts (fun _ _ _ _ => False) D) D σ H) : tTryAs K c i ts tb D σ H := h
theorem i_tryMany {K : PySem.W.Frag} {l : List (Value × (Addr → Value → Option Addr → TS))} {tb : WX → TS} {D : Ends} {σ : St} {H : Hp} (h : tb (wMany K (fun _ _ _ _ => False) D l) D σ H) : tTryMany K l tb D σ H := h
theorem i_callS {sp : Sp} {E : St → XK} {t : TA} {σ : St} {H : Hp} {Q : VK} (h : t σ H fun vs H1 => sp vs H1 Q (E σ)) : tCallS sp E t σ H Q := h
/-- an exception that the first clause of several takes -/
theorem wMany_hit {K : PySem.W.Frag} {W : WX} {D : Ends} {c cls : Value} {ts : Addr → Value → Option Addr → TS} {r : List (Value × (Addr → Value → Option Addr → TS))} {d : Option Addr} {σ : St} {H : Hp} (he : PySem.W.exmOne K cls c = some true) (h : ∀ a, H a = none → ts a cls d D σ H) :
    wMany K W D ((c, ts) :: r) cls d σ H := ⟨true, he, fun _ => h, fun z => Bool.noConfusion z⟩
theorem wAs_hit {K : PySem.W.Frag} {W : WX} {D : Ends} {c cls : Value} {i : Nat} {ts : Addr → Value → Option Addr → TS} {d : Option Addr} {σ : St} {H : Hp} (he : PySem.W.exmOne K cls c = some true)
    (h : ∀ a, H a = none → ts a cls d { nx := fun σ' H' => D.nx (σ'.set i none) H', rt := D.rt, bk := fun σ' H' => D.bk (σ'.set i none) H', ct := fun σ' H' => D.ct (σ'.set i none) H' } (σ.set i (some (.ref a))) H) :
    wAs K c i ts W D cls d σ H := ⟨true, he, fun _ => h, fun z => Bool.noConfusion z⟩
/-- a def that may raise -/
structure OkdX (P : Program) (w : World) (K : PySem.W.Frag) (mg : Str → Option Value) (base : Heap) (k : Nat) (x : Str) (ps : List Str) (sp : Sp) : Prop where
  ex : ∃ f fd, FnOk P w K mg base (L2.CX P w) k f fd ps sp ∧ mg x = some (.ref f) ∧ PySem.W.keepIn K (.ref f) = true ∧ Binds K fd ps []
theorem DefAt.okdX {P : Program} {w : World} {K : PySem.W.Frag} {mg : Str → Option Value} {base h : Heap} {k : Nat} {x : Str} {ps : List Str} {sp : Sp} {st : Stmt} (D : DefAt K x st) (X : K.In h) (G : h.Ns mainGlobals mg) (hb : BindsBy x x st ps) (ok : ∀ f fd, Fun K x x st f fd → FnOk P w K mg base (L2.CX P w) k f fd ps sp) : OkdX P w K mg base k x ps sp := by
  obtain ⟨f, oc, od, kV, doc, pm, an, cdv, ct, osl, a, l, c, kp⟩ := D
  have F := fun_mk (st := st) l c kp
  exact ⟨⟨f, _, ok _ _ F, PySem.W.mg_of X G a, kp, F.binds hb⟩⟩
theorem pe_callDX {X : Cx} {x : Str} {p pos : Pos} {e : Expr} {es : List Expr} {t : TA} {k : Nat} {ps : List Str} {sp : Sp} {W : WX} (Dd : OkdX X.prog X.w X.K X.mg X.base k x ps sp) (hr : Room k X.A) (tk : Takes X W) (ha : PA X (e :: es) t) (hg : Gl X x := by rfl) (hdb : (x == ("__debug__" : Str)) = false := by decide)
    (he : starEach (e :: es) X.env = (false, eval e X.env) :: starEach es X.env := by rfl) (hpl : (backTo pos (starEach es X.env)).any (·.1) = false := by rfl) : PE X (.Call (.Name x p) (e :: es) [] pos) (tCallS sp (WE W) t) := by
  obtain ⟨f, fd, F, h1, h2, h3⟩ := Dd.ex
  exact pe_callS F hr hg h1 h2 h3 (fun σ => passAt tk σ) ha hdb he hpl
/-- an own exception class, its __init__ keeping sp -/
structure Okx (P : Program) (w : World) (K : PySem.W.Frag) (mg : Str → Option Value) (base : Heap) (k : Nat) (Cc : Addr) (ps : List Str) (sp : Sp) : Prop where
  ex : ∃ f fd, OexC K Cc ∧ PySem.W.findIn K (.ref Cc) "__init__" = some (some (.ref f)) ∧ PySem.W.typeIn K (.ref f) = some (.type "function") ∧ FnOk P w K mg base CX0 k f fd ps sp ∧ Binds K fd ps []
theorem MethAt.okx {P : Program} {w : World} {K : PySem.W.Frag} {mg : Str → Option Value} {base : Heap} {k : Nat} {q : Str} {ps : List Str} {sp : Sp} {st : Stmt} {Cc : Addr} (D : MethAt K Cc "__init__" q st) (T : OexC K Cc) (ht : ∀ f, PySem.W.findIn K (.ref Cc) "__init__" = some (some (.ref f)) → PySem.W.typeIn K (.ref f) = some (.type "function")) (hb : BindsBy "__init__" q st ps) (ok : ∀ f fd, Fun K "__init__" q st f fd → FnOk P w K mg base CX0 k f fd ps sp) :
    Okx P w K mg base k Cc ps sp := by
  obtain ⟨f, oc, od, kV, doc, pm, an, cdv, ct, osl, a, i, l, c, kp⟩ := D
  have F := fun_mk (st := st) l c kp
  exact ⟨⟨f, _, T, a, ht f a, ok _ _ F, F.binds hb⟩⟩
theorem pmk_x0 {X : Cx} {x : Str} {C : Addr} {k : Nat} {ps : List Str} {sp : Sp} {p pos : Pos} (D : Okx X.prog X.w X.K X.mg X.base k C ps sp) (hr : Room (k + 1) X.A) (hg : Gl X x) (hm : X.mg x = some (.ref C)) (hdb : (x == ("__debug__" : Str)) = false := by decide) :
    PMk X (.Call (.Name x p) [] [] pos) (tMkN C sp) := by
  obtain ⟨f, fd, T, h1, h2, F, b⟩ := D.ex
  exact pmk_oex0 T h1 h2 F hr b pass0 hg hm hdb
theorem pmk_x1 {X : Cx} {x : Str} {C : Addr} {k : Nat} {ps : List Str} {sp : Sp} {p pos : Pos} {e : Expr} {es : List Expr} {ta : TA} (D : Okx X.prog X.w X.K X.mg X.base k C ps sp) (hr : Room (k + 1) X.A) (hg : Gl X x) (hm : X.mg x = some (.ref C)) (ha : PA X (e :: es) ta) (hdb : (x == ("__debug__" : Str)) = false := by decide)
    (he : starEach (e :: es) X.env = (false, eval e X.env) :: starEach es X.env := by rfl) (hpl : (backTo pos (starEach es X.env)).any (·.1) = false := by rfl) :
    PMk X (.Call (.Name x p) (e :: es) [] pos) (tMkO C sp [] ta) := by
  obtain ⟨f, fd, T, h1, h2, F, b⟩ := D.ex
  exact pmk_oex T h1 h2 F hr b .nil pass0 hg hm ha hdb he hpl
/-- what is known of an own exception class that a clause names -/
structure ExcOk (K : PySem.W.Frag) (c : Addr) : Prop where
  te : PySem.W.exmOne K (.ref c) (.ref c) = some true
  xf : XfC K c
theorem exm_of {K : PySem.W.Frag} {S B : Addr} {b : Bool} (h1 : PySem.W.subIn K (.ref B) (.type "BaseException") = some true) (h2 : PySem.W.isClsIn K B = true) (h3 : PySem.W.typeIn K (.ref B) = some (.type "type")) (h4 : PySem.W.subIn K (.ref S) (.ref B) = some b) :
    PySem.W.exmOne K (.ref S) (.ref B) = some b := by
  have e1 : (PySem.W.subIn K (.ref B) (.type "BaseException") == some true) = true := by rw [h1] <;> rfl
  have e2 : ((PySem.W.clsIn K B).isSome && PySem.W.typeIn K (.ref B) == some (.type "type")) = true := by
    have h2' : (PySem.W.clsIn K B).isSome = true := h2
    rw [h2', h3] <;> rfl
  show (if (PySem.W.subIn K (.ref B) (.type "BaseException") == some true) = true then (if ((PySem.W.clsIn K B).isSome && PySem.W.typeIn K (.ref B) == some (.type "type")) = true then PySem.W.subIn K (.ref S) (.ref B) else none) else none) = some b
  rw [if_pos e1, if_pos e2]
  exact h4
theorem i_mkN {C : Addr} {sp : Sp} {σ : St} {H : Hp} {Q : XK} (hsp : ∀ a H Q E, Q .non H → sp [.ref a] H Q E) (q : Q (.ref C) none H) : tMkN C sp σ H Q :=
  fun a ha => hsp _ _ _ _ ⟨rfl, upd_same, by rw [del_upd ha]; exact q⟩
/-! ### ranges as tuples and lists -/
def RgTO (n : Int) (H : Hp) (Q : VK) : Prop := RgOk 0 n ∧ ∀ q, H q = none → Q (.ref q) (upd H q (.tup (rgV 0 n)))
def RgLO (n : Int) (H : Hp) (Q : VK) : Prop := RgOk 0 n ∧ ∀ q, H q = none → Q (.ref q) (upd H q (.lst (rgV 0 n)))
theorem i_tupRg1 {ta : TE} {σ : St} {H : Hp} {Q : VK} (h : ta σ H fun x H1 => ∃ n, x = .int n ∧ RgTO n H1 Q) : tTupRg (tRg1 ta) σ H Q := h
theorem i_lstRg1 {ta : TE} {σ : St} {H : Hp} {Q : VK} (h : ta σ H fun x H1 => ∃ n, x = .int n ∧ RgLO n H1 Q) : tLstRg (tRg1 ta) σ H Q := h
theorem rgV_nat (n : Nat) : rgV 0 ((n : Nat) : Int) = (List.range n).map fun (i : Nat) => V.int (i : Nat) := by
  unfold rgV
  rw [show ((n : Nat) : Int) - 0 = (n : Nat) by omega, Int.toNat_natCast]
  refine List.map_congr_left fun i _ => ?_
  rw [Int.zero_add]
theorem rg_tup {n : Nat} {H : Hp} {Q : V → Hp → Prop} (hn : n ≤ 1000) (q : ∀ p H', H p = none → Same H H' → H' p = some (.tup ((List.range n).map fun (i : Nat) => V.int (i : Nat))) → Q (.ref p) H') : RgTO ((n : Nat) : Int) H Q := by
  refine ⟨RgOk.of_le (by omega) (by omega) (by omega) (by omega), ?_⟩
  rw [rgV_nat]
  exact new_obj q
theorem rg_lst {n : Nat} {H : Hp} {Q : V → Hp → Prop} (hn : n ≤ 1000) (q : ∀ p H', H p = none → Same H H' → H' p = some (.lst ((List.range n).map fun (i : Nat) => V.int (i : Nat))) → Q (.ref p) H') : RgLO ((n : Nat) : Int) H Q := by
  refine ⟨RgOk.of_le (by omega) (by omega) (by omega) (by omega), ?_⟩
  rw [rgV_nat]
  exact new_obj q
/-! ### comprehensions over range(a, b) with a test -/
section
variable {K : PySem.W.Frag} {σ : St} {H : Hp} {Q : VK}
def LcR2 (g : TG) (tt : TT) (te : TE) (vs : List Nat) (σ : St) (Q : VK) (ws : List V) (H1 : Hp) : Prop := ∃ i0 j : Int, ws = [.int i0, .int j] ∧ (-(2 ^ 62) ≤ i0 ∧ i0 < 2 ^ 62 ∧ -(2 ^ 62) ≤ j ∧ j < 2 ^ 62) ∧ ∀ D, H1 D = none → ∃ W : Nat → Nat → Hp → Prop, (∃ m, W 0 m (upd H1 D (.lst []))) ∧ ∀ i m H, W i m H →
  ((Itr i0 (j - i0).toNat).stop i H ∧ Q (.ref D) H) ∨ ((Itr i0 (j - i0).toNat).go i H ∧ ∃ Nx : Hp → Prop, (∀ H', Nx H' → ∃ m', m' < m ∧ W (i + 1) m' H') ∧ ∀ x H', (Itr i0 (j - i0).toNat).yld i H x H' → g x (wipe σ vs) H' fun σ2 H2 => wipe σ2 vs = wipe σ vs ∧ tt σ2 H2 fun b H3 =>
    if b = true then te σ2 H3 fun y H4 => ∃ acc, H4 D = some (.lst acc) ∧ acc.length < sizeLine ∧ Nx (upd H4 D (.lst (acc ++ [y]))) else Nx H3)
theorem i_lcR2 {ta : TA} {te : TE} {tt : TT} {g : TG} {vs : List Nat} (h : ta σ H fun ws H1 => LcR2 g tt te vs σ Q ws H1) : tLc (iRng2 ta) g tt te vs σ H Q := h
theorem lcR2_of {k : Nat} {te : TE} {tt : TT} {vs : List Nat} {i0 j : Int} {n : Nat} (F : Nat → List PyData) (h0 : -(2 ^ 60) ≤ i0 ∧ i0 < 2 ^ 60) (hj : -(2 ^ 60) ≤ j ∧ j < 2 ^ 60) (he : (j - i0).toNat = n) (hn : n < 1000000) (hF : ∀ i, (F i).length ≤ 1)
    (turn : ∀ (i : Nat) (H1 : Hp) (N M : Hp → Prop) (NE : V → Hp → Prop), i < n → Same H H1 → (∀ y H3 d, F i = [d] → Same H1 H3 → Im H3 y d → NE y H3) → (∀ H3, F i = [] → Same H1 H3 → M H3) →
      wipe ((wipe σ vs).set k (some (.int (i0 + (i : Nat))))) vs = wipe σ vs ∧ tt ((wipe σ vs).set k (some (.int (i0 + (i : Nat))))) H1 fun b H3 => if b = true then te ((wipe σ vs).set k (some (.int (i0 + (i : Nat))))) H3 NE else M H3)
    (done : ∀ D H1 ys, H D = none → Same H H1 → H1 D = some (.lst ys) → ImL H1 ys ((List.range n).flatMap F) → Q (.ref D) H1) : LcR2 (gName k) tt te vs σ Q [.int i0, .int j] H := by
  refine ⟨_, _, rfl, ⟨by omega, by omega, by omega, by omega⟩, fun Dl hD => ?_⟩
  rw [he]
  refine lc_range (lo := i0) (n := n) (LcF H Dl F) ⟨same_upd hD, [], upd_same, by simp [ImL]⟩ (fun i H1 hi p => ?_) (fun H1 p => ?_)
  · obtain ⟨s, ys, h1, h2⟩ := p
    have hl := h2.length
    have hb := flatMap_len F hF i
    have e0 : sizeLine = 16777216 := PySem.sizeLine_eq
    refine turn i H1 (LcF H Dl F (i + 1)) _ _ hi s (fun y H3 d hd s3 hy => ?_) (fun H3 hd s3 => ?_)
    · refine ⟨ys, s3 _ _ h1, by omega, same_loc (Same.trans s s3) (kl_upd (s3 _ _ h1)) hD, ys ++ [y], upd_same, ?_⟩
      have kl := kl_upd (ys := ys ++ [y]) (s3 _ _ h1)
      rw [flatMap_range_succ, hd]
      exact ImL.append (kl_iml kl (sm_iml s3 h2)) (by simp only [ImL]; exact ⟨kl_im kl hy, trivial⟩)
    · refine ⟨s.trans s3, ys, s3 _ _ h1, ?_⟩
      rw [flatMap_range_succ, hd, List.append_nil]
      exact sm_iml s3 h2
  · obtain ⟨s, ys, h1, h2⟩ := p
    exact done Dl H1 ys hD s h1 h2
def RevTO (K : PySem.W.Frag) (x : V) (H1 : Hp) (Q : VK) : Prop := ∃ a xs, x = .ref a ∧ SqT K H1 a xs ∧ ∀ p, H1 p = none → Q (.ref p) (upd H1 p (.tup xs.reverse))
theorem i_revT {te : TE} (h : te σ H fun x H1 => RevTO K x H1 Q) : tRevT K te σ H Q := h
end
/-! ### comprehensions over things -/
section
variable {K : PySem.W.Frag} {σ : St} {H : Hp} {Q : VK} {P : Addr → Prop}
theorem lcTh_of {g : TG} {te : TE} {vs : List Nat} {a : Addr} {xs : List V} {es : List Th} (F : Th → PyData) (ha : H a = some (.tup xs)) (hl : ThL P H xs es) (hz : es.length < 1000000)
    (turn : ∀ (e : Th) (x : V) (H1 : Hp) (N : V → Hp → Prop), e ∈ es → Same H H1 → ThR P H1 x e → (∀ y H3, Same H1 H3 → Im H3 y (F e) → N y H3) → g x (wipe σ vs) H1 fun σ2 H2 => wipe σ2 vs = wipe σ vs ∧ te σ2 H2 N)
    (done : ∀ D H1 ys, H D = none → Same H H1 → H1 D = some (.lst ys) → ImL H1 ys (es.map F) → Q (.ref D) H1) : LcT K g te vs σ Q (.ref a) H := by
  have e0 : sizeLine = 16777216 := PySem.sizeLine_eq
  refine ⟨a, rfl, ⟨xs, SqT.of ha⟩, fun Dl hD => ?_⟩
  refine lc_tup (K := K) (a := a) (xs := xs) (tt := tYes) (fun i H1 => Same H H1 ∧ ∃ ys, H1 Dl = some (.lst ys) ∧ ImL H1 ys ((es.take i).map F)) ⟨same_upd hD, [], upd_same, by simp [ImL]⟩ (fun i H' _ p => SqT.of (p.1 _ _ ha)) (fun i x H' hx p => ?_) (fun H' p => ?_)
  · obtain ⟨e, he, hi⟩ := hl.get hx
    obtain ⟨s, ys, h1, h2⟩ := p
    have hy := h2.length
    rw [List.length_map, List.length_take] at hy
    have e1 : (es.take (i + 1)).map F = (es.take i).map F ++ [F e] := by
      rw [List.take_add_one, he]; simp
    refine turn e x H' _ (List.mem_of_getElem? he) s (sm_th s hi) (fun y H3 s3 hy' => ?_)
    refine ⟨ys, s3 _ _ h1, by omega, same_loc (Same.trans s s3) (kl_upd (s3 _ _ h1)) hD, ys ++ [y], upd_same, ?_⟩
    have kl := kl_upd (ys := ys ++ [y]) (s3 _ _ h1)
    rw [e1]
    exact ImL.append (kl_iml kl (sm_iml s3 h2)) (by simp only [ImL]; exact ⟨kl_im kl hy', trivial⟩)
  · obtain ⟨s, ys, h1, h2⟩ := p
    rw [List.take_of_length_le (by rw [hl.length]; exact Nat.le_refl _)] at h2
    exact done Dl H' ys hD s h1 h2
/-- how many things pass a test -/
theorem lcThT_of {g : TG} {tt : TT} {te : TE} {vs : List Nat} {a : Addr} {xs : List V} {es : List Th} (F : Th → Bool) (ha : H a = some (.tup xs)) (hl : ThL P H xs es) (hz : es.length < 1000000)
    (turn : ∀ (e : Th) (x : V) (H1 : Hp) (N M : Hp → Prop) (NE : V → Hp → Prop), e ∈ es → Same H H1 → ThR P H1 x e → (∀ y H3, F e = true → Same H1 H3 → NE y H3) → (∀ H3, F e = false → Same H1 H3 → M H3) →
      g x (wipe σ vs) H1 fun σ2 H2 => wipe σ2 vs = wipe σ vs ∧ tt σ2 H2 fun b H3 => if b = true then te σ2 H3 NE else M H3)
    (done : ∀ D H1 ys, H D = none → Same H H1 → H1 D = some (.lst ys) → ys.length = (es.filter F).length → Q (.ref D) H1) : LcTt K g tt te vs σ Q (.ref a) H := by
  have e0 : sizeLine = 16777216 := PySem.sizeLine_eq
  refine ⟨a, rfl, ⟨xs, SqT.of ha⟩, fun Dl hD => ?_⟩
  refine lc_tup (K := K) (a := a) (xs := xs) (tt := tt) (fun i H1 => Same H H1 ∧ ∃ ys, H1 Dl = some (.lst ys) ∧ ys.length = ((es.take i).filter F).length) ⟨same_upd hD, [], upd_same, by simp⟩ (fun i H' _ p => SqT.of (p.1 _ _ ha)) (fun i x H' hx p => ?_) (fun H' p => ?_)
  · obtain ⟨e, he, hi⟩ := hl.get hx
    obtain ⟨s, ys, h1, h2⟩ := p
    have hb := List.length_filter_le F (es.take i)
    rw [List.length_take] at hb
    have e1 : (es.take (i + 1)).filter F = (es.take i).filter F ++ (if F e = true then [e] else []) := by
      rw [List.take_add_one, he, List.filter_append]
      cases hF : F e <;> simp [hF]
    refine turn e x H' (fun H1 => Same H H1 ∧ ∃ ys, H1 Dl = some (.lst ys) ∧ ys.length = ((es.take (i + 1)).filter F).length) _ _ (List.mem_of_getElem? he) s (sm_th s hi) (fun y H3 hF s3 => ?_) (fun H3 hF s3 => ?_)
    · refine ⟨ys, s3 _ _ h1, by omega, same_loc (Same.trans s s3) (kl_upd (s3 _ _ h1)) hD, ys ++ [y], upd_same, ?_⟩
      rw [e1, if_pos hF, List.length_append, List.length_append, h2]; rfl
    · refine ⟨s.trans s3, ys, s3 _ _ h1, ?_⟩
      rw [e1, if_neg (by rw [hF]; simp), List.append_nil, h2]
  · obtain ⟨s, ys, h1, h2⟩ := p
    rw [List.take_of_length_le (by rw [hl.length]; exact Nat.le_refl _)] at h2
    exact done Dl H' ys hD s h1 h2
theorem lcRz_of {k : Nat} {te : TE} {tt : TT} {vs : List Nat} {j : Int} {n : Nat} (F : Nat → List PyData) (hj : j.toNat = n) (hb : -1000 ≤ j) (hn : n < 1000000) (hF : ∀ i, (F i).length ≤ 1)
    (turn : ∀ (i : Nat) (H1 : Hp) (N M : Hp → Prop) (NE : V → Hp → Prop), i < n → Same H H1 → (∀ y H3 d, F i = [d] → Same H1 H3 → Im H3 y d → NE y H3) → (∀ H3, F i = [] → Same H1 H3 → M H3) →
      wipe ((wipe σ vs).set k (some (.int (i : Nat)))) vs = wipe σ vs ∧ tt ((wipe σ vs).set k (some (.int (i : Nat)))) H1 fun b H3 => if b = true then te ((wipe σ vs).set k (some (.int (i : Nat)))) H3 NE else M H3)
    (done : ∀ D H1 ys, H D = none → Same H H1 → H1 D = some (.lst ys) → ImL H1 ys ((List.range n).flatMap F) → Q (.ref D) H1) : LcR (gName k) tt te vs σ Q [.int j] H := by
  refine ⟨_, rfl, by omega, by omega, fun Dl hD => ?_⟩
  rw [hj]
  refine lc_range (lo := 0) (n := n) (LcF H Dl F) ⟨same_upd hD, [], upd_same, by simp [ImL]⟩ (fun i H1 hi p => ?_) (fun H1 p => ?_)
  · obtain ⟨s, ys, h1, h2⟩ := p
    have hl := h2.length
    have hb := flatMap_len F hF i
    have e0 : sizeLine = 16777216 := PySem.sizeLine_eq
    have e : (0 : Int) + ((i : Nat) : Int) = (i : Nat) := by omega
    rw [e]
    refine turn i H1 (LcF H Dl F (i + 1)) _ _ hi s (fun y H3 d hd s3 hy => ?_) (fun H3 hd s3 => ?_)
    · refine ⟨ys, s3 _ _ h1, by omega, same_loc (Same.trans s s3) (kl_upd (s3 _ _ h1)) hD, ys ++ [y], upd_same, ?_⟩
      have kl := kl_upd (ys := ys ++ [y]) (s3 _ _ h1)
      rw [flatMap_range_succ, hd]
      exact ImL.append (kl_iml kl (sm_iml s3 h2)) (by simp only [ImL]; exact ⟨kl_im kl hy, trivial⟩)
    · refine ⟨s.trans s3, ys, s3 _ _ h1, ?_⟩
      rw [flatMap_range_succ, hd, List.append_nil]
      exact sm_iml s3 h2
  · obtain ⟨s, ys, h1, h2⟩ := p
    exact done Dl H1 ys hD s h1 h2
end
theorem ImL.bls {H : Hp} : ∀ {ys : List V} {bs : List Bool}, ImL H ys (bs.map PyData.bool) → ys = bs.map V.bl
  | [], [], _ => rfl
  | y :: ys, b :: bs, h => by
    simp only [List.map_cons, ImL, Im] at h
    rw [h.1, ImL.bls h.2]; rfl
  | [], _ :: _, h => by simp [ImL] at h
  | _ :: _, [], h => by simp [ImL] at h
/-! ### lots and groups -/
def ascB (ns : List Int) : Bool := (List.range (ns.length - 1)).all fun k => decide (ns.getD k 0 < ns.getD (k + 1) 0)
def thInt : Th → Int
  | .int i => i
  | _ => 0
def Th.lot (n : Int) : Th → Bool
  | .tup l => l.all (·.blw n) && ascB (l.map thInt)
  | _ => false
def Th.len : Th → Nat
  | .tup l => l.length
  | _ => 0
def nth (i : Nat) : Th := .int (i : Nat)
theorem lot_iff {d : Th} {n : Nat} : d.lot n = true ↔ ∃ xs : List Nat, d = .tup (xs.map nth) ∧ (∀ i ∈ xs, i < n) ∧ ascB (xs.map fun (i : Nat) => ((i : Nat) : Int)) = true := by
  constructor
  · intro h
    cases d with
    | tup l =>
      simp only [Th.lot, Bool.and_eq_true] at h
      obtain ⟨h1, h2⟩ := h
      have : ∃ xs : List Nat, l = xs.map nth ∧ ∀ i ∈ xs, i < n := by
        clear h2
        induction l with
        | nil => exact ⟨[], rfl, by simp⟩
        | cons a l ih =>
          rw [List.all_cons, Bool.and_eq_true] at h1
          obtain ⟨xs, e, hx⟩ := ih h1.2
          obtain ⟨i, ei, hi⟩ := blw_iff.mp h1.1
          exact ⟨i :: xs, by rw [List.map_cons, ← e, ei]; rfl, fun j hj => by
            rcases List.mem_cons.mp hj with rfl | hj
            · exact hi
            · exact hx j hj⟩
      obtain ⟨xs, rfl, hx⟩ := this
      refine ⟨xs, rfl, hx, ?_⟩
      rw [List.map_map] at h2
      exact h2
    | int i => simp [Th.lot] at h
    | bl b => simp [Th.lot] at h
    | oth => simp [Th.lot] at h
  · rintro ⟨xs, rfl, hx, ha⟩
    simp only [Th.lot, Bool.and_eq_true, List.map_map]
    refine ⟨List.all_eq_true.mpr fun d hd => ?_, ha⟩
    obtain ⟨i, hi, rfl⟩ := List.mem_map.mp hd
    exact blw_iff.mpr ⟨i, rfl, hx i hi⟩
def grpT (xs ys : List Nat) : Th := .tup [.tup (xs.map nth), .tup (ys.map nth)]
theorem nths_inj {xs ys : List Nat} (h : xs.map nth = ys.map nth) : xs = ys := by
  induction xs generalizing ys with
  | nil => cases ys <;> simp_all
  | cons x xs ih =>
    cases ys with
    | nil => simp at h
    | cons y ys =>
      simp only [List.map_cons, List.cons.injEq, nth, Th.int.injEq] at h
      rw [ih h.2]
      congr 1
      omega
theorem grpT_inj {xs ys xs' ys' : List Nat} (h : grpT xs ys = grpT xs' ys') : xs = xs' ∧ ys = ys' := by
  simp only [grpT, Th.tup.injEq, List.cons.injEq, and_true] at h
  exact ⟨nths_inj h.1, nths_inj h.2⟩
def pickR (o : List Rat) (xs : List Nat) : List Rat := xs.map fun i => o.getD i 0
structure GrpOk (o d : List Rat) (xs ys : List Nat) : Prop where
  hx : ∀ i ∈ xs, i < o.length
  hy : ∀ i ∈ ys, i < d.length
  ax : ascB (xs.map fun (i : Nat) => ((i : Nat) : Int)) = true
  ay : ascB (ys.map fun (i : Nat) => ((i : Nat) : Int)) = true
  n0 : 0 < xs.length + ys.length
def IsGrp (o d : List Rat) (th : Th) : Prop := ∃ xs ys, th = grpT xs ys ∧ GrpOk o d xs ys
def IsEven (o d : List Rat) (th : Th) : Prop := ∃ xs ys, th = grpT xs ys ∧ GrpOk o d xs ys ∧ (pickR o xs).sum = (pickR d ys).sum
theorem IsEven.grp {o d : List Rat} {th : Th} (h : IsEven o d th) : IsGrp o d th := by
  obtain ⟨xs, ys, e, g, _⟩ := h
  exact ⟨xs, ys, e, g⟩
theorem grp_of {o d : List Rat} {x y : Th} : IsGrp o d (.tup [x, y]) ↔ x.lot o.length = true ∧ y.lot d.length = true ∧ 0 < x.len + y.len := by
  constructor
  · rintro ⟨xs, ys, e, g⟩
    simp only [grpT, Th.tup.injEq, List.cons.injEq, and_true] at e
    obtain ⟨rfl, rfl⟩ := e
    refine ⟨lot_iff.mpr ⟨xs, rfl, g.hx, g.ax⟩, lot_iff.mpr ⟨ys, rfl, g.hy, g.ay⟩, ?_⟩
    simpa [Th.len] using g.n0
  · rintro ⟨h1, h2, h3⟩
    obtain ⟨xs, rfl, hx, ax⟩ := lot_iff.mp h1
    obtain ⟨ys, rfl, hy, ay⟩ := lot_iff.mp h2
    exact ⟨xs, ys, rfl, hx, hy, ax, ay, by simpa [Th.len] using h3⟩
def Th.Sm2 : Th → Prop
  | .tup l => l.length ≤ 1000 ∧ ∀ x ∈ l, x.len ≤ 1000
  | _ => True
theorem Th.Sm2.small {d : Th} (h : d.Sm2) : d.small := fun l e => by subst e; exact h.1
theorem small_len {d : Th} (h : d.len ≤ 1000) : d.small := fun l e => by subst e; exact h
def Thing2 (H : Hp) (v : V) : Prop := ∃ d, ThR (fun _ => True) H v d ∧ d.Sm2
theorem Thing2.same {H H' : Hp} {v : V} (s : Same H H') (h : Thing2 H v) : Thing2 H' v := by
  obtain ⟨d, h1, h2⟩ := h
  exact ⟨d, sm_th s h1, h2⟩
theorem Thing2.kl {m : Addr} {H H' : Hp} {v : V} (s : KL m H H') (h : Thing2 H v) : Thing2 H' v := by
  obtain ⟨d, h1, h2⟩ := h
  exact ⟨d, kl_th s h1, h2⟩
theorem ThL.ints {P : Addr → Prop} {H : Hp} : ∀ {vs : List V} {xs : List Nat}, ThL P H vs (xs.map nth) → vs = xs.map fun (i : Nat) => V.int (i : Nat)
  | [], [], _ => rfl
  | v :: vs, x :: xs, h => by
    simp only [List.map_cons, ThL, nth, ThR] at h
    rw [h.1, ThL.ints h.2]; rfl
  | [], _ :: _, h => by simp [ThL] at h
  | _ :: _, [], h => by simp [ThL] at h
theorem grp_at {P : Addr → Prop} {H : Hp} {v : V} {xs ys : List Nat} (h : ThR P H v (grpT xs ys)) : ∃ a b c, v = .ref a ∧ H a = some (.tup [.ref b, .ref c]) ∧ H b = some (.tup (xs.map fun (i : Nat) => V.int (i : Nat))) ∧ H c = some (.tup (ys.map fun (i : Nat) => V.int (i : Nat))) := by
  unfold grpT at h
  obtain ⟨a, vs, rfl, ha, hl⟩ := h.tup_at
  match vs, hl, ha with
  | [x, y], hl, ha =>
    simp only [ThL] at hl
    obtain ⟨b, xs', rfl, hb, hlb⟩ := hl.1.tup_at
    obtain ⟨c, ys', rfl, hc, hlc⟩ := hl.2.1.tup_at
    rw [hlb.ints] at hb
    rw [hlc.ints] at hc
    exact ⟨a, b, c, rfl, ha, hb, hc⟩
theorem all_notfilter {α : Type} (p : α → Bool) : ∀ l : List α, ((l.filter fun a => !p a).length = 0) ↔ l.all p = true
  | [] => by simp
  | a :: l => by
    have ih := all_notfilter p l
    cases h : p a <;> simp [h] <;> simpa using ih
theorem i_yes {σ : St} {H : Hp} {QB : Bool → Hp → Prop} (h : QB true H) : tYes σ H QB := h
theorem nogrp_len {o d : List Rat} {l : List Th} (h : l.length ≠ 2) : ¬ IsGrp o d (.tup l) := by
  rintro ⟨xs, ys, e, _⟩
  simp only [grpT, Th.tup.injEq] at e
  rw [e] at h
  exact h rfl
theorem nogrp_tup {o d : List Rat} {t : Th} (h : ∀ l, t ≠ .tup l) : ¬ IsGrp o d t := by
  rintro ⟨xs, ys, e, _⟩
  exact h _ e
theorem fls {P : Prop} (h : ¬ P) : (false = true ↔ P) := ⟨fun z => (by cases z), fun z => absurd z h⟩
theorem tru {P : Prop} (h : P) : (true = true ↔ P) := ⟨fun _ => h, fun _ => rfl⟩
theorem pick_mem {o : List Rat} {xs : List Nat} (h : ∀ i ∈ xs, i < o.length) : ∀ q ∈ pickR o xs, q ∈ o := by
  intro q hq
  obtain ⟨i, hi, rfl⟩ := List.mem_map.mp hq
  exact getD_mem (h i hi)
theorem pick_bs {o d : List Rat} {xs : List Nat} (hb : Bs (o ++ d)) (hl : xs.length ≤ 1000) (h : ∀ i ∈ xs, i < o.length) : Bs (pickR o xs) :=
  hb.sub (by unfold pickR; rw [List.length_map]; exact hl) fun q hq => List.mem_append_left _ (pick_mem h q hq)
theorem pick_bs' {o d : List Rat} {xs : List Nat} (hb : Bs (o ++ d)) (hl : xs.length ≤ 1000) (h : ∀ i ∈ xs, i < d.length) : Bs (pickR d xs) :=
  hb.sub (by unfold pickR; rw [List.length_map]; exact hl) fun q hq => List.mem_append_right _ (pick_mem h q hq)
theorem grp_small {xs ys : List Nat} (h : (grpT xs ys).Sm2) : xs.length ≤ 1000 ∧ ys.length ≤ 1000 := by
  have h1 := h.2 (.tup (xs.map nth)) (by simp)
  have h2 := h.2 (.tup (ys.map nth)) (by simp)
  simpa [Th.len] using And.intro h1 h2
def pickF (o : List Rat) : PyData → PyData
  | .int i => fr (o.getD i.toNat 0)
  | e => e
theorem pick_map (o : List Rat) (xs : List Nat) : (xs.map fun (i : Nat) => PyData.int (i : Nat)).map (pickF o) = (pickR o xs).map fr := by
  unfold pickR
  rw [List.map_map, List.map_map]
  refine List.map_congr_left fun i _ => ?_
  simp [pickF]
theorem im_nats {H : Hp} (xs : List Nat) : ImL H (xs.map fun (i : Nat) => V.int (i : Nat)) (xs.map fun (i : Nat) => PyData.int (i : Nat)) := by
  induction xs with
  | nil => simp [ImL]
  | cons x xs ih => simp only [List.map_cons, ImL, Im]; exact ⟨trivial, ih⟩
theorem ThL.rev {P : Addr → Prop} {H : Hp} : ∀ {vs : List V} {ds : List Th}, ThL P H vs ds → ThL P H vs.reverse ds.reverse
  | [], [], _ => by simp [ThL]
  | v :: vs, d :: ds, h => by
    simp only [ThL] at h
    rw [List.reverse_cons, List.reverse_cons]
    exact ThL.append (ThL.rev h.2) (by simp only [ThL]; exact ⟨h.1, trivial⟩)
  | [], _ :: _, h => by simp [ThL] at h
  | _ :: _, [], h => by simp [ThL] at h
theorem i_revTh {K : PySem.W.Frag} {H : Hp} {Q : VK} {P : Addr → Prop} {x : V} {ds : List Th} (h : ThR P H x (.tup ds)) (q : ∀ v H', Same H H' → ThR P H' v (.tup ds.reverse) → Q v H') : RevTO K x H Q := by
  obtain ⟨a, vs, rfl, ha, hl⟩ := h.tup_at
  refine ⟨a, vs, rfl, SqT.of ha, new_obj fun p H' hp s e => q _ _ s ?_⟩
  exact ThR.tup_of e ((hl.mon (Same.kp s)).rev)
end QW

namespace L2
open PySem PySem.Spec PyProof.Rows
/-! ### C(e, ..) where C's __init__ may raise, within a try -/
section
variable {X : Cx} {CX : CXT} {k : Nat} {f C : Addr} {fd : FuncData} {ps : List Str} {sp : Sp} {E : St → XK} {x : Str} {p pos : Pos} {e : Expr} {es : List Expr} {t : TA}
theorem run_makeS {pins : List (Addr × Obj)} {σ : St} {H : Hp} {s : Shared} {Q : VK} {us : List Value} {vs : List V} (M : Mk X.K C f) (F : FnOk X.prog X.w X.K X.mg X.base CX k f fd ps sp) (hr : Room (k + 1) X.A) (hb : Binds X.K fd ps [])
    (hx : PassesAt CX X σ (E σ)) (I : Inv X pins σ H s) (r : Vals vs us)
    (h : ∀ x dx, H x = none → H dx = none → dx ≠ x → sp (.ref x :: vs) (upd (upd H dx (.own x)) x (.ins C dx [])) (fun v H2 => v = .non ∧ Q (.ref x) H2) (E σ)) :
    wpAny (model X.prog X.w) X.A (call (.ref C) us) (EP X pins σ Q) X.xe s := by
  have hq := h (s.heap.objs.size + 1) s.heap.objs.size (I.hok.fresh (Nat.le_succ _)) (I.hok.fresh (Nat.le_refl _)) (Nat.ne_of_lt (Nat.lt_succ_self _))
  have I2 := Inv.made (C := C) I
  have r2 : Vals (V.ref (s.heap.objs.size + 1) :: vs) (Value.ref (s.heap.objs.size + 1) :: us) := .cons rfl r
  have hl : (Value.ref (s.heap.objs.size + 1) :: us).length = ps.length := by
    have e := r2.length
    rw [F.len _ _ _ _ hq] at e
    exact e.symm
  have b := hb _ (Value.ref (s.heap.objs.size + 1) :: us) I2.kIn (by rw [List.append_nil]; exact hl)
  rw [List.append_nil] at b
  refine wpAny_call (make_map (f := f) I.kIn M.makes M.init (beq_iff_eq.mp M.fn) (codeAny_mono (F.run _ X.stack _ _ ⟨Value.ref (s.heap.objs.size + 1) :: us, []⟩ (Value.ref (s.heap.objs.size + 1) :: us) _ _ (E σ) (hr.make C us [])
    (I2.env0.make C us []) b r2 hq) fun r s' hq' => ?_))
  cases r with
  | error e => exact hx pins _ _ e s' I2 hq'
  | ok fl =>
    cases fl with
    | ret u =>
      obtain ⟨v, H', I3, rv, ev, q3⟩ := I2.after hq'
      subst ev
      exact ⟨rv, ⟨V.ref (s.heap.objs.size + 1), H', I3, rfl, q3⟩⟩
    | next => exact False.elim hq'
    | brk => exact False.elim hq'
    | cont => exact False.elim hq'
def tMakeS (C : Addr) (sp : Sp) (E : St → XK) (t : TA) : TE := fun σ H Q => t σ H fun vs H1 => ∀ x dx, H1 x = none → H1 dx = none → dx ≠ x → sp (.ref x :: vs) (upd (upd H1 dx (.own x)) x (.ins C dx [])) (fun v H2 => v = .non ∧ Q (.ref x) H2) (E σ)
theorem pe_makeS (M : Mk X.K C f) (F : FnOk X.prog X.w X.K X.mg X.base CX k f fd ps sp) (hr : Room (k + 1) X.A) (hg : Gl X x) (hm : X.mg x = some (.ref C)) (hb : Binds X.K fd ps []) (hx : ∀ σ, PassesAt CX X σ (E σ))
    (ha : PA X (e :: es) t) (hdb : (x == ("__debug__" : Str)) = false := by decide) (he : starEach (e :: es) X.env = (false, eval e X.env) :: starEach es X.env := by rfl) (hpl : (backTo pos (starEach es X.env)).any (·.1) = false := by rfl) :
    PE X (.Call (.Name x p) (e :: es) [] pos) (tMakeS C sp E t) := by
  refine ⟨fun pins s σ H Q I h => ?_⟩
  refine wpAny_Call_Name_kw (ld_glob I hg hm ?_ hdb)
  refine PySem.W.callWith_K (h₀ := X.base) I.ok.mod.kin M.kp (thn (ha.run pos pins s σ H _ I h) fun us s1 ⟨vs, H1, I1, r, q⟩ => ⟨I1.kIn, ?_⟩) he hpl
  exact run_makeS M F hr hb (hx σ) I1 r q
end
end L2
namespace QW
open PySem L2
structure OkmX (P : Program) (w : World) (K : PySem.W.Frag) (mg : Str → Option Value) (base : Heap) (k : Nat) (x : Str) (Cc : Addr) (ps : List Str) (sp : Sp) : Prop where
  ex : ∃ f fd, Mk K Cc f ∧ FnOk P w K mg base (L2.CX P w) k f fd ps sp ∧ mg x = some (.ref Cc) ∧ Binds K fd ps []
theorem MethAt.okmX {P : Program} {w : World} {K : PySem.W.Frag} {mg : Str → Option Value} {base : Heap} {k : Nat} {x q : Str} {ps : List Str} {sp : Sp} {st : Stmt} {Cc : Addr} (D : MethAt K Cc "__init__" q st) (hm : mg x = some (.ref Cc)) (mk : PySem.W.makesIn K Cc = true) (kc : PySem.W.keepIn K (.ref Cc) = true) (hb : BindsBy "__init__" q st ps) (ok : ∀ f fd, Fun K "__init__" q st f fd → FnOk P w K mg base (L2.CX P w) k f fd ps sp) :
    OkmX P w K mg base k x Cc ps sp := by
  obtain ⟨f, oc, od, kV, doc, pm, an, cdv, ct, osl, a, i, l, c, kp⟩ := D
  have F := fun_mk (st := st) l c kp
  exact ⟨⟨f, _, ⟨mk, a, i, kc⟩, ok _ _ F, hm, F.binds hb⟩⟩
theorem pe_makeDX {X : Cx} {x : Str} {p pos : Pos} {e : Expr} {es : List Expr} {t : TA} {k : Nat} {Cc : Addr} {ps : List Str} {sp : Sp} {W : WX} (Dd : OkmX X.prog X.w X.K X.mg X.base k x Cc ps sp) (hr : Room (k + 1) X.A) (tk : Takes X W) (ha : PA X (e :: es) t) (hg : Gl X x := by rfl) (hdb : (x == ("__debug__" : Str)) = false := by decide)
    (he : starEach (e :: es) X.env = (false, eval e X.env) :: starEach es X.env := by rfl) (hpl : (backTo pos (starEach es X.env)).any (·.1) = false := by rfl) : PE X (.Call (.Name x p) (e :: es) [] pos) (tMakeS Cc sp (WE W) t) := by
  obtain ⟨f, fd, M, F, h1, h3⟩ := Dd.ex
  exact pe_makeS M F hr hg h1 h3 (fun σ => passAt tk σ) ha hdb he hpl
def MakeSO (Cc : Addr) (sp : Sp) (vs : List V) (H1 : Hp) (Q : VK) (E : XK) : Prop := ∀ x dx, H1 x = none → H1 dx = none → dx ≠ x → sp (.ref x :: vs) (upd (upd H1 dx (.own x)) x (.ins Cc dx [])) (fun v H2 => v = .non ∧ Q (.ref x) H2) E
theorem i_makeS {Cc : Addr} {sp : Sp} {t : TA} {E : St → XK} {σ : St} {H : Hp} {Q : VK} (h : t σ H fun vs H1 => MakeSO Cc sp vs H1 Q (E σ)) : tMakeS Cc sp E t σ H Q := h
theorem makeSO_of {Cc : Addr} {sp : Sp} {vs : List V} {E : XK} {H : Hp} {Q : VK} (h : ∀ x dx H', H x = none → Same H H' → H' x = some (.ins Cc dx []) → sp (.ref x :: vs) H' (fun v H2 => v = .non ∧ Q (.ref x) H2) E) : MakeSO Cc sp vs H Q E :=
  fun x dx nx nd ne => h x dx _ nx (fun b u hb => by rw [upd_ne (ne_of_none hb nx), upd_ne (ne_of_none hb nd)]; exact hb) upd_same
/-! ### an own exception with a field -/
structure ExcF (K : PySem.W.Frag) (c : Addr) (f : Str) : Prop where
  ox : OexC K c
  no : PySem.W.findIn K (.ref c) f = some none
  te : PySem.W.exmOne K (.ref c) (.ref c) = some true
  xf : XfC K c
def MkOO (C : Addr) (sp : Sp) (vs : List V) (H1 : Hp) (Q : XK) : Prop := vs.length ≤ 1000 ∧ ∀ a, H1 a = none → sp (.ref a :: (vs ++ [])) (upd H1 a (exo a C none))
  (fun v H2 => v = .non ∧ ∃ (d : Addr) (fs : List (Str × V)), H2 a = some (exo a C (some d)) ∧ H2 d = some (exd d fs) ∧ H1 d = none ∧ Q (.ref C) (some d) (upd (del H2 a) d (.xd fs))) (fun _ _ _ => False)
theorem i_mkO {C : Addr} {sp : Sp} {ta : TA} {σ : St} {H : Hp} {Q : XK} (h : ta σ H fun vs H1 => MkOO C sp vs H1 Q) : tMkO C sp [] ta σ H Q := h
/-- an __init__ that keeps its one argument under f -/
def spKeep (K : PySem.W.Frag) (c : Addr) (f : Str) : Sp := fun vs H Q _ => ∃ (a : Addr) (v : V), vs = [.ref a, v] ∧ OexC K c ∧ PySem.W.findIn K (.ref c) f = some none ∧ H a = some (exo a c none) ∧ ∀ dx, H dx = none → dx ≠ a → Q .non (upd (upd H dx (exd dx [(f, v)])) a (exo a c (some dx)))
theorem mkKeep {K : PySem.W.Frag} {c : Addr} {f : Str} {v : V} {H : Hp} {Q : XK} (TF : ExcF K c f) (q : ∀ d H', Same H H' → H' d = some (.xd [(f, v)]) → Q (.ref c) (some d) H') : MkOO c (spKeep K c f) [v] H Q := by
  refine ⟨by simp, fun a ha => ⟨a, v, rfl, TF.ox, TF.no, upd_same, fun dx hdx hne => ⟨rfl, dx, [(f, v)], upd_same, ?_, ?_, q dx _ (fun b o e => ?_) upd_same⟩⟩⟩
  · rw [upd_ne hne]; exact upd_same
  · rw [upd_ne hne] at hdx; exact hdx
  · have h1 : H dx = none := by rw [upd_ne hne] at hdx; exact hdx
    have n1 := ne_of_none e ha
    have n2 := ne_of_none e h1
    rw [upd_ne n2, del_ne n1, upd_ne n1, upd_ne n2, upd_ne n1]
    exact e
def OstO (K : PySem.W.Frag) (f : Str) (D : Ends) (σ : St) (y x : V) (H2 : Hp) : Prop := ∃ a C : Addr, x = .ref a ∧ OexC K C ∧ PySem.W.findIn K (.ref C) f = some none ∧
  ((H2 a = some (exo a C none) ∧ ∀ dx, H2 dx = none → dx ≠ a → D.nx σ (upd (upd H2 dx (exd dx [(f, y)])) a (exo a C (some dx)))) ∨
    ∃ (dx : Addr) (fs : List (Str × V)), H2 a = some (exo a C (some dx)) ∧ H2 dx = some (exd dx fs) ∧ fs.length ≤ 900 ∧ D.nx σ (upd H2 dx (exd dx ((f, y) :: fs))))
theorem i_ost {K : PySem.W.Frag} {f : Str} {to te : TE} {D : Ends} {σ : St} {H : Hp} (h : te σ H fun y H1 => to σ H1 fun x H2 => OstO K f D σ y x H2) : tOst K f to te D σ H := h
theorem i_xf {a : Addr} {cls : Value} {d : Option Addr} {C : Addr} {f : Str} {te : TE} {σ : St} {H : Hp} {Q : VK} (h : te σ H fun x H1 => x = .ref a ∧ cls = .ref C ∧ ∃ (dd : Addr) (fs : List (Str × V)) (v : V), d = some dd ∧ H1 dd = some (.xd fs) ∧ fs.lookup f = some v ∧ Q v H1) : tXf a cls d C f te σ H Q := h
/-! ### tuples of things repeated, sliced -/
theorem ThL.rep {P : Addr → Prop} {H : Hp} {vs : List V} {ds : List Th} (h : ThL P H vs ds) : ∀ n : Nat, ThL P H (List.replicate n vs).flatten (List.replicate n ds).flatten
  | 0 => by simp [ThL]
  | n + 1 => by
    rw [List.replicate_succ, List.replicate_succ, List.flatten_cons, List.flatten_cons]
    exact ThL.append h (ThL.rep h n)
theorem i_repTh {K : PySem.W.Frag} {H : Hp} {Q : VK} {P : Addr → Prop} {x : V} {k : Int} {ds : List Th} (h : ThR P H x (.tup ds)) (hn : ds ≠ []) (h1 : 2 ≤ k) (h2 : k ≤ 1000) (hz : ds.length ≤ 1000) (q : ∀ v H', Same H H' → ThR P H' v (.tup (List.replicate k.toNat ds).flatten) → Q v H') : rRepA K x (.int k) H Q := by
  obtain ⟨a, xs, rfl, ha, hl⟩ := h.tup_at
  have e := hl.length
  refine .inr ⟨a, k, xs, rfl, rfl, SqT.of ha, fun z => hn (List.eq_nil_of_length_eq_zero (by rw [← e, z]; rfl)), by omega, h2, by omega, new_obj fun p H' hp s ee => q _ _ s (ThR.tup_of ee ((hl.mon (Same.kp s)).rep _))⟩
/-- a slice, its items among the tuple's -/
theorem i_slTh' {K : PySem.W.Frag} {H : Hp} {Q : VK} {P : Addr → Prop} {x : V} {ds : List Th} {lo hi : Option Int} (h : ThR P H x (.tup ds))
    (q : ∀ v H' es, Same H H' → es.length ≤ ds.length → (∀ e ∈ es, e ∈ ds) → ThR P H' v (.tup es) → Q v H') : rSlA K x lo hi H Q := by
  have h' := h
  simp only [ThR] at h'
  obtain ⟨a, xs, rfl, ha, la⟩ := h'
  refine ⟨a, xs, rfl, SqT.of ha, fun _ => q _ _ ds (Same.refl _) (Nat.le_refl _) (fun _ h => h) h, fun _ => new_obj fun p H' hp s e => ?_⟩
  refine q _ _ ((ds.drop (HT.sIx xs.length 0 lo)).take (HT.sIx xs.length xs.length hi - HT.sIx xs.length 0 lo)) s ?_ (fun e he => List.mem_of_mem_drop (List.mem_of_mem_take he)) ?_
  · rw [List.length_take, List.length_drop]; omega
  · simp only [ThR]
    refine ⟨p, _, rfl, e, ?_⟩
    unfold cutV
    exact ThL.take _ (ThL.drop _ (la.mon (Same.kp s)))
theorem cut_le101 {xs : List V} {ds : List Th} (h : xs.length = ds.length) : ((ds.drop (HT.sIx xs.length 0 none)).take (HT.sIx xs.length xs.length (some 101) - HT.sIx xs.length 0 none)).length ≤ 101 := by
  rw [List.length_take, List.length_drop]
  have e : HT.sIx xs.length xs.length (some ((101 : Nat) : Int)) = min 101 xs.length := HT.sIx_nat _ _ _
  have e' : HT.sIx xs.length xs.length (some 101) = min 101 xs.length := e
  rw [e']
  omega
theorem i_slTh101 {K : PySem.W.Frag} {H : Hp} {Q : VK} {P : Addr → Prop} {x : V} {ds : List Th} (h : ThR P H x (.tup ds))
    (q : ∀ v H' es, Same H H' → es.length ≤ 101 → (∀ e ∈ es, e ∈ ds) → ThR P H' v (.tup es) → Q v H') : rSlA K x none (some 101) H Q := by
  have h' := h
  simp only [ThR] at h'
  obtain ⟨a, xs, rfl, ha, la⟩ := h'
  have hl := la.length
  refine ⟨a, xs, rfl, SqT.of ha, fun z => q _ _ ds (Same.refl _) ?_ (fun _ h => h) h, fun _ => new_obj fun p H' hp s e => ?_⟩
  · have e : HT.sIx xs.length xs.length (some ((101 : Nat) : Int)) = min 101 xs.length := HT.sIx_nat _ _ _
    have e' : HT.sIx xs.length xs.length (some 101) = min 101 xs.length := e
    have := z.2
    rw [e'] at this
    omega
  refine q _ _ ((ds.drop (HT.sIx xs.length 0 none)).take (HT.sIx xs.length xs.length (some 101) - HT.sIx xs.length 0 none)) s (cut_le101 hl) (fun e he => List.mem_of_mem_drop (List.mem_of_mem_take he)) ?_
  · simp only [ThR]
    refine ⟨p, _, rfl, e, ?_⟩
    unfold cutV
    exact ThL.take _ (ThL.drop _ (la.mon (Same.kp s)))
/-! ### amounts among things -/
def Th.frac : Th → Bool
  | .tup [.int i, .int j] => decide (0 < j ∧ i.natAbs.gcd j.natAbs = 1)
  | _ => false
def Th.amt : Th → Bool
  | .tup [.int i, .int j] => decide (0 < i ∧ 0 < j ∧ i.natAbs.gcd j.natAbs = 1)
  | _ => false
def Th.side : Th → Bool
  | .tup l => decide (1 ≤ l.length ∧ l.length ≤ 100) && l.all Th.amt
  | _ => false
def frT (q : Rat) : Th := .tup [.int q.num, .int (q.den : Nat)]
theorem amt_iff {d : Th} : d.amt = true ↔ ∃ q : Rat, d = frT q ∧ 0 < q.num := by
  constructor
  · intro h
    match d, h with
    | .tup [.int i, .int j], h =>
      simp only [Th.amt, decide_eq_true_eq] at h
      obtain ⟨h1, h2, h3⟩ := h
      have e : (j.toNat : Int) = j := Int.toNat_of_nonneg (by omega)
      refine ⟨⟨i, j.toNat, by omega, ?_⟩, ?_, h1⟩
      · have e2 : j.natAbs = j.toNat := by omega
        rw [← e2]; exact h3
      · simp only [frT]
        rw [e]
  · rintro ⟨q, rfl, h⟩
    have hd : 0 < q.den := Nat.pos_of_ne_zero q.den_nz
    simp only [frT, Th.amt, decide_eq_true_eq]
    refine ⟨h, by omega, ?_⟩
    rw [Int.natAbs_natCast]
    exact q.reduced
theorem amt_frac {i j : Int} : (Th.tup [.int i, .int j]).amt = ((Th.tup [.int i, .int j]).frac && decide (0 < i)) := by
  simp only [Th.amt, Th.frac]
  rw [Bool.eq_iff_iff]
  simp only [decide_eq_true_eq, Bool.and_eq_true]
  constructor
  · rintro ⟨a, b, c⟩; exact ⟨⟨b, c⟩, a⟩
  · rintro ⟨⟨a, b⟩, c⟩; exact ⟨c, a, b⟩
theorem all_amt {l : List Th} (h : l.all Th.amt = true) : ∃ qs : List Rat, l = qs.map frT ∧ ∀ q ∈ qs, 0 < q.num := by
  induction l with
  | nil => exact ⟨[], rfl, by simp⟩
  | cons a l ih =>
    rw [List.all_cons, Bool.and_eq_true] at h
    obtain ⟨qs, e, hq⟩ := ih h.2
    obtain ⟨q, e1, h1⟩ := amt_iff.mp h.1
    refine ⟨q :: qs, by rw [e, e1]; rfl, fun r hr => ?_⟩
    rcases List.mem_cons.mp hr with rfl | hr
    · exact h1
    · exact hq r hr
theorem ThR.frD {P : Addr → Prop} {H : Hp} {v : V} {q : Rat} (h : ThR P H v (frT q)) : Im H v (fr q) := by
  obtain ⟨a, vs, rfl, ha, hl⟩ := h.tup_at
  match vs, hl, ha with
  | [x, y], hl, ha =>
    simp only [ThL, ThR] at hl
    obtain ⟨rfl, rfl, _⟩ := hl
    exact Im.fr_of ha
theorem ThL.frsD {P : Addr → Prop} {H : Hp} : ∀ {vs : List V} {qs : List Rat}, ThL P H vs (qs.map frT) → ImL H vs (qs.map fr)
  | [], [], _ => by simp [ImL]
  | v :: vs, q :: qs, h => by
    simp only [List.map_cons, ThL] at h
    simp only [List.map_cons, ImL]
    exact ⟨h.1.frD, ThL.frsD h.2⟩
  | [], _ :: _, h => by simp [ThL] at h
  | _ :: _, [], h => by simp [ThL] at h
theorem ThR.frsD {P : Addr → Prop} {H : Hp} {v : V} {qs : List Rat} (h : ThR P H v (.tup (qs.map frT))) : Im H v (.tuple (qs.map fr)) := by
  obtain ⟨a, vs, rfl, ha, hl⟩ := h.tup_at
  exact Im.tup ha hl.frsD
theorem thOf_fr (q : Rat) : thOf (fr q) = frT q := rfl
theorem frs_th {P : Addr → Prop} {H : Hp} {v : V} {qs : List Rat} (h : Im H v (.tuple (qs.map fr))) : ThR P H v (.tup (qs.map frT)) := by
  have := Im.th (P := P) _ h
  simp only [thOf, thAll_map, List.map_map] at this
  exact this
/-- what is known of all that may come as a side: its pairs are not great, the amounts' bottoms go into M -/
structure SideT (M : Nat) (d : Th) : Prop where
  ln : d.len ≤ 1000
  el : ∀ l, d = .tup l → ∀ x ∈ l, x.len ≤ 1000 ∧ ∀ i j, x = .tup [.int i, .int j] → i.natAbs < 2 ^ 100 ∧ j.natAbs < 2 ^ 100 ∧ (x.amt = true → j.toNat ∣ M)
theorem SideT.bw {M : Nat} (m0 : 0 < M) (m1 : M < 2 ^ 48) {qs : List Rat} (h : SideT M (.tup (qs.map frT))) (hp : ∀ q ∈ qs, 0 < q.num) : Bw qs := by
  have hl := h.ln
  simp only [Th.len, List.length_map] at hl
  refine ⟨hl, ⟨M, ⟨m0, fun q hq => ?_⟩, m1⟩, fun q hq => ?_⟩
  · obtain ⟨_, h2⟩ := h.el _ rfl (frT q) (List.mem_map_of_mem hq)
    have := (h2 q.num (q.den : Nat) rfl).2.2 (amt_iff.mpr ⟨q, rfl, hp q hq⟩)
    simpa using this
  · obtain ⟨_, h2⟩ := h.el _ rfl (frT q) (List.mem_map_of_mem hq)
    exact Nat.lt_trans (h2 q.num (q.den : Nat) rfl).1 (Nat.pow_lt_pow_right (by decide) (by decide))
theorem Bw.bd {qs : List Rat} (h : Bw qs) : Bd 8000 qs := by
  obtain ⟨h1, ⟨M, h2, h3⟩, h4⟩ := h
  exact ⟨h1, ⟨M, h2, Nat.lt_trans h3 (Nat.pow_lt_pow_right (by decide) (by decide))⟩, fun q hq => Nat.lt_trans (h4 q hq) (Nat.pow_lt_pow_right (by decide) (by decide))⟩
abbrev cStrI : List V → Hp → VK → Prop := fun xs H Q => ∃ i, xs = [.int i] ∧ i.natAbs.log2 < 1920 ∧ Q (.str (toString i)) H
end QW

namespace PySem
open Sem (wp)
open AutoSeq1 (wpAny_loadPart')
/-! ### enumerate(v) of a tuple -/
theorem meets_enumerate_new1 {v : Value} {o : Obj} {H : Heap → Prop} (B : Begins v o H) :
    Meets (Builtin.«enumerate.__new__» ⟨[.type "enumerate", v], []⟩) (fun _ R s => H s.heap ∧
      R (.ok (.ret (.ref (s.heap.push o).objs.size))) { s with heap := (s.heap.push o).push { cls := .type "enumerate", data := .fields #[.none, .bool false, .ref s.heap.objs.size, rawInt 0, .none, .none] } }) :=
  .of_wp fun prog w A R s h => by
    obtain ⟨hp, g, d, tk, os⟩ := s; obtain ⟨h1, h⟩ := h
    have hsub := sub_enumerate
    have q1 : ∀ {A' : Around} {E : Value → Shared → Prop} {Q : Value → Shared → Prop}, Q (.ref hp.objs.size) ⟨hp.push o, g, d, tk, os⟩ → wpAny (model prog w) A' (pyIter v) Q E ⟨hp, g, d, tk, os⟩ :=
      fun q => B.iter prog w _ _ ⟨hp, g, d, tk, os⟩ _ h1 q
    wp_walk using q1
    refine wpAny_stack_any fun st => wpAny_pure ?_
    split
    · rename_i c _ _ _ _ _
      cases (c == Value.type "enumerate")
      · wp_walk using q1
        exact ⟨_, rfl, h⟩
      · wp_walk using q1
        exact ⟨_, rfl, h⟩
    · wp_walk using q1
      exact ⟨_, rfl, h⟩
section
variable {prog : Program} {w : World} {A : Around} {E : Value → Shared → Prop} {s : Shared}
theorem enum_begins1 {v : Value} {o : Obj} {H : Heap → Prop} {Q : Value → Shared → Prop} (B : Begins v o H) (h1 : H s.heap)
    (h : ∀ h', IsEnum h' (s.heap.objs.size + 1) s.heap.objs.size 0 .none → h'.get? s.heap.objs.size = some o → h'.objs.size = s.heap.objs.size + 2 →
      (∀ b o, s.heap.get? b = some o → h'.get? b = some o) → Q (.ref (s.heap.objs.size + 1)) { s with heap := h' }) :
    wpAny (model prog w) A (call (.type "enumerate") [v]) Q E s := by
  refine callType_new F.called_enumerate (by decide) (F.typeCall_enumerate_1 _) (F.newCall_enumerate_1 _) (fun obj => F.args_object_init_2 obj _) F.entry_enumerate_new
    (meets_enumerate_new1 B) ⟨h1, ?_⟩
  have hz : (s.heap.push o).objs.size = s.heap.objs.size + 1 := Heap.size_push ..
  show _ ∧ _
  rw [hz]
  have he : IsEnum ((s.heap.push o).push { cls := .type "enumerate", data := .fields #[.none, .bool false, .ref s.heap.objs.size, rawInt 0, .none, .none] }) (s.heap.objs.size + 1) s.heap.objs.size 0 .none := by
    have := Heap.get?_push_size (s.heap.push o) (o := { cls := .type "enumerate", data := .fields #[.none, .bool false, .ref s.heap.objs.size, rawInt 0, .none, .none] }) rfl
    rw [hz] at this; exact this
  refine ⟨⟨_, he, rfl⟩, h _ he (Heap.get?_push_of_some _ (Heap.get?_push_size _ B.free)) (by rw [Heap.size_push, hz]) fun b o x => Heap.get?_push_of_some _ (Heap.get?_push_of_some _ x)⟩
end
end PySem
namespace L2
open PySem PySem.Spec PyProof.Rows
/-- the tuple at a, each item in a new pair with its place -/
def Itet (K : PySem.W.Frag) (a : Addr) : It :=
  ⟨fun i H => ∃ (xs : List V) (x : V), SqT K H a xs ∧ xs[i]? = some x, fun i H v H' => ∃ T x, v = .ref T ∧ H T = none ∧ H' = upd H T (.tup [.int (i : Nat), x]) ∧ ∀ xs, SqT K H a xs → xs[i]? = some x, fun i H => ∃ xs : List V, SqT K H a xs ∧ xs.length ≤ i⟩
theorem turn_enumT {P : Program} {w : World} {K : PySem.W.Frag} {elts : List Expr} {kk : Nat} {tpos : Pos} (a e it : Addr) :
    Turn P w K (.Tuple elts kk tpos) (Itet K a) [e, it] e (fun i h => (∃ old, IsEnum h e it ((i : Nat) : Int) old) ∧ h.IsTupleIter it a i ∧ e ≠ it) where
  mem := by simp
  obj := fun i h st b hb => by
    obtain ⟨⟨old, he⟩, ⟨o, ho, hc, hd⟩, _⟩ := st
    have e' : b = e ∨ b = it := by simpa using hb
    rcases e' with z | z
    · rw [z]; exact ⟨_, he, fun v q => nomatch q⟩
    · rw [z]; exact ⟨o, ho, fun v q => by rw [hd] at q; cases q⟩
  keep := fun i h h' st k => let ⟨⟨old, he⟩, hi, hne⟩ := st; ⟨⟨old, k e (by simp) _ he⟩, hi.at fun o q => k it (by simp) o q, hne⟩
  item := by
    intro X hP hw hK hc i pins s σ H E I hf st hg
    subst hP hw hK
    obtain ⟨⟨old, he⟩, hit, hne⟩ := st
    obtain ⟨xs, x, hq, hx⟩ := hg
    obtain ⟨its, rv, p, hz⟩ := I.tuple hq
    obtain ⟨u, hu, ru⟩ := rv.get hx
    have hel : e < s.heap.objs.size := Heap.lt_size he
    have hil : it < s.heap.objs.size := by obtain ⟨_, q, _⟩ := hit; exact Heap.lt_size q
    have hia : a ≠ it := by
      rintro rfl
      obtain ⟨o1, q1, c1, _⟩ := hit
      obtain ⟨o2, q2, c2, _⟩ := p
      rw [q1] at q2
      cases q2
      rw [c1] at c2
      exact absurd c2 (by decide)
    have hea : e ≠ a := by
      rintro rfl
      obtain ⟨o2, q2, c2, _⟩ := p
      rw [he] at q2
      cases q2
      exact absurd (show Value.type "enumerate" = Value.type "tuple" from c2) (by decide)
    have D := Draws.tuple (prog := X.prog) (w := X.w) (A := X.A.in1) (show X.A.in1.handled = none from I.ok.hd hc) it a hia its.toArray
    have hlt : i < its.toArray.size := by
      rw [List.size_toArray]
      exact (List.getElem?_eq_some_iff.mp hu).1
    refine wpAny_pyNext_enum_itemD D he ⟨hit, p⟩ hlt hne (by simp [hne, hea]) fun x' h' tk hP ho hst hT hsz hk => ?_
    have hxu : x' = u := by
      have e1 : its.toArray[i]? = some u := by simpa using hu
      rw [e1] at hP
      exact (Option.some.inj hP).symm
    subst hxu
    obtain ⟨hit', _⟩ := hst
    refine ⟨_, rfl, wpAny_letOwnedTupleGo_enum (s := { s with heap := h', toks := tk + 1 }) ho fun h'' he' sb => ?_⟩
    have hT2 : h''.get? s.heap.objs.size = some { cls := .type "tuple", data := .seq #[.int i tk, x'] } := (sb.2 _ (Nat.ne_of_gt hel)).trans hT
    have new : ObjOk X.prog X.w (upd H s.heap.objs.size (.tup [.int (i : Nat), x])) h'' s.heap.objs.size (.tup [.int (i : Nat), x]) :=
      ⟨by show 2 ≤ sizeLine; decide, [.int i tk, x'], .cons ⟨_, rfl⟩ (.cons ru .nil), ⟨_, hT2, rfl, _, rfl⟩⟩
    have I1 : Inv X pins σ (upd H s.heap.objs.size (.tup [.int (i : Nat), x])) { s with heap := h'', toks := tk + 1 } :=
      I.turnedNew (ch := [e, it]) (fun b ob hb q => (sb.2 b (fun z => hb (by simp [z]))).trans (hk b ob (fun z => hb (by simp [z])) (fun z => hb (by simp [z])) q)) hf (Nat.le_refl _) new
    refine ⟨.ref s.heap.objs.size, _, I1, rfl, ⟨_, x, rfl, I.hok.fresh (Nat.le_refl _), rfl, fun ys hy => by rw [I.tuple_inj hy hq]; exact hx⟩, ⟨⟨x', ?_⟩, hit'.at fun o q => (sb.2 it (Ne.symm hne)).trans q, hne⟩, fun b hb => ?_⟩
    · have e1 : ((i + 1 : Nat) : Int) = (i : Int) + 1 := by omega
      rw [e1]; exact he'
    · have hb' : b < s.heap.objs.size := by
        have e' : b = e ∨ b = it := by simpa using hb
        rcases e' with z | z
        · rw [z]; exact hel
        · rw [z]; exact hil
      rw [upd_ne (Nat.ne_of_lt hb')]
      exact (hf b hb).1
  done := by
    intro X hP hw hK hc i pins s σ H E I hf st hg
    subst hP hw hK
    obtain ⟨⟨old, he⟩, hit, hne⟩ := st
    obtain ⟨xs, hq, hx⟩ := hg
    obtain ⟨its, rv, p, hz⟩ := I.tuple hq
    obtain ⟨f0, f1, f2, f3, f4, f5⟩ := hf it (by simp)
    have hl := rv.length
    have hia : a ≠ it := by
      rintro rfl
      obtain ⟨o1, q1, c1, _⟩ := hit
      obtain ⟨o2, q2, c2, _⟩ := p
      rw [q1] at q2
      cases q2
      rw [c1] at c2
      exact absurd c2 (by decide)
    have D : Draws X.prog X.w X.A.in1 it [it, a] i (fun _ _ => False) (fun j h => j = i ∧ h.IsTupleIter it a j ∧ h.IsTuple a its.toArray) :=
      { live := fun _ _ st => let ⟨_, ⟨o, ho, _⟩, _⟩ := st; ⟨o, ho⟩
        frame := fun _ _ _ st hk => ⟨st.1, st.2.1.at fun o e => hk it (by simp) o e, st.2.2.at fun o e => hk a (by simp) o e⟩
        item := fun j s Q E hi st hQ => absurd st.1 (by omega)
        done := fun s Q E st hE => wpAny_nextOf_tuple_end (show X.A.in1.handled = none from I.ok.hd hc) st.2.1 st.2.2 (by simp; omega) hE }
    exact wpAny_pyNext_enum_endD D he ⟨rfl, hit, p⟩ fun h' eb => ⟨rfl, I.turned (t' := s.toks) (fun b o hb q => eb b o hb q) f0 f1 f3 f4 f5⟩
  self := fun A i s Q E st h => let ⟨⟨_, he⟩, _⟩ := st; wpAny_pyIter_enum he h
def iEnumT (K : PySem.W.Frag) (ta : TA) : TI := fun σ H R => ta σ H fun vs H1 => ∃ a xs, vs = [.ref a] ∧ SqT K H1 a xs ∧ R (Itet K a) H1
theorem pi_enumT {X : Cx} {e : Expr} {ta : TA} {p pos tpos : Pos} {elts : List Expr} {kk : Nat} (hg : Gl X "enumerate") (hm : X.mg "enumerate" = none) (ha : PA X [e] ta) (hs : starEach [e] X.env = [(false, eval e X.env)] := by rfl) :
    PI X (.Tuple elts kk tpos) (.Call (.Name "enumerate" p) [e] [] pos) (iEnumT X.K ta) := by
  refine ⟨fun pins s σ H R I h => ?_⟩
  refine Call_ (ld_blt I hg hm boot_enumerate (PyProof.Rows.callWith_type1 (thn (ha.run pos pins s σ H _ I h) fun us s1 ⟨vs, H1, I1, r1, q1⟩ => ?_) hs rfl))
  obtain ⟨a, xs, ex, hq, q⟩ := q1
  subst ex
  cases r1 with
  | cons r rr =>
    cases rr
    cases r
    obtain ⟨its, rv, p', hz⟩ := I1.tuple hq
    refine enum_begins1 (begins_tuple a its.toArray) p' fun h' he hit hsz hk => wpAny_pyIter_enum he ?_
    have I2 : Inv X pins σ H1 { s1 with heap := h' } := I1.kept (t' := s1.toks) hk
    refine ⟨s1.heap.objs.size + 1, [s1.heap.objs.size + 1, s1.heap.objs.size], _, _, H1, rfl, I2, turn_enumT a (s1.heap.objs.size + 1) s1.heap.objs.size, ⟨⟨.none, he⟩, ⟨_, hit, rfl, rfl⟩, Nat.succ_ne_self _⟩, fun b hb => ?_, q⟩
    have e' : b = s1.heap.objs.size + 1 ∨ b = s1.heap.objs.size := by simpa using hb
    have hle : s1.heap.objs.size ≤ b := by
      rcases e' with z | z
      · rw [z]; exact Nat.le_add_right _ _
      · rw [z]; exact Nat.le_refl _
    exact I1.fpOk hle (I1.hok.fresh hle)
theorem walk_enumT {K : PySem.W.Frag} {a : Addr} {xs : List V} : Walk (Itet K a) xs.length (fun H => SqT K H a xs) (YPair (fun i => some (.int (i : Nat))) (fun i => xs[i]?)) := by
  refine ⟨fun i _ hi q => ⟨xs, xs[i], q, by simp [hi]⟩, fun _ q => ⟨xs, q, Nat.le_refl _⟩, fun i H v H' _ q y => ?_⟩
  obtain ⟨T, x, h1, h2, h3, h4⟩ := y
  exact ⟨T, .int (i : Nat), x, h1, h2, h3, rfl, h4 xs q⟩
/-! ### sorted(xs), xs read as data -/
/-- xs, each with what it reads as -/
def rSortedD (K : PySem.W.Frag) : List V → Hp → VK → Prop := fun vs H Q => ∃ (a : Addr) (bs : List (V × PyData)), vs = [V.ref a] ∧ SqL K H a (bs.map Prod.fst) ∧ (∀ b ∈ bs, Dp K H b.1 b.2) ∧ PySem.W.AllAlike (bs.map Prod.snd) ∧ PySem.W.Sortable (bs.map Prod.snd) ∧ (∀ b ∈ bs, b.2.depth ≤ 8) ∧
  ∀ p, H p = none → Q (.ref p) (upd H p (.lst ((bs.mergeSort (PySem.W.dataLe false Prod.snd)).map Prod.fst)))
theorem each_vals {bs : List (V × PyData)} {us : List Value} (h : PySem.W.EachIs (fun u b => RelV b.1 u) us bs) : Vals (bs.map Prod.fst) us := by
  induction h with
  | nil => exact .nil
  | cons h _ ih => exact .cons h ih
theorem vals_each : ∀ {bs : List (V × PyData)} {us : List Value}, Vals (bs.map Prod.fst) us → PySem.W.EachIs (fun u b => RelV b.1 u) us bs
  | [], [], _ => .nil
  | [], _ :: _, h => by cases h
  | _ :: _, [], h => by cases h
  | b :: bs, u :: us, h => by
    cases h with
    | cons h1 h2 => exact .cons h1 (vals_each h2)
theorem each_reads {X : Cx} {pins : List (Addr × Obj)} {σ : St} {H : Hp} {s : Shared} (I : Inv X pins σ H s) : ∀ {bs : List (V × PyData)} {us : List Value}, Vals (bs.map Prod.fst) us → (∀ b ∈ bs, Dp X.K H b.1 b.2) → PySem.W.EachIs (fun u b => ∃ as, Reads s.heap u b.2 as) us bs
  | [], [], _, _ => .nil
  | [], _ :: _, h, _ => by cases h
  | _ :: _, [], h, _ => by cases h
  | b :: bs, u :: us, h, hd => by
    cases h with
    | cons h1 h2 => exact .cons (Dp.reads I _ _ _ (hd b List.mem_cons_self) h1) (each_reads I h2 fun c hc => hd c (List.mem_cons_of_mem _ hc))
theorem cr_sortedD {X : Cx} (hu : X.A.units + 64 < cLine) : CallR X (.builtin "sorted") (rSortedD X.K) := by
  intro pins s σ H vs us Q I r h
  obtain ⟨a, bs, rfl, hs, hd, ha, hk, hdep, q⟩ := h
  obtain ⟨its, rv, hl, hz⟩ := I.list hs
  rw [Vals.ref1 r]
  have hz' : bs.length ≤ sizeLine := by rw [List.length_map] at hz; exact hz
  refine PySem.W.sorted_data (enc := Prod.snd) hl.isList (vals_each rv) (each_reads I rv hd) ha hk hz' (fun b hb => by have := hdep b hb; omega) fun out hlen he => ?_
  obtain ⟨ep, he'⟩ := PyProof.Rows.sortedAll_at s.heap its out.toArray
  refine ⟨.ref _, upd H (s.heap.objs.size + 1) (.lst _), I.laid (t' := s.toks) (fun _ _ => PyProof.Rows.sortedAll_old) (Nat.le_succ _) ⟨?_, out, ep, each_vals he, he'⟩, rfl, q _ (I.hok.fresh (Nat.le_succ _))⟩
  rw [List.length_map, List.length_mergeSort]
  exact hz'
end L2
namespace L2
open PySem PySem.Spec PyProof.Rows
section
variable {P : Program} {w : World} {A : Around} {E : Value → Shared → Prop} {s : Shared}
/-! ### set(xs), xs a list of ints; sorted(set(xs)) -/
abbrev newSet (w : World) : Obj := { cls := .type "set", dict := none, data := .set #[] 0 (.fresh 0 0 (!w.params.followText "set-order")) }
theorem set_of_ints {l : Addr} {items : Array Value} (ns : List Int) {Q : Value → Shared → Prop} (hh : A.handled = none) (hl : s.heap.IsList l items) (hit : IntsAre items.toList ns) (hb : ns.length + 1 < scanBound)
    (h : ∀ (h' : Heap) (tk c : Nat), SetR w h' s.heap.objs.size (fun j => decide (j ∈ ns)) c → c ≤ ns.length → (∀ b o, s.heap.get? b = some o → h'.get? b = some o) → Q (.ref s.heap.objs.size) { s with heap := h', toks := tk }) :
    wpAny (model P w) A (call (.type "set") [.ref l]) Q E s := by
  have hisz : items.size = ns.length := by
    have q := IntsAre.length hit
    rwa [Array.length_toList] at q
  obtain ⟨c, tl, hmro⟩ := F.called_set.mro
  have hmade := F.called_set.made
  have hsub := F.called_set.sub
  have hnt := F.called_set.notType
  have hcc := F.called_set.canCreate
  have hct := F.typeCall_set_1 (.ref l)
  refine wpAny_call (codeAny_of_tree ?_)
  show wpAny _ _ (callAny (.type "set") _) _ _ _
  refine wpAny_pure ⟨Code.quiet_builtin _ (by decide +kernel), codeAny_builtin F.entry_type_call ?_⟩
  rw [Around.under_plain (weight_type_call_type "set" [.ref l] []) rfl]
  repeat (any_goals (first | assumption | wp_step))
  refine codeAny_mono (code_set_led1 (.ref l) (E := E) (Q₁ := fun obj s₁ => obj = .ref s.heap.objs.size ∧ s₁ = { s with heap := s.heap.push (newSet w) }) ⟨rfl, rfl⟩) fun r s₁ hr => ?_
  match r, hr with
  | .error e, hr => exact hr
  | .ok .next, hr => exact hr.elim
  | .ok .brk, hr => exact hr.elim
  | .ok .cont, hr => exact hr.elim
  | .ok (.ret obj), hr =>
    obtain ⟨rfl, rfl⟩ := hr
    have hS : (s.heap.push (newSet w)).get? s.heap.objs.size = some (newSet w) := Heap.get?_push_size _ rfl
    have hT : Shared.TypeIs { s with heap := s.heap.push (newSet w) } (.ref s.heap.objs.size) "set" := ⟨_, hS, rfl⟩
    have hli := F.called_set.init.lookup
    have hbi := F.called_set.init.bind (.ref s.heap.objs.size)
    repeat (any_goals (first | assumption | wp_step))
    refine codeAny_mono (codeAny_call_builtin (R := wants (fun r s₂ => r = .none ∧ ∃ h' tk c, s₂ = { s with heap := h', toks := tk } ∧ SetR w h' s.heap.objs.size (fun j => decide (j ∈ ns)) c ∧ c ≤ ns.length ∧
      (∀ b o, s.heap.get? b = some o → h'.get? b = some o)) E) F.called_set.init.plain F.entry_set_init (check_set_init_1 hT ?_)) fun r₂ s₂ hr₂ => ?_
    · obtain ⟨⟨ocls, odict, odata, oslots⟩, hol, hcl, nl, hdl⟩ := hl
      simp only at hcl hdl
      subst hcl hdl
      have hol' : (s.heap.push (newSet w)).get? l = some { cls := .type "list", dict := odict, data := .seq items nl, slots := oslots } := Heap.get?_push_of_some _ hol
      have hsls := F.sub_list_set
      have hslf := F.sub_list_frozenset
      have hne : (Value.type "list" == Value.type "dict") = false := by decide
      have hl1 : (s.heap.push (newSet w)).IsList l items := ⟨_, hol', rfl, nl, rfl⟩
      have hlS : l < s.heap.objs.size := Heap.lt_size hol
      have hz : (s.heap.push (newSet w)).objs.size = s.heap.objs.size + 1 := Heap.size_push ..
      unfold Builtin.«set.__init__» noKeywords Builtin.Frozenset.updateFrom
      generalize hPI : pyIter = PI
      wp_walk
      subst hPI
      refine wpAny_pyIter_list hl1 (wpAny_bind (wpAny_runValue ?_))
      have hneI : l ≠ (s.heap.push (newSet w)).objs.size := by rw [hz]; exact Nat.ne_of_lt (Nat.lt_succ_of_lt hlS)
      have hSf : s.heap.objs.size ∉ [(s.heap.push (newSet w)).objs.size, l] := by
        rw [hz]; simp only [List.mem_cons, List.not_mem_nil, or_false, not_or]; exact ⟨Nat.ne_of_lt (Nat.lt_succ_self _), Nat.ne_of_gt hlS⟩
      refine set_update_ints ((Walks.list (show A.in1.in1.in1.handled = none by simp [hh]) _ l hneI items).toS) s.heap.objs.size hSf ns hisz hb (fun i v hv => ?_) (items.size - 0) 0 _ (by omega) (Nat.zero_le _)
        ⟨⟨_, Heap.get?_push_size _ rfl, rfl, rfl⟩, hl1.push _⟩ ⟨0, Nat.le_refl 0, setR_new_at (Heap.get?_push_of_some _ hS)⟩ ?_
      · have hi : i < ns.length := by rw [← hisz]; exact (Array.getElem?_eq_some_iff.mp hv).1
        obtain ⟨t, e⟩ := PyProof.Rows.IntsAre.int_at hit i v (by rw [Array.getElem?_toList]; exact hv)
        exact ⟨ns[i], t, List.getElem?_eq_getElem hi, by rw [e, List.getD_eq_getElem?_getD, List.getElem?_eq_getElem hi]; rfl⟩
      · intro s' c' hm hc' hS'
        obtain ⟨h', g2, d', tk', os'⟩ := s'
        have eg : g2 = s.gens := hm.gens
        have ed : d' = s.drawn := hm.drawn
        have eo : os' = s.os := hm.os
        subst eg ed eo
        show wpAny _ _ _ _ _ _
        refine wpAny_pure ?_
        show wpAny _ _ (ret Value.none) _ _ _
        refine wpAny_pure ⟨rfl, h', tk', c', rfl, hS', by omega, fun b o e => ?_⟩
        have hb0 : b < s.heap.objs.size := Heap.lt_size e
        refine hm.heap b o ?_ (Heap.get?_push_of_some _ (Heap.get?_push_of_some _ e))
        rw [hz]; simp only [List.mem_cons, List.not_mem_nil, or_false, not_or]; exact ⟨Nat.ne_of_lt hb0, Nat.ne_of_lt (Nat.lt_succ_of_lt hb0)⟩
    · match r₂, hr₂ with
      | .error e, hr₂ => exact hr₂
      | .ok .next, hr₂ => exact hr₂.elim
      | .ok .brk, hr₂ => exact hr₂.elim
      | .ok .cont, hr₂ => exact hr₂.elim
      | .ok (.ret r), hr₂ =>
        obtain ⟨rfl, h', tk, c', rfl, hS', hc', hk'⟩ := hr₂
        repeat (any_goals (first | assumption | wp_step))
        exact h _ _ _ hS' hc' hk'
end
def rSetI (K : PySem.W.Frag) (w : World) : List V → Hp → VK → Prop := fun vs H Q => ∃ (a : Addr) (ns : List Int), vs = [V.ref a] ∧ SqL K H a (ns.map V.int) ∧ ns.length ≤ 1000 ∧
  ∀ p n, n ≤ ns.length → H p = none → Q (.ref p) (upd H p (SetO w p (fun j => decide (j ∈ ns)) n))
theorem cr_setI {X : Cx} (hc : X.calm = true) : CallR X (.type "set") (rSetI X.K X.w) := by
  intro pins s σ H vs us Q I r h
  obtain ⟨a, ns, rfl, hs, hl, q⟩ := h
  obtain ⟨its, rv, pl, hz⟩ := I.list hs
  rw [Vals.ref1 r]
  refine set_of_ints ns (I.ok.hd hc) pl.isList (by simpa using rv.ints) (by unfold scanBound; omega) fun h' tk c R hcn k => ?_
  exact ⟨.ref _, upd H s.heap.objs.size (SetO X.w _ _ c), I.laid (t' := tk) k (Nat.le_refl _) (setO_new R), rfl, q _ c hcn (I.hok.fresh (Nat.le_refl _))⟩
end L2
namespace L2
open PySem PySem.Spec PyProof.Rows
/-- sorted(set(xs)), xs a list of ints -/
def tSortSet (K : PySem.W.Frag) (ta : TE) : TE := fun σ H Q => ta σ H fun x H1 => ∃ (a : Addr) (ns : List Int), x = .ref a ∧ SqL K H1 a (ns.map V.int) ∧ ns.length < 64 ∧
  ∀ (ns' : List Int) (p : Addr) (H' : Hp), ns'.length ≤ ns.length → ns'.Pairwise (· < ·) → (∀ k, k ∈ ns' ↔ k ∈ ns) → H1 p = none → (∀ b o, H1 b = some o → H' b = some o) → H' p = some (.lst (ns'.map V.int)) → Q (.ref p) H'
theorem pe_sortSet {X : Cx} {a : Expr} {ta : TE} {p p2 q pos : Pos} (hc : X.calm = true) (hg : Gl X "sorted") (hm : X.mg "sorted" = none) (hg2 : Gl X "set") (hm2 : X.mg "set" = none) (ha : PE X a ta)
    (na : starEach [a] X.env = (false, eval a X.env) :: starEach [] X.env := by rfl) : PE X (.Call (.Name "sorted" p) [.Call (.Name "set" p2) [a] [] q] [] pos) (tSortSet X.K ta) := by
  refine ⟨fun pins s σ H Q I h => ?_⟩
  refine Call_ (ld_blt I hg hm PyProof.Rows.boot_sorted ?_)
  refine PyProof.Rows.callWith_builtin1 (PyProof.Rows.args_cons ?_ rfl) rfl rfl
  refine Call_ (ld_blt I hg2 hm2 PyProof.Rows.boot_set ?_)
  refine PyProof.Rows.callWith_type1 (PyProof.Rows.args_cons (thn (ha.run pins s σ H _ I h) fun v s1 ⟨x, H1, I1, r1, q1⟩ => PyProof.Rows.args_nil ?_) na) na rfl
  obtain ⟨l, ns, rfl, hq, h1, q1⟩ := q1
  refine thn (cr_setI (X := X) hc pins s1 σ H1 [.ref l] [v] (fun w H2 => ∃ p n, n ≤ ns.length ∧ w = .ref p ∧ H1 p = none ∧ H2 = upd H1 p (SetO X.w p (fun j => decide (j ∈ ns)) n)) I1 (.cons r1 .nil) ⟨l, ns, rfl, hq, by omega, fun p n hn hp => ⟨p, n, hn, rfl, hp, rfl⟩⟩) fun u s2 ⟨y, H2, I2, r2, b, n, hn, ey, hb, eH⟩ => PyProof.Rows.args_nil ?_
  subst ey eH
  refine cr_sortedSet hc pins s2 σ _ [.ref b] [u] Q I2 (.cons r2 .nil) ⟨b, _, n, rfl, upd_same, by omega, fun ns' p hp hm' hl hn' => ?_⟩
  have hpb : p ≠ b := fun e => by rw [e, upd_same] at hn'; cases hn'
  have hp1 : H1 p = none := by rw [upd_ne hpb] at hn'; exact hn'
  refine q1 ns' p _ (by omega) hp (fun k => by rw [hm' k, decide_eq_true_eq]) hp1 (fun c o e => ?_) upd_same
  rw [upd_ne (ne_of_none e hp1), upd_ne (ne_of_none e hb)]
  exact e
end L2

namespace QW
open PySem L2
section
variable {K : PySem.W.Frag} {H : Hp} {σ : St} {Q : VK} {D : Ends}
/-! ### for a, b in enumerate(tuple) -/
def EnBody (J : It) (g : TG) (tb : TS) (D : Ends) (σ : St) (H1 : Hp) : Prop := ∃ W : Nat → Nat → St → Hp → Prop, (∃ m, W 0 m σ H1) ∧ ∀ i m σ H, W i m σ H →
  (J.stop i H ∧ D.nx σ H) ∨ (J.go i H ∧ ∃ N : St → Hp → Prop, (∀ σ' H', N σ' H' → ∃ m', m' < m ∧ W (i + 1) m' σ' H') ∧ ∀ x H', J.yld i H x H' → g x σ H' fun σ2 H2 => tb { D with nx := N, ct := N, bk := D.nx } σ2 H2)
def ForET (K : PySem.W.Frag) (g : TG) (tb : TS) (D : Ends) (σ : St) (x : V) (H1 : Hp) : Prop := ∃ a xs, [x] = [V.ref a] ∧ SqT K H1 a xs ∧ EnBody (Itet K a) g tb D σ H1
theorem i_forET {te : TE} {g : TG} {tb : TS} (h : te σ H fun x H1 => ForET K g tb D σ x H1) : tFor (iEnumT K (tCons te tNil)) g tb D σ H := h
theorem forET_of {g : TG} {tb : TS} {a : Addr} {xs : List V} (ha : H a = some (.tup xs)) (Pv : Nat → St → Hp → Prop) (Bk : St → Hp → Prop) (h0 : Pv 0 σ H) (hl : ∀ i σ H', Pv i σ H' → H' a = some (.tup xs))
    (hs : ∀ (i : Nat) (x : V) (T : Addr) (σ : St) (H H' : Hp) (N B : St → Hp → Prop), xs[i]? = some x → Pv i σ H → H T = none → Same H H' → H' T = some (.tup [.int (i : Nat), x]) → (∀ σ H, Pv (i + 1) σ H → N σ H) → (∀ σ H, Bk σ H → B σ H) →
      g (.ref T) σ H' fun σ2 H2 => tb { D with nx := N, ct := N, bk := B } σ2 H2)
    (hd : ∀ σ H, Pv xs.length σ H → D.nx σ H) (hb : ∀ σ H, Bk σ H → D.nx σ H) : ForET K g tb D σ (.ref a) H := by
  refine ⟨a, xs, rfl, SqT.of ha, for_it (walk_enumT (K := K) (a := a) (xs := xs)) Pv h0 (fun i σ H' _ p => SqT.of (hl i σ H' p)) (fun i x σ H1 H' hi p y => ?_) hd⟩
  obtain ⟨T, u, v, rfl, hT, rfl, e1, e2⟩ := y
  cases e1
  exact hs i v T σ H1 _ (Pv (i + 1)) D.nx e2 p hT (same_upd hT) upd_same (fun _ _ q => q) hb
theorem i_gtup12 {a b : Addr} {x y z : V} {i j k : Nat} {QG : St → Hp → Prop} (h : H a = some (.tup [x, .ref b])) (h2 : H b = some (.tup [y, z])) (q : QG (((σ.set i (some x)).set j (some y)).set k (some z)) H) : gTup K 2 (gCons (gName i) (gCons (gTup K 2 (gCons (gName j) (gCons (gName k) gNil))) gNil)) (.ref a) σ H QG :=
  ⟨a, [x, .ref b], rfl, SqT.of h, rfl, x, [.ref b], rfl, .ref b, [], rfl, b, [y, z], rfl, SqT.of h2, rfl, y, [z], rfl, z, [], rfl, rfl, rfl, q⟩
/-! ### [.. for a, b in enumerate(list) if ..] -/
def LcE (K : PySem.W.Frag) (g : TG) (tt : TT) (te : TE) (vs : List Nat) (σ : St) (Q : VK) (x : V) (H1 : Hp) : Prop := ∃ a xs, [x] = [V.ref a] ∧ SqL K H1 a xs ∧ ∀ D, H1 D = none → ∃ W : Nat → Nat → Hp → Prop, (∃ m, W 0 m (upd H1 D (.lst []))) ∧ ∀ i m H, W i m H →
  ((Ite K a).stop i H ∧ Q (.ref D) H) ∨ ((Ite K a).go i H ∧ ∃ Nx : Hp → Prop, (∀ H', Nx H' → ∃ m', m' < m ∧ W (i + 1) m' H') ∧ ∀ x H', (Ite K a).yld i H x H' → g x (wipe σ vs) H' fun σ2 H2 => wipe σ2 vs = wipe σ vs ∧ tt σ2 H2 fun b H3 =>
    if b = true then te σ2 H3 fun y H4 => ∃ acc, H4 D = some (.lst acc) ∧ acc.length < sizeLine ∧ Nx (upd H4 D (.lst (acc ++ [y]))) else Nx H3)
theorem i_lcE {tl te : TE} {tt : TT} {g : TG} {vs : List Nat} (h : tl σ H fun x H1 => LcE K g tt te vs σ Q x H1) : tLc (iEnum K (tCons tl tNil)) g tt te vs σ H Q := h
def selV (f : Nat → V → Option V) (xs : List V) (n : Nat) : List V := (List.range n).filterMap fun j => (xs[j]?).bind (f j)
theorem selV_succ {f : Nat → V → Option V} {xs : List V} {n : Nat} {x : V} (h : xs[n]? = some x) : selV f xs (n + 1) = selV f xs n ++ (f n x).toList := by
  unfold selV
  rw [List.range_succ, List.filterMap_append]
  congr 1
  cases e : f n x <;> simp [List.filterMap_cons, h, e]
theorem selV_len {f : Nat → V → Option V} {xs : List V} {n : Nat} : (selV f xs n).length ≤ n := by
  unfold selV
  refine Nat.le_trans (List.length_filterMap_le _ _) ?_
  rw [List.length_range]; exact Nat.le_refl _
theorem lcE_of {g : TG} {tt : TT} {te : TE} {vs : List Nat} {a : Addr} {xs : List V} (f : Nat → V → Option V) (ha : H a = some (.lst xs)) (hz : xs.length ≤ 1000)
    (turn : ∀ (i : Nat) (x : V) (T : Addr) (H1 : Hp) (N : Hp → Prop) (NE : V → Hp → Prop), xs[i]? = some x → Same H H1 → H1 T = some (.tup [.int (i : Nat), x]) → (∀ y H3, f i x = some y → Same H1 H3 → NE y H3) → (∀ H3, f i x = none → Same H1 H3 → N H3) →
      g (.ref T) (wipe σ vs) H1 fun σ2 H2 => wipe σ2 vs = wipe σ vs ∧ tt σ2 H2 fun b H3 => if b = true then te σ2 H3 NE else N H3)
    (done : ∀ D H1, H D = none → Same H H1 → H1 D = some (.lst (selV f xs xs.length)) → Q (.ref D) H1) : LcE K g tt te vs σ Q (.ref a) H := by
  have e0 : sizeLine = 16777216 := PySem.sizeLine_eq
  refine ⟨a, xs, rfl, SqL.of ha, fun Dl hD => ?_⟩
  refine lc_it (walk_enum (K := K) (a := a) (xs := xs)) (fun i H1 => Same H H1 ∧ H1 Dl = some (.lst (selV f xs i))) ⟨same_upd hD, upd_same⟩ (fun i H' _ p => SqL.of (p.1 _ _ ha)) (fun i x H1 H' hi p y => ?_) (fun H' p => ?_)
  · obtain ⟨T, u, v, rfl, hT, rfl, e1, e2⟩ := y
    cases e1
    have s1 : Same H1 (upd H1 T (.tup [.int (i : Nat), v])) := same_upd hT
    have hl : (selV f xs i).length < sizeLine := by have := selV_len (f := f) (xs := xs) (n := i); omega
    have hDn : ∀ {H3 : Hp}, Same (upd H1 T (.tup [.int (i : Nat), v])) H3 → H3 Dl = some (.lst (selV f xs i)) := fun s3 => s3 _ _ (s1 _ _ p.2)
    have hS : ∀ {H3 : Hp}, Same (upd H1 T (.tup [.int (i : Nat), v])) H3 → Same H H3 := fun s3 => (p.1.trans s1).trans s3
    refine turn i v T _ _ _ e2 (p.1.trans s1) upd_same (fun y H3 ey s3 => ⟨_, hDn s3, hl, fun b o hb => ?_, ?_⟩) (fun H3 en s3 => ⟨hS s3, ?_⟩)
    · rw [upd_ne (ne_of_none hb hD)]; exact hS s3 _ _ hb
    · rw [upd_same, selV_succ e2, ey]; rfl
    · rw [hDn s3, selV_succ e2, en]; simp
  · exact done Dl H' hD p.1 p.2
/-! ### sorted(set(xs)) -/
def SortSetO (K : PySem.W.Frag) (x : V) (H1 : Hp) (Q : VK) : Prop := ∃ (a : Addr) (ns : List Int), x = .ref a ∧ SqL K H1 a (ns.map V.int) ∧ ns.length < 64 ∧
  ∀ (ns' : List Int) (p : Addr) (H' : Hp), ns'.length ≤ ns.length → ns'.Pairwise (· < ·) → (∀ k, k ∈ ns' ↔ k ∈ ns) → H1 p = none → (∀ b o, H1 b = some o → H' b = some o) → H' p = some (.lst (ns'.map V.int)) → Q (.ref p) H'
theorem i_sortSet {te : TE} (h : te σ H fun x H1 => SortSetO K x H1 Q) : tSortSet K te σ H Q := h
theorem sortSet_of {a : Addr} {ns : List Int} (h : H a = some (.lst (ns.map V.int))) (hn : ns.length < 64)
    (q : ∀ (ns' : List Int) (p : Addr) (H' : Hp), ns'.length ≤ ns.length → ns'.Pairwise (· < ·) → (∀ k, k ∈ ns' ↔ k ∈ ns) → H p = none → Same H H' → H' p = some (.lst (ns'.map V.int)) → Q (.ref p) H') : SortSetO K (.ref a) H Q := ⟨a, ns, rfl, SqL.of h, hn, q⟩
/-! ### sorted(xs), data -/
theorem i_sortedI {a : Addr} {ns : List Int} (h : H a = some (.lst (ns.map V.int))) (q : ∀ (ns' : List Int) (p : Addr) (H' : Hp), ns'.Perm ns → ns'.Pairwise (· ≤ ·) → H p = none → Same H H' → H' p = some (.lst (ns'.map V.int)) → Q (.ref p) H') : rSortedI K [.ref a] H Q :=
  ⟨a, ns, rfl, SqL.of h, fun ns' p h1 h2 hp => q ns' p _ h1 h2 hp (same_upd hp) upd_same⟩
theorem iml_zip : ∀ {xs : List V} {ds : List PyData}, ImL H xs ds → xs = (xs.zip ds).map Prod.fst ∧ ds = (xs.zip ds).map Prod.snd ∧ ∀ b ∈ xs.zip ds, Im H b.1 b.2
  | [], [], _ => ⟨rfl, rfl, fun _ h => by cases h⟩
  | x :: xs, d :: ds, h => by
    simp only [ImL] at h
    obtain ⟨h1, h2, h3⟩ := iml_zip h.2
    refine ⟨?_, ?_, fun b hb => ?_⟩
    · rw [List.zip_cons_cons, List.map_cons, ← h1]
    · rw [List.zip_cons_cons, List.map_cons, ← h2]
    · rw [List.zip_cons_cons] at hb
      rcases List.mem_cons.mp hb with rfl | hb
      · exact h.1
      · exact h3 b hb
  | [], _ :: _, h => by simp [ImL] at h
  | _ :: _, [], h => by simp [ImL] at h
theorem iml_of : ∀ {bs : List (V × PyData)}, (∀ b ∈ bs, Im H b.1 b.2) → ImL H (bs.map Prod.fst) (bs.map Prod.snd)
  | [], _ => by simp [ImL]
  | b :: bs, h => by
    simp only [List.map_cons, ImL]
    exact ⟨h b List.mem_cons_self, iml_of fun c hc => h c (List.mem_cons_of_mem _ hc)⟩
/-- the data of a sorted list: a permutation, ascending -/
theorem i_sortedD {a : Addr} {xs : List V} {ds : List PyData} (h : H a = some (.lst xs)) (hd : ImL H xs ds) (h1 : PySem.W.AllAlike ds) (h2 : PySem.W.Sortable ds) (h3 : ∀ d ∈ ds, d.depth ≤ 8)
    (q : ∀ (ys : List V) (p : Addr) (H' : Hp), H p = none → Same H H' → H' p = some (.lst ys) → ImL H' ys (ds.mergeSort (PySem.W.dataLe false id)) → Q (.ref p) H') : rSortedD K [.ref a] H Q := by
  obtain ⟨e1, e2, e3⟩ := iml_zip hd
  refine ⟨a, xs.zip ds, rfl, SqL.of (by rw [← e1]; exact h), fun b hb => Im.dp _ (e3 b hb), by rw [← e2]; exact h1, by rw [← e2]; exact h2, fun b hb => h3 _ (by rw [e2]; exact List.mem_map_of_mem hb), fun p hp => ?_⟩
  refine q _ p _ hp (same_upd hp) upd_same ?_
  have e4 : ((xs.zip ds).mergeSort (PySem.W.dataLe false Prod.snd)).map Prod.snd = ds.mergeSort (PySem.W.dataLe false id) := by
    rw [List.map_mergeSort (r := PySem.W.dataLe false Prod.snd) (s := PySem.W.dataLe false id) (f := Prod.snd) (fun _ _ _ _ => rfl), ← e2]
  rw [← e4]
  exact iml_of fun b hb => Im.mono (fun c ys e => same_upd hp c _ e) _ (e3 b (List.mem_mergeSort.mp hb))
end
end QW

namespace QV
open PySem L2 QW
/-! ### regions, values by type -/
abbrev Rg := Addr → Prop
structure CA where
  K : PySem.W.Frag
  P : Program
  w : World
  Evening : Addr
  Tally : Addr
  Subsets : Addr
  Flow : Addr
  CheapFlow : Addr
  Forest : Addr
  Goings : Addr
  Trees : Addr
  Ledger : Addr
  Sitting : Addr
  Desk : Addr
  QuitsError : Addr
  BadEvening : Addr
  NoAmount : Addr
  NotEven : Addr
  NoRow : Addr
  NoPair : Addr
  NoWay : Addr
  NoDrawing : Addr
  TooMany : Addr
  NoNumber : Addr
  NoSettlement : Addr
  NoPrices : Addr
  NoFraction : Addr
  NoPerson : Addr
  NoWeb : Addr
  NotSettled : Addr
  NoOrder : Addr
  Quits : Addr
  NothingDone : Addr
  NoNames : Addr
  NoName : Addr
  Alike : Addr
  NoLosers : Addr
  NoRing : Addr
  NoWish : Addr
  NoEvenings : Addr
  NoRule : Addr
  BadText : Addr
  NoLine : Addr
/-- what stood in F at H stands in F' at H' -/
def Ge (F : Rg) (H : Hp) (F' : Rg) (H' : Hp) : Prop := ∀ b o, F b → H b = some o → F' b ∧ H' b = some o
theorem Ge.refl {F : Rg} {H : Hp} : Ge F H F H := fun _ _ f e => ⟨f, e⟩
theorem Ge.trans {F F1 F2 : Rg} {H H1 H2 : Hp} (a : Ge F H F1 H1) (b : Ge F1 H1 F2 H2) : Ge F H F2 H2 := fun c o f e => b c o (a c o f e).1 (a c o f e).2
class Rp (X : Type) where
  rp : CA → Rg → Hp → V → X → Prop
  mono : ∀ {C : CA} {F F' : Rg} {H H' : Hp} {v : V} {x : X}, Ge F H F' H' → rp C F H v x → rp C F' H' v x
/-- new things, nothing else changed -/
structure New (F : Rg) (H : Hp) (F' : Rg) (H' : Hp) : Prop where
  same : Same H H'
  sub : ∀ b, F b → F' b
  new : ∀ b, F' b → F b ∨ H b = none
  al : ∀ b, F' b → F b ∨ H' b ≠ none
theorem New.refl {F : Rg} {H : Hp} : New F H F H := ⟨Same.refl H, fun _ h => h, fun _ h => .inl h, fun _ h => .inl h⟩
theorem New.ge {F F' : Rg} {H H' : Hp} (n : New F H F' H') : Ge F H F' H' := fun b o f e => ⟨n.sub b f, n.same b o e⟩
theorem New.upd {F : Rg} {H : Hp} {p : Addr} {o : HO} (h : H p = none) : New F H (fun b => F b ∨ b = p) (upd H p o) :=
  ⟨same_upd h, fun _ f => .inl f, fun b f => f.elim .inl fun e => .inr (e ▸ h), fun b f => f.elim .inl fun e => .inr (by subst e; rw [upd_same]; exact fun z => by cases z)⟩
theorem New.same' {F : Rg} {H H' : Hp} (s : Same H H') : New F H F H' := ⟨s, fun _ h => h, fun _ h => .inl h, fun _ h => .inl h⟩
theorem New.trans {F F1 F2 : Rg} {H H1 H2 : Hp} (a : New F H F1 H1) (b : New F1 H1 F2 H2) : New F H F2 H2 :=
  ⟨a.same.trans b.same, fun c f => b.sub c (a.sub c f), fun c f => (b.new c f).elim (a.new c) fun e => .inr (a.same.free e), fun c f => (b.al c f).elim (fun f1 => (a.al c f1).elim .inl fun e => .inr fun z => e (b.same.free z)) .inr⟩

/-- the same, and all that nobody owns here -/
structure Gk (A : Nat → List Addr) (F : Rg) (H : Hp) (F' : Rg) (H' : Hp) : Prop where
  ge : Ge F H F' H'
  kp : ∀ b o, (∀ i, b ∉ A i) → H b = some o → H' b = some o
  fr : ∀ b, H' b = none → H b = none
  new : ∀ b, F' b → F b ∨ H b = none
theorem Gk.refl {A : Nat → List Addr} {F : Rg} {H : Hp} : Gk A F H F H := ⟨Ge.refl, fun _ _ _ e => e, fun _ e => e, fun _ f => .inl f⟩
theorem Gk.trans {A : Nat → List Addr} {F F1 F2 : Rg} {H H1 H2 : Hp} (a : Gk A F H F1 H1) (b : Gk A F1 H1 F2 H2) : Gk A F H F2 H2 := ⟨a.ge.trans b.ge, fun c o hc e => b.kp c o hc (a.kp c o hc e), fun c e => a.fr c (b.fr c e), fun c f => (b.new c f).elim (a.new c) fun e => .inr (a.fr c e)⟩
theorem New.gk {A : Nat → List Addr} {F F' : Rg} {H H' : Hp} (n : New F H F' H') : Gk A F H F' H' := ⟨n.ge, fun b o _ e => n.same b o e, fun b e => n.same.free e, n.new⟩
theorem Gk.loc {A : Nat → List Addr} {F F' : Rg} {H H' : Hp} {D : Addr} {o : HO} (g : Gk A F H F' H') (h : H D = none) (hf : ¬ F' D) : Gk A F H F' (upd H' D o) := by
  refine ⟨fun b u f e => ⟨(g.ge b u f e).1, ?_⟩, fun b u hb e => ?_, fun b e => ?_, g.new⟩
  · have nb : b ≠ D := fun z => by rw [z, h] at e; cases e
    rw [upd_ne nb]; exact (g.ge b u f e).2
  · have nb : b ≠ D := fun z => by rw [z, h] at e; cases e
    rw [upd_ne nb]; exact g.kp b u hb e
  · by_cases hb : b = D
    · subst hb; exact h
    · rw [upd_ne hb] at e; exact g.fr b e
/-! ### owned values: what may change -/
class Ow (X : Type) where
  ow : CA → Rg → Hp → List Addr → V → X → Prop
  mono : ∀ {C : CA} {F F' : Rg} {H H' : Hp} {as : List Addr} {v : V} {x : X}, Ge F H F' H' → (∀ a ∈ as, ∀ o, H a = some o → H' a = some o) → ow C F H as v x → ow C F' H' as v x
  live : ∀ {C : CA} {F : Rg} {H : Hp} {as : List Addr} {v : V} {x : X}, ow C F H as v x → ∀ a ∈ as, H a ≠ none

/-! ### slots -/
inductive Sl : Type 1
  | un : Sl
  | dat : {X : Type} → [Rp X] → X → Sl
  | own : {X : Type} → [Ow X] → X → Sl
def Sl.isOwn : Sl → Bool
  | @Sl.own _ _ _ => true
  | _ => false
def SlOk (C : CA) (F : Rg) (H : Hp) : Sl → Option V → List Addr → Prop
  | .un, _, as => as = []
  | @Sl.dat X i x, o, as => as = [] ∧ ∃ v, o = some v ∧ @Rp.rp X i C F H v x
  | @Sl.own X i x, o, as => ∃ v, o = some v ∧ @Ow.ow X i C F H as v x
theorem SlOk.mono {C : CA} {F F' : Rg} {H H' : Hp} {s : Sl} {o : Option V} {as : List Addr} (g : Ge F H F' H') (k : ∀ a ∈ as, ∀ o, H a = some o → H' a = some o) (h : SlOk C F H s o as) : SlOk C F' H' s o as := by
  cases s with
  | un => exact h
  | dat x => obtain ⟨e, v, h1, h2⟩ := h; exact ⟨e, v, h1, Rp.mono g h2⟩
  | own x => obtain ⟨v, h1, h2⟩ := h; exact ⟨v, h1, Ow.mono g k h2⟩
theorem SlOk.live {C : CA} {F : Rg} {H : Hp} {s : Sl} {o : Option V} {as : List Addr} (h : SlOk C F H s o as) : ∀ a ∈ as, H a ≠ none := by
  cases s with
  | un => intro a ha; rw [show as = [] from h] at ha; cases ha
  | dat x => intro a ha; rw [h.1] at ha; cases ha
  | own x => obtain ⟨v, _, h2⟩ := h; exact Ow.live h2
/-- where a def began -/
structure Gx where
  C : CA
  H0 : Hp
  F0 : Rg
  ws : Rg
  pin : Option (Nat × V × List Addr)
structure Post (H0 : Hp) (F0 : Rg) (ws : Rg) (F : Rg) (H : Hp) : Prop where
  sub : ∀ b, F0 b → F b
  new : ∀ b, F b → F0 b ∨ H0 b = none ∨ ws b
  keep : ∀ b o, ¬ ws b → H0 b = some o → H b = some o
  live : ∀ b, H b = none → H0 b = none
  al : ∀ b, F b → H b ≠ none
structure Env (G : Gx) (sl : List Sl) (σ : St) (A : Nat → List Addr) (F : Rg) (H : Hp) : Prop where
  len : σ.length = sl.length
  sls : ∀ i s, sl[i]? = some s → ∃ o, σ[i]? = some o ∧ SlOk G.C F H s o (A i)
  out : ∀ i, sl.length ≤ i → A i = []
  dj : ∀ i j, i ≠ j → ∀ a, a ∈ A i → a ∉ A j
  fr : ∀ i a, a ∈ A i → ¬ F a ∧ (G.ws a ∨ G.H0 a = none)
  ok : Post G.H0 G.F0 G.ws F H
  pn : ∀ p, G.pin = some p → σ[p.1]? = some (some p.2.1) ∧ A p.1 = p.2.2 ∧ ∃ s, sl[p.1]? = some s ∧ s.isOwn = true
theorem Env.live {G : Gx} {sl : List Sl} {σ : St} {A : Nat → List Addr} {F : Rg} {H : Hp} (E : Env G sl σ A F H) {i : Nat} {a : Addr} (h : a ∈ A i) : H a ≠ none := by
  by_cases hi : i < sl.length
  · obtain ⟨o, _, h2⟩ := E.sls i _ (List.getElem?_eq_getElem hi)
    exact h2.live a h
  · rw [E.out i (by omega)] at h; cases h
theorem Env.newk {G : Gx} {sl : List Sl} {σ : St} {A : Nat → List Addr} {F F' : Rg} {H H' : Hp} (E : Env G sl σ A F H) (n : New F H F' H') : Env G sl σ A F' H' := by
  refine ⟨E.len, fun i s h => ?_, E.out, E.dj, fun i a h => ⟨fun f => ?_, (E.fr i a h).2⟩, ⟨fun b f => n.sub b (E.ok.sub b f), fun b f => ?_, fun b o hb e => n.same b o (E.ok.keep b o hb e), fun b e => E.ok.live b (n.same.free e), fun b f => ?_⟩, E.pn⟩
  · obtain ⟨o, h1, h2⟩ := E.sls i s h
    exact ⟨o, h1, h2.mono n.ge fun a _ o e => n.same a o e⟩
  · rcases n.new a f with f | f
    · exact (E.fr i a h).1 f
    · exact E.live h f
  · rcases n.new b f with f | f
    · exact E.ok.new b f
    · exact .inr (.inl (E.ok.live b f))
  · rcases n.al b f with f | f
    · exact fun z => E.ok.al b f (n.same.free z)
    · exact f
def upA (A : Nat → List Addr) (i : Nat) (as : List Addr) : Nat → List Addr := fun j => if j = i then as else A j
theorem upA_same {A : Nat → List Addr} {i : Nat} {as : List Addr} : upA A i as i = as := if_pos rfl
theorem upA_ne {A : Nat → List Addr} {i j : Nat} {as : List Addr} (h : j ≠ i) : upA A i as j = A j := if_neg h
section
variable {G : Gx} {sl : List Sl} {σ : St} {A : Nat → List Addr} {F : Rg} {H : Hp}
/-- a slot is stored -/
theorem Env.store (E : Env G sl σ A F H) {i : Nat} {s : Sl} {o : Option V} {as : List Addr} (h : SlOk G.C F H s o as) (hi : i < sl.length) (hf : ∀ a ∈ as, ¬ F a ∧ (G.ws a ∨ G.H0 a = none) ∧ ∀ j, j ≠ i → a ∉ A j) (hp : ∀ p, G.pin = some p → p.1 ≠ i) : Env G (sl.set i s) (σ.set i o) (upA A i as) F H := by
  refine ⟨by rw [List.length_set, List.length_set]; exact E.len, fun j t ht => ?_, fun j hj => ?_, fun j k hjk a h1 h2 => ?_, fun j a h1 => ?_, E.ok, fun p e => ?_⟩
  · by_cases hj : i = j
    · subst hj
      rw [List.getElem?_set_self hi] at ht
      cases ht
      exact ⟨o, List.getElem?_set_self (by rw [E.len]; exact hi), by rw [upA_same]; exact h⟩
    · rw [List.getElem?_set_ne hj] at ht ⊢
      rw [upA_ne (Ne.symm hj)]
      exact E.sls j t ht
  · rw [List.length_set] at hj
    rw [upA_ne (by omega)]
    exact E.out j hj
  · by_cases e1 : j = i
    · subst e1
      rw [upA_same] at h1
      rw [upA_ne (Ne.symm hjk)] at h2
      exact (hf a h1).2.2 k (Ne.symm hjk) h2
    · rw [upA_ne e1] at h1
      by_cases e2 : k = i
      · subst e2
        rw [upA_same] at h2
        exact (hf a h2).2.2 j e1 h1
      · rw [upA_ne e2] at h2
        exact E.dj j k hjk a h1 h2
  · by_cases e1 : j = i
    · subst e1
      rw [upA_same] at h1
      exact ⟨(hf a h1).1, (hf a h1).2.1⟩
    · rw [upA_ne e1] at h1
      exact E.fr j a h1
  · obtain ⟨h1, h2, s', h3, h4⟩ := E.pn p e
    have n := hp p e
    rw [List.getElem?_set_ne (Ne.symm n), List.getElem?_set_ne (Ne.symm n), upA_ne n]
    exact ⟨h1, h2, s', h3, h4⟩
theorem Env.dat {X : Type} [Rp X] (E : Env G sl σ A F H) {i : Nat} {x : X} (h : sl[i]? = some (.dat x)) : ∃ v, σ[i]? = some (some v) ∧ Rp.rp G.C F H v x := by
  obtain ⟨o, h1, _, v, rfl, h2⟩ := E.sls i _ h
  exact ⟨v, h1, h2⟩
theorem Env.own {X : Type} [Ow X] (E : Env G sl σ A F H) {i : Nat} {x : X} (h : sl[i]? = some (.own x)) : ∃ v, σ[i]? = some (some v) ∧ Ow.ow G.C F H (A i) v x := by
  obtain ⟨o, h1, v, rfl, h2⟩ := E.sls i _ h
  exact ⟨v, h1, h2⟩
/-- an owned thing has changed in place -/
theorem Env.turn {X : Type} [Ow X] (E : Env G sl σ A F H) {i : Nat} {v : V} {y : X} {F' : Rg} {H' : Hp} (hi : i < sl.length) (hv : σ[i]? = some (some v)) (g : Ge F H F' H') (hy : Ow.ow G.C F' H' (A i) v y)
    (hk : ∀ b o, b ∉ A i → H b = some o → H' b = some o) (hn : ∀ b, F' b → F b ∨ H b = none) (hs : ∀ b, F b → F' b) (hl : ∀ b, H' b = none → H b = none) (ha : ∀ b, F' b → H' b ≠ none) : Env G (sl.set i (.own y)) σ A F' H' := by
  refine ⟨by rw [List.length_set]; exact E.len, fun j t ht => ?_, fun j hj => E.out j (by rwa [List.length_set] at hj), E.dj, fun j a h1 => ⟨fun f => ?_, (E.fr j a h1).2⟩, ⟨fun b f => hs b (E.ok.sub b f), fun b f => ?_, fun b o hb e => ?_, fun b e => E.ok.live b (hl b e), ha⟩, fun p e => ?_⟩
  · by_cases hj : i = j
    · subst hj
      rw [List.getElem?_set_self hi] at ht
      cases ht
      exact ⟨_, hv, v, rfl, hy⟩
    · rw [List.getElem?_set_ne hj] at ht
      obtain ⟨o, h1, h2⟩ := E.sls j t ht
      exact ⟨o, h1, h2.mono g fun a h3 o e => hk a o (fun h4 => E.dj i j hj a h4 h3) e⟩
  · rcases hn a f with f | f
    · exact (E.fr j a h1).1 f
    · exact E.live h1 f
  · rcases hn b f with f | f
    · exact E.ok.new b f
    · exact .inr (.inl (E.ok.live b f))
  · refine hk b o (fun h => ?_) (E.ok.keep b o hb e)
    rcases (E.fr i b h).2 with h | h
    · exact hb h
    · rw [h] at e; cases e
  · obtain ⟨h1, h2, s', h3, h4⟩ := E.pn p e
    refine ⟨h1, h2, ?_⟩
    by_cases n : i = p.1
    · rw [← n, List.getElem?_set_self hi]; exact ⟨_, rfl, rfl⟩
    · rw [List.getElem?_set_ne n]; exact ⟨s', h3, h4⟩
theorem set_id {α : Type _} : ∀ {l : List α} {i : Nat} {a : α}, l[i]? = some a → l.set i a = l
  | [], _, _, h => by simp at h
  | x :: l, 0, a, h => by simp at h; simp [h]
  | x :: l, i + 1, a, h => by
    simp only [List.set_cons_succ, List.cons.injEq, true_and]
    exact set_id (by simpa using h)
end
/-- slots told less of; the pinned one stays -/
def LeSl (pin : Option Nat) : Nat → List Sl → List Sl → Prop
  | _, [], [] => True
  | k, s :: sl, t :: tl => (t = s ∨ (t = .un ∧ pin ≠ some k)) ∧ LeSl pin (k + 1) sl tl
  | _, _, _ => False
theorem LeSl.get {pin : Option Nat} : ∀ {k : Nat} {sl tl : List Sl} {i : Nat} {t : Sl}, LeSl pin k sl tl → tl[i]? = some t → ∃ s, sl[i]? = some s ∧ (t = s ∨ (t = .un ∧ pin ≠ some (k + i)))
  | _, [], [], _, _, _, h => by simp at h
  | k, s :: sl, t :: tl, 0, u, h, e => by
    simp at e; subst e
    exact ⟨s, rfl, h.1⟩
  | k, s :: sl, t :: tl, i + 1, u, h, e => by
    obtain ⟨s', h1, h2⟩ := LeSl.get (i := i) h.2 (by simpa using e)
    exact ⟨s', by simpa using h1, by rw [show k + (i + 1) = k + 1 + i by omega]; exact h2⟩
  | _, [], _ :: _, _, _, h, _ => h.elim
  | _, _ :: _, [], _, _, h, _ => h.elim
theorem LeSl.length {pin : Option Nat} : ∀ {k : Nat} {sl tl : List Sl}, LeSl pin k sl tl → sl.length = tl.length
  | _, [], [], _ => rfl
  | _, s :: sl, t :: tl, h => by simp [LeSl.length h.2]
  | _, [], _ :: _, h => h.elim
  | _, _ :: _, [], h => h.elim
open Classical in
theorem Env.le {G : Gx} {pin : Option Nat} {sl tl : List Sl} {σ : St} {A : Nat → List Addr} {F : Rg} {H : Hp} (E : Env G sl σ A F H) (l : LeSl pin 0 sl tl) (hpin : G.pin.map (·.1) = pin) : ∃ A', Env G tl σ A' F H ∧ ∀ i a, a ∈ A' i → a ∈ A i := by
  refine ⟨fun i => if tl[i]? = some .un then [] else A i, ⟨by rw [E.len, l.length], fun i t h => ?_, fun i hi => ?_, fun i j hij a h1 h2 => ?_, fun i a h => ?_, E.ok, fun p e => ?_⟩, fun i a h => ?_⟩
  · obtain ⟨s, h1, h2⟩ := l.get h
    obtain ⟨o, h3, h4⟩ := E.sls i s h1
    refine ⟨o, h3, ?_⟩
    by_cases hu : t = .un
    · subst hu
      show SlOk _ _ _ _ _ (if tl[i]? = some .un then [] else A i)
      rw [if_pos h]; rfl
    · rcases h2 with rfl | ⟨rfl, _⟩
      · show SlOk _ _ _ _ _ (if tl[i]? = some .un then [] else A i)
        rw [if_neg (by rw [h]; intro z; exact hu (Option.some.inj z))]; exact h4
      · exact absurd rfl hu
  · show (if tl[i]? = some .un then [] else A i) = []
    rw [E.out i (by rw [l.length]; exact hi)]; split <;> rfl
  · split at h1
    · cases h1
    · split at h2
      · cases h2
      · exact E.dj i j hij a h1 h2
  · split at h
    · cases h
    · exact E.fr i a h
  · obtain ⟨h1, h2, s', h3, h4⟩ := E.pn p e
    have hl : p.1 < tl.length := by rw [← l.length]; exact (List.getElem?_eq_some_iff.mp h3).1
    have ht : tl[p.1]? = some tl[p.1] := List.getElem?_eq_getElem hl
    obtain ⟨s, h5, h6⟩ := l.get ht
    rw [h3] at h5
    cases h5
    have h7 : tl[p.1] = s' := by
      rcases h6 with h6 | ⟨_, h6⟩
      · exact h6
      · rw [← hpin, e] at h6
        exact absurd (by simp) h6
    have h8 : tl[p.1]? ≠ some .un := by
      rw [ht, h7]
      intro z
      cases z
      cases h4
    refine ⟨h1, ?_, s', by rw [ht, h7], h4⟩
    show (if tl[p.1]? = some .un then [] else A p.1) = _
    rw [if_neg h8]; exact h2
  · have h' : a ∈ (if tl[i]? = some .un then [] else A i) := h
    split at h'
    · cases h'
    · exact h'
end QV

namespace QV
open PySem L2 QW
/-! ### kinds of values -/
structure Tu (X : Type) where
  l : List X
deriving DecidableEq
structure T3 (X Y Z : Type) where
  a : X
  b : Y
  c : Z
deriving DecidableEq
instance : Rp Int := ⟨fun _ _ _ v x => v = .int x, fun _ h => h⟩
instance : Rp Bool := ⟨fun _ _ _ v x => v = .bl x, fun _ h => h⟩
instance : Rp Unit := ⟨fun _ _ _ v _ => v = .non, fun _ h => h⟩
instance : Rp Str := ⟨fun _ _ _ v x => v = .str x ∧ PySem.PyData.strOk x = true, fun _ h => h⟩
section
variable {X Y Z : Type} [Rp X] [Rp Y] [Rp Z]
def RpL (C : CA) (F : Rg) (H : Hp) : List V → List X → Prop
  | [], [] => True
  | v :: vs, x :: xs => Rp.rp C F H v x ∧ RpL C F H vs xs
  | _, _ => False
theorem RpL.mono {C : CA} {F F' : Rg} {H H' : Hp} (g : Ge F H F' H') : ∀ {vs : List V} {xs : List X}, RpL C F H vs xs → RpL C F' H' vs xs
  | [], [], _ => trivial
  | v :: vs, x :: xs, h => ⟨Rp.mono g h.1, RpL.mono g h.2⟩
  | [], _ :: _, h => h.elim
  | _ :: _, [], h => h.elim
theorem RpL.length {C : CA} {F : Rg} {H : Hp} : ∀ {vs : List V} {xs : List X}, RpL C F H vs xs → vs.length = xs.length
  | [], [], _ => rfl
  | v :: vs, x :: xs, h => by simp [RpL.length h.2]
  | [], _ :: _, h => h.elim
  | _ :: _, [], h => h.elim
theorem RpL.get {C : CA} {F : Rg} {H : Hp} : ∀ {vs : List V} {xs : List X} {i : Nat} {v : V}, RpL C F H vs xs → vs[i]? = some v → ∃ x, xs[i]? = some x ∧ Rp.rp C F H v x
  | [], [], _, _, _, e => by simp at e
  | v :: vs, x :: xs, 0, w, h, e => by simp at e; subst e; exact ⟨x, rfl, h.1⟩
  | v :: vs, x :: xs, i + 1, w, h, e => by
    obtain ⟨y, h1, h2⟩ := RpL.get (i := i) h.2 (by simpa using e)
    exact ⟨y, by simpa using h1, h2⟩
  | [], _ :: _, _, _, h, _ => h.elim
  | _ :: _, [], _, _, h, _ => h.elim
theorem RpL.get' {C : CA} {F : Rg} {H : Hp} {vs : List V} {xs : List X} {i : Nat} {x : X} (h : RpL C F H vs xs) (e : xs[i]? = some x) : ∃ v, vs[i]? = some v ∧ Rp.rp C F H v x := by
  have hi : i < xs.length := (List.getElem?_eq_some_iff.mp e).1
  have hv : vs[i]? = some (vs[i]'(by rw [h.length]; exact hi)) := List.getElem?_eq_getElem _
  obtain ⟨y, h1, h2⟩ := h.get hv
  rw [e] at h1; cases h1
  exact ⟨_, hv, h2⟩
theorem RpL.append {C : CA} {F : Rg} {H : Hp} : ∀ {vs : List V} {xs : List X} {ws : List V} {ys : List X}, RpL C F H vs xs → RpL C F H ws ys → RpL C F H (vs ++ ws) (xs ++ ys)
  | [], [], _, _, _, q => q
  | v :: vs, x :: xs, _, _, h, q => ⟨h.1, RpL.append h.2 q⟩
  | [], _ :: _, _, _, h, _ => h.elim
  | _ :: _, [], _, _, h, _ => h.elim
theorem RpL.drop {C : CA} {F : Rg} {H : Hp} : ∀ {vs : List V} {xs : List X} (n : Nat), RpL C F H vs xs → RpL C F H (vs.drop n) (xs.drop n)
  | _, _, 0, h => h
  | [], [], _ + 1, _ => by simp [RpL]
  | v :: vs, x :: xs, n + 1, h => by simp only [List.drop_succ_cons]; exact RpL.drop n h.2
  | [], _ :: _, _ + 1, h => h.elim
  | _ :: _, [], _ + 1, h => h.elim
theorem RpL.take {C : CA} {F : Rg} {H : Hp} : ∀ {vs : List V} {xs : List X} (n : Nat), RpL C F H vs xs → RpL C F H (vs.take n) (xs.take n)
  | _, _, 0, _ => by simp [RpL]
  | [], [], _ + 1, _ => by simp [RpL]
  | v :: vs, x :: xs, n + 1, h => by simp only [List.take_succ_cons]; exact ⟨h.1, RpL.take n h.2⟩
  | [], _ :: _, _ + 1, h => h.elim
  | _ :: _, [], _ + 1, h => h.elim
theorem RpL.rev {C : CA} {F : Rg} {H : Hp} : ∀ {vs : List V} {xs : List X}, RpL C F H vs xs → RpL C F H vs.reverse xs.reverse
  | [], [], _ => trivial
  | v :: vs, x :: xs, h => by
    rw [List.reverse_cons, List.reverse_cons]
    exact (RpL.rev h.2).append ⟨h.1, trivial⟩
  | [], _ :: _, h => h.elim
  | _ :: _, [], h => h.elim
theorem RpL.set {C : CA} {F : Rg} {H : Hp} {v : V} {x : X} (q : Rp.rp C F H v x) : ∀ {vs : List V} {xs : List X} (i : Nat), RpL C F H vs xs → RpL C F H (vs.set i v) (xs.set i x)
  | [], [], _, _ => trivial
  | _ :: _, _ :: _, 0, h => ⟨q, h.2⟩
  | w :: vs, y :: xs, i + 1, h => ⟨h.1, RpL.set q i h.2⟩
  | [], _ :: _, _, h => h.elim
  | _ :: _, [], _, h => h.elim
theorem RpL.erase {C : CA} {F : Rg} {H : Hp} : ∀ {vs : List V} {xs : List X} (i : Nat), RpL C F H vs xs → RpL C F H (vs.eraseIdx i) (xs.eraseIdx i)
  | [], [], _, _ => trivial
  | _ :: _, _ :: _, 0, h => h.2
  | w :: vs, y :: xs, i + 1, h => ⟨h.1, RpL.erase i h.2⟩
  | [], _ :: _, _, h => h.elim
  | _ :: _, [], _, h => h.elim
theorem RpL.rep {C : CA} {F : Rg} {H : Hp} {vs : List V} {xs : List X} (h : RpL C F H vs xs) : ∀ n : Nat, RpL C F H (List.replicate n vs).flatten (List.replicate n xs).flatten
  | 0 => trivial
  | n + 1 => by
    rw [List.replicate_succ, List.replicate_succ, List.flatten_cons, List.flatten_cons]
    exact h.append (RpL.rep h n)
theorem RpL.ints {C : CA} {F : Rg} {H : Hp} : ∀ {vs : List V} {xs : List Int}, RpL C F H vs xs → vs = xs.map V.int
  | [], [], _ => rfl
  | v :: vs, x :: xs, h => by rw [List.map_cons, ← RpL.ints h.2, show v = .int x from h.1]
  | [], _ :: _, h => h.elim
  | _ :: _, [], h => h.elim
theorem RpL.of_ints {C : CA} {F : Rg} {H : Hp} : ∀ (xs : List Int), RpL C F H (xs.map V.int) xs
  | [] => trivial
  | x :: xs => ⟨rfl, RpL.of_ints xs⟩
theorem RpL.bls {C : CA} {F : Rg} {H : Hp} : ∀ {vs : List V} {xs : List Bool}, RpL C F H vs xs → vs = xs.map V.bl
  | [], [], _ => rfl
  | v :: vs, x :: xs, h => by rw [List.map_cons, ← RpL.bls h.2, show v = .bl x from h.1]
  | [], _ :: _, h => h.elim
  | _ :: _, [], h => h.elim
theorem RpL.strs {C : CA} {F : Rg} {H : Hp} : ∀ {vs : List V} {xs : List Str}, RpL C F H vs xs → vs = xs.map V.str
  | [], [], _ => rfl
  | v :: vs, x :: xs, h => by rw [List.map_cons, ← RpL.strs h.2, show v = .str x from h.1.1]
  | [], _ :: _, h => h.elim
  | _ :: _, [], h => h.elim
instance : Rp (X × Y) := ⟨fun C F H v x => ∃ a u w, v = .ref a ∧ F a ∧ H a = some (.tup [u, w]) ∧ Rp.rp C F H u x.1 ∧ Rp.rp C F H w x.2, fun g ⟨a, u, w, e, f, h, h1, h2⟩ => ⟨a, u, w, e, (g _ _ f h).1, (g _ _ f h).2, Rp.mono g h1, Rp.mono g h2⟩⟩
instance : Rp (T3 X Y Z) := ⟨fun C F H v x => ∃ a u w z, v = .ref a ∧ F a ∧ H a = some (.tup [u, w, z]) ∧ Rp.rp C F H u x.a ∧ Rp.rp C F H w x.b ∧ Rp.rp C F H z x.c, fun g ⟨a, u, w, z, e, f, h, h1, h2, h3⟩ => ⟨a, u, w, z, e, (g _ _ f h).1, (g _ _ f h).2, Rp.mono g h1, Rp.mono g h2, Rp.mono g h3⟩⟩
instance : Rp (Tu X) := ⟨fun C F H v x => ∃ a vs, v = .ref a ∧ F a ∧ H a = some (.tup vs) ∧ RpL C F H vs x.l, fun g ⟨a, vs, e, f, h, h1⟩ => ⟨a, vs, e, (g _ _ f h).1, (g _ _ f h).2, RpL.mono g h1⟩⟩
instance : Rp (List X) := ⟨fun C F H v x => ∃ a vs, v = .ref a ∧ F a ∧ H a = some (.lst vs) ∧ RpL C F H vs x, fun g ⟨a, vs, e, f, h, h1⟩ => ⟨a, vs, e, (g _ _ f h).1, (g _ _ f h).2, RpL.mono g h1⟩⟩
instance : Rp (Option X) := ⟨fun C F H v x => match x with | none => v = .non | some y => Rp.rp C F H v y, fun {C F F' H H' v x} g h => by
  cases x with
  | none => exact h
  | some y => exact Rp.mono g h⟩
instance : Ow (List X) := ⟨fun C F H as v x => ∃ a vs, v = .ref a ∧ as = [a] ∧ H a = some (.lst vs) ∧ RpL C F H vs x, fun g k ⟨a, vs, e, f, h, h1⟩ => ⟨a, vs, e, f, k a (by rw [f]; simp) _ h, RpL.mono g h1⟩, fun ⟨a, vs, e, f, h, _⟩ b hb => by
  rw [f] at hb
  have : b = a := by simpa using hb
  rw [this, h]; exact fun z => by cases z⟩
end
/-! ### an expression's meaning -/
abbrev PT (X : Type) := (X → Prop) → Prop
abbrev pR {X : Type} (x : X) : PT X := fun Q => Q x
def RE (G : Gx) (sl : List Sl) (te : TE) {X : Type} [Rp X] (m : PT X) : Prop := ∀ (σ : St) (A : Nat → List Addr) (F : Rg) (H : Hp) (Qp : X → Prop) (Q : VK), Env G sl σ A F H → m Qp →
  (∀ x v F' H', Qp x → Gk A F H F' H' → Env G sl σ A F' H' → Rp.rp G.C F' H' v x → Q v H') → te σ H Q
/-- an expression by which what is owned turns -/
def REG (G : Gx) (sl : List Sl) (te : TE) {B : Type} (sl' : B → List Sl) {X : Type} [Rp X] (val : B → X) (m : PT B) : Prop := ∀ (σ : St) (A : Nat → List Addr) (F : Rg) (H : Hp) (Qp : B → Prop) (Q : VK), Env G sl σ A F H → m Qp →
  (∀ b v F' H', Qp b → Gk A F H F' H' → Env G (sl' b) σ A F' H' → Rp.rp G.C F' H' v (val b) → Q v H') → te σ H Q
theorem RE.g {G : Gx} {sl : List Sl} {te : TE} {X : Type} [Rp X] {m : PT X} (h : RE G sl te m) : REG G sl te (fun _ => sl) (fun x => x) m := h
/-- a new thing of one's own -/
def RO (G : Gx) (sl : List Sl) (te : TE) {X : Type} [Ow X] (m : PT X) : Prop := ∀ (σ : St) (A : Nat → List Addr) (F : Rg) (H : Hp) (Qp : X → Prop) (Q : VK), Env G sl σ A F H → m Qp →
  (∀ x v F' H' as, Qp x → Gk A F H F' H' → Env G sl σ A F' H' → Ow.ow G.C F' H' as v x → (∀ a ∈ as, ¬ F' a ∧ H a = none) → Q v H') → te σ H Q
/-- a list that is looked at -/
def LsAt (C : CA) (F : Rg) (H : Hp) (a : Addr) {X : Type} [Rp X] (xs : List X) : Prop := ∃ vs, H a = some (.lst vs) ∧ RpL C F H vs xs
def RV (G : Gx) (sl : List Sl) (te : TE) {X : Type} [Rp X] (m : PT (List X)) : Prop := ∀ (σ : St) (A : Nat → List Addr) (F : Rg) (H : Hp) (Qp : List X → Prop) (Q : VK), Env G sl σ A F H → m Qp →
  (∀ xs a F' H', Qp xs → Gk A F H F' H' → Env G sl σ A F' H' → (∀ F2 H2, Ge F' H' F2 H2 → Env G sl σ A F2 H2 → LsAt G.C F2 H2 a xs) → Q (.ref a) H') → te σ H Q
/-- a test -/
def RC (G : Gx) (sl : List Sl) (tt : TT) (m : PT Bool) : Prop := ∀ (σ : St) (A : Nat → List Addr) (F : Rg) (H : Hp) (Qp : Bool → Prop) (Q : Bool → Hp → Prop), Env G sl σ A F H → m Qp →
  (∀ x F' H', Qp x → Gk A F H F' H' → Env G sl σ A F' H' → Q x H') → tt σ H Q
section
variable {G : Gx} {sl : List Sl} {X Y Z : Type} [Rp X] [Rp Y] [Rp Z]
theorem re_var {i : Nat} {x : X} (h : sl[i]? = some (.dat x)) : RE G sl (tVar i) (pR x) := fun σ A F H Qp Q E m k => by
  obtain ⟨v, h1, h2⟩ := E.dat h
  exact ⟨v, h1, k x v F H m Gk.refl E h2⟩
theorem re_int {i : Int} : RE G sl (tC (.int i)) (pR i) := fun σ A F H Qp Q E m k => k i _ F H m Gk.refl E rfl
theorem re_bl {b : Bool} : RE G sl (tC (.bl b)) (pR b) := fun σ A F H Qp Q E m k => k b _ F H m Gk.refl E rfl
theorem re_str {z : Str} (h : PySem.PyData.strOk z = true := by decide +kernel) : RE G sl (tC (.str z)) (pR z) := fun σ A F H Qp Q E m k => k z _ F H m Gk.refl E ⟨rfl, h⟩
theorem re_non : RE G sl (tC .non) (pR ()) := fun σ A F H Qp Q E m k => k () _ F H m Gk.refl E rfl
theorem re_none : RE G sl (tC .non) (pR (none : Option X)) := fun σ A F H Qp Q E m k => k none _ F H m Gk.refl E rfl
theorem re_some {te : TE} {m : PT X} (h : RE G sl te m) : RE G sl te (fun Q => m fun x => Q (some x)) := fun σ A F H Qp Q E hm k =>
  h σ A F H (fun x => Qp (some x)) Q E hm fun x v F' H' q g E' r => k (some x) v F' H' q g E' r
/-- an operator by its values -/
def OP (C : CA) (r : R2) (f : X → Y → PT Z) : Prop := ∀ (F : Rg) (H : Hp) (v w : V) (x : X) (y : Y) (Qp : Z → Prop) (Q : VK), Rp.rp C F H v x → Rp.rp C F H w y → f x y Qp → (∀ z u F' H', Qp z → New F H F' H' → Rp.rp C F' H' u z → Q u H') → r v w H Q
def OP1 (C : CA) (r : V → Hp → VK → Prop) (f : X → PT Z) : Prop := ∀ (F : Rg) (H : Hp) (v : V) (x : X) (Qp : Z → Prop) (Q : VK), Rp.rp C F H v x → f x Qp → (∀ z u F' H', Qp z → New F H F' H' → Rp.rp C F' H' u z → Q u H') → r v H Q
def OC1 (C : CA) (r : List V → Hp → VK → Prop) (f : X → PT Z) : Prop := ∀ (F : Rg) (H : Hp) (v : V) (x : X) (Qp : Z → Prop) (Q : VK), Rp.rp C F H v x → f x Qp → (∀ z u F' H', Qp z → New F H F' H' → Rp.rp C F' H' u z → Q u H') → r [v] H Q
def OC2 (C : CA) (r : List V → Hp → VK → Prop) (f : X → Y → PT Z) : Prop := ∀ (F : Rg) (H : Hp) (v w : V) (x : X) (y : Y) (Qp : Z → Prop) (Q : VK), Rp.rp C F H v x → Rp.rp C F H w y → f x y Qp → (∀ z u F' H', Qp z → New F H F' H' → Rp.rp C F' H' u z → Q u H') → r [v, w] H Q
theorem re_op {r : R2} {f : X → Y → PT Z} {ta tb : TE} {m : PT X} {n : PT Y} (o : OP G.C r f) (ha : RE G sl ta m) (hb : RE G sl tb n) : RE G sl (tOp r ta tb) (fun Q => m fun a => n fun b => f a b Q) := fun σ A F H Qp Q E hm k =>
  ha σ A F H _ _ E hm fun x v F1 H1 q1 g1 E1 r1 => hb σ A F1 H1 _ _ E1 q1 fun y w F2 H2 q2 g2 E2 r2 => o F2 H2 v w x y _ _ (Rp.mono g2.ge r1) r2 q2 fun z u F3 H3 q3 n3 r3 => k z u F3 H3 q3 ((g1.trans g2).trans n3.gk) (E2.newk n3) r3
theorem re_un {r : V → Hp → VK → Prop} {f : X → PT Z} {ta : TE} {m : PT X} (o : OP1 G.C r f) (ha : RE G sl ta m) : RE G sl (tUn r ta) (fun Q => m fun a => f a Q) := fun σ A F H Qp Q E hm k =>
  ha σ A F H _ _ E hm fun x v F1 H1 q1 g1 E1 r1 => o F1 H1 v x _ _ r1 q1 fun z u F3 H3 q3 n3 r3 => k z u F3 H3 q3 (g1.trans n3.gk) (E1.newk n3) r3
theorem re_cb1 {r : List V → Hp → VK → Prop} {f : X → PT Z} {ta : TE} {m : PT X} (o : OC1 G.C r f) (ha : RE G sl ta m) : RE G sl (tCB r (tCons ta tNil)) (fun Q => m fun a => f a Q) := fun σ A F H Qp Q E hm k =>
  ha σ A F H _ _ E hm fun x v F1 H1 q1 g1 E1 r1 => o F1 H1 v x _ _ r1 q1 fun z u F3 H3 q3 n3 r3 => k z u F3 H3 q3 (g1.trans n3.gk) (E1.newk n3) r3
theorem re_cb2 {r : List V → Hp → VK → Prop} {f : X → Y → PT Z} {ta tb : TE} {m : PT X} {n : PT Y} (o : OC2 G.C r f) (ha : RE G sl ta m) (hb : RE G sl tb n) : RE G sl (tCB r (tCons ta (tCons tb tNil))) (fun Q => m fun a => n fun b => f a b Q) := fun σ A F H Qp Q E hm k =>
  ha σ A F H _ _ E hm fun x v F1 H1 q1 g1 E1 r1 => hb σ A F1 H1 _ _ E1 q1 fun y w F2 H2 q2 g2 E2 r2 => o F2 H2 v w x y _ _ (Rp.mono g2.ge r1) r2 q2 fun z u F3 H3 q3 n3 r3 => k z u F3 H3 q3 ((g1.trans g2).trans n3.gk) (E2.newk n3) r3
/-! numbers -/
variable {C : CA}
theorem opI0 {g : Int → Int → Z} {gv : Int → Int → V} (hg : ∀ F H i j, Rp.rp C F H (gv i j) (g i j)) : OP C (rI0 gv) (fun (i j : Int) => pR (g i j)) := fun F H v w x y Qp Q h1 h2 hq k =>
  ⟨x, y, h1, h2, k _ _ F H hq New.refl (hg F H x y)⟩
theorem opIc {D : Int → Int → Prop} {g : Int → Int → Z} {gv : Int → Int → V} (hg : ∀ F H i j, Rp.rp C F H (gv i j) (g i j)) : OP C (rI D gv) (fun (i j : Int) Q => D i j ∧ Q (g i j)) := fun F H v w x y Qp Q h1 h2 hq k =>
  ⟨x, y, h1, h2, hq.1, k _ _ F H hq.2 New.refl (hg F H x y)⟩
theorem o_add : OP C oAdd (fun (i j : Int) => pR (i + j)) := opI0 fun _ _ _ _ => rfl
theorem o_sub : OP C oSub (fun (i j : Int) => pR (i - j)) := opI0 fun _ _ _ _ => rfl
theorem o_and : OP C oAnd (fun (i j : Int) => pR (Builtin.bitAnd i j)) := opI0 fun _ _ _ _ => rfl
theorem o_lt : OP C oLt (fun (i j : Int) => pR (decide (i < j))) := opI0 fun _ _ _ _ => rfl
theorem o_le : OP C oLe (fun (i j : Int) => pR (decide (i ≤ j))) := opI0 fun _ _ _ _ => rfl
theorem o_gt : OP C oGt (fun (i j : Int) => pR (decide (j < i))) := opI0 fun _ _ _ _ => rfl
theorem o_ge : OP C oGe (fun (i j : Int) => pR (decide (j ≤ i))) := opI0 fun _ _ _ _ => rfl
theorem o_mul : OP C oMul (fun (i j : Int) Q => IntMulOk i j ∧ Q (i * j)) := opIc fun _ _ _ _ => rfl
theorem o_div : OP C oDiv (fun (i j : Int) Q => CDivW i j ∧ Q (i / j)) := opIc fun _ _ _ _ => rfl
theorem o_mod : OP C oMod (fun (i j : Int) Q => 0 < j ∧ Q (i % j)) := opIc (D := fun _ j => 0 < j) fun _ _ _ _ => rfl
theorem o_pow : OP C oPow (fun (i j : Int) Q => CPow i j ∧ Q (i ^ j.toNat)) := opIc fun _ _ _ _ => rfl
theorem o_shl : OP C oShl (fun (i j : Int) Q => CPow i j ∧ Q (i * 2 ^ j.toNat)) := opIc fun _ _ _ _ => rfl
theorem o_neg : OP1 C uNeg (fun (i : Int) => pR (-i)) := fun F H v x Qp Q h1 hq k => ⟨x, h1, k _ _ F H hq New.refl rfl⟩
theorem o_eqI : OP C rEq (fun (i j : Int) => pR (decide (i = j))) := fun F H v w x y Qp Q h1 h2 hq k => by
  subst h1 h2
  exact ⟨rfl, k _ _ F H hq New.refl (by show V.bl _ = V.bl _; congr 1; simp)⟩
theorem o_neI : OP C rNe (fun (i j : Int) => pR (!decide (i = j))) := fun F H v w x y Qp Q h1 h2 hq k => by
  subst h1 h2
  exact ⟨rfl, k _ _ F H hq New.refl (by show V.bl _ = V.bl _; congr 1; simp)⟩
theorem o_eqS : OP C rEq (fun (i j : Str) => pR (decide (i = j))) := fun F H v w x y Qp Q h1 h2 hq k => by
  obtain ⟨rfl, _⟩ := h1
  obtain ⟨rfl, _⟩ := h2
  exact ⟨rfl, k _ _ F H hq New.refl (by show V.bl _ = V.bl _; congr 1; simp)⟩
theorem o_neS : OP C rNe (fun (i j : Str) => pR (!decide (i = j))) := fun F H v w x y Qp Q h1 h2 hq k => by
  obtain ⟨rfl, _⟩ := h1
  obtain ⟨rfl, _⟩ := h2
  exact ⟨rfl, k _ _ F H hq New.refl (by show V.bl _ = V.bl _; congr 1; simp)⟩
theorem o_eqB : OP C rEq (fun (i j : Bool) => pR (decide (i = j))) := fun F H v w x y Qp Q h1 h2 hq k => by
  subst h1 h2
  exact ⟨rfl, k _ _ F H hq New.refl (by show V.bl _ = V.bl _; congr 1; simp)⟩
theorem o_neB : OP C rNe (fun (i j : Bool) => pR (!decide (i = j))) := fun F H v w x y Qp Q h1 h2 hq k => by
  subst h1 h2
  exact ⟨rfl, k _ _ F H hq New.refl (by show V.bl _ = V.bl _; congr 1; simp)⟩
theorem c_abs : OC1 C cAbs (fun (i : Int) => pR ((i.natAbs : Nat) : Int)) := fun F H v x Qp Q h1 hq k => by
  subst h1
  exact i_abs (k _ _ F H hq New.refl rfl)
theorem c_int : OC1 C cInt1 (fun (i : Int) => pR i) := fun F H v x Qp Q h1 hq k => by
  subst h1
  exact i_int1 (k _ _ F H hq New.refl rfl)
theorem c_max2 : OC2 C cMax2 (fun (i j : Int) => pR (max i j)) := fun F H v w x y Qp Q h1 h2 hq k => by
  subst h1 h2
  exact i_max2 (k _ _ F H hq New.refl rfl)
theorem c_min2 : OC2 C cMin2 (fun (i j : Int) => pR (min i j)) := fun F H v w x y Qp Q h1 h2 hq k => by
  subst h1 h2
  exact i_min2 (k _ _ F H hq New.refl rfl)
theorem c_gcd : OC2 C rGcd (fun (i j : Int) => pR ((Nat.gcd i.natAbs j.natAbs : Nat) : Int)) := fun F H v w x y Qp Q h1 h2 hq k => by
  subst h1 h2
  exact i_gcd (k _ _ F H hq New.refl rfl)
theorem c_lcm : OC2 C rLcm (fun (i j : Int) Q => (0 < i ∧ 0 < j ∧ i.natAbs.log2 < 13000 ∧ j.natAbs.log2 < 13000) ∧ Q ((Nat.lcm i.natAbs j.natAbs : Nat) : Int)) := fun F H v w x y Qp Q h1 h2 hq k => by
  subst h1 h2
  exact i_lcm hq.1.1 hq.1.2.1 hq.1.2.2.1 hq.1.2.2.2 (k _ _ F H hq.2 New.refl rfl)
/-! truth and branches -/
theorem re_and {ta tb : TE} {m n : PT Bool} (ha : RE G sl ta m) (hb : RE G sl tb n) : RE G sl (tAndV ta tb) (fun Q => m fun a => if a = true then n Q else Q false) := fun σ A F H Qp Q E hm k =>
  ha σ A F H _ _ E hm fun x v F1 H1 q1 g1 E1 r1 => ⟨x, r1, by
    cases x with
    | true => rw [if_pos rfl] at q1 ⊢; exact hb σ A F1 H1 _ _ E1 q1 fun y w F2 H2 q2 g2 E2 r2 => k y w F2 H2 q2 (g1.trans g2) E2 r2
    | false => rw [if_neg Bool.false_ne_true] at q1 ⊢; exact k false _ F1 H1 q1 g1 E1 rfl⟩
theorem re_or {ta tb : TE} {m n : PT Bool} (ha : RE G sl ta m) (hb : RE G sl tb n) : RE G sl (tOrV ta tb) (fun Q => m fun a => if a = true then Q true else n Q) := fun σ A F H Qp Q E hm k =>
  ha σ A F H _ _ E hm fun x v F1 H1 q1 g1 E1 r1 => ⟨x, r1, by
    cases x with
    | false => rw [if_neg Bool.false_ne_true] at q1 ⊢; exact hb σ A F1 H1 _ _ E1 q1 fun y w F2 H2 q2 g2 E2 r2 => k y w F2 H2 q2 (g1.trans g2) E2 r2
    | true => rw [if_pos rfl] at q1 ⊢; exact k true _ F1 H1 q1 g1 E1 rfl⟩
theorem re_not {ta : TE} {m : PT Bool} (ha : RE G sl ta m) : RE G sl (tNotV ta) (fun Q => m fun a => Q (!a)) := fun σ A F H Qp Q E hm k =>
  ha σ A F H _ _ E hm fun x v F1 H1 q1 g1 E1 r1 => ⟨x, r1, k _ _ F1 H1 q1 g1 E1 rfl⟩
theorem re_if {t : TT} {ta tb : TE} {c : PT Bool} {m n : PT X} (hc : RC G sl t c) (ha : RE G sl ta m) (hb : RE G sl tb n) : RE G sl (tIf t ta tb) (fun Q => c fun b => if b = true then m Q else n Q) := fun σ A F H Qp Q E hm k =>
  hc σ A F H _ _ E hm fun x F1 H1 q1 g1 E1 => by
    cases x with
    | true => rw [if_pos rfl] at q1 ⊢; exact ha σ A F1 H1 _ _ E1 q1 fun y w F2 H2 q2 g2 E2 r2 => k y w F2 H2 q2 (g1.trans g2) E2 r2
    | false => rw [if_neg Bool.false_ne_true] at q1 ⊢; exact hb σ A F1 H1 _ _ E1 q1 fun y w F2 H2 q2 g2 E2 r2 => k y w F2 H2 q2 (g1.trans g2) E2 r2
theorem rc_test {ta : TE} {m : PT Bool} (ha : RE G sl ta m) : RC G sl (tTest ta) m := fun σ A F H Qp Q E hm k =>
  ha σ A F H _ _ E hm fun x v F1 H1 q1 g1 E1 r1 => ⟨x, r1, k x F1 H1 q1 g1 E1⟩
theorem rc_b {ta : TE} {m : PT Bool} (ha : RE G sl ta m) : RC G sl (tB ta) m := fun σ A F H Qp Q E hm k =>
  ha σ A F H _ _ E hm fun x v F1 H1 q1 g1 E1 r1 => ⟨x, r1, k x F1 H1 q1 g1 E1⟩
theorem rc_and {t u : TT} {m n : PT Bool} (ha : RC G sl t m) (hb : RC G sl u n) : RC G sl (tAnd t u) (fun Q => m fun a => if a = true then n Q else Q false) := fun σ A F H Qp Q E hm k =>
  ha σ A F H _ _ E hm fun x F1 H1 q1 g1 E1 => by
    cases x with
    | true => rw [if_pos rfl] at q1 ⊢; exact hb σ A F1 H1 _ _ E1 q1 fun y F2 H2 q2 g2 E2 => k y F2 H2 q2 (g1.trans g2) E2
    | false => rw [if_neg Bool.false_ne_true] at q1 ⊢; exact k false F1 H1 q1 g1 E1
theorem rc_or {t u : TT} {m n : PT Bool} (ha : RC G sl t m) (hb : RC G sl u n) : RC G sl (tOr t u) (fun Q => m fun a => if a = true then Q true else n Q) := fun σ A F H Qp Q E hm k =>
  ha σ A F H _ _ E hm fun x F1 H1 q1 g1 E1 => by
    cases x with
    | false => rw [if_neg Bool.false_ne_true] at q1 ⊢; exact hb σ A F1 H1 _ _ E1 q1 fun y F2 H2 q2 g2 E2 => k y F2 H2 q2 (g1.trans g2) E2
    | true => rw [if_pos rfl] at q1 ⊢; exact k true F1 H1 q1 g1 E1
theorem rc_not {t : TT} {m : PT Bool} (ha : RC G sl t m) : RC G sl (tNot t) (fun Q => m fun a => Q (!a)) := fun σ A F H Qp Q E hm k =>
  ha σ A F H _ _ E hm fun x F1 H1 q1 g1 E1 => k _ F1 H1 q1 g1 E1
/-- a < b < c -/
theorem re_chain {r r' : R2} {f : X → Y → PT Bool} {g : Y → Z → PT Bool} {ta tb tc : TE} {m : PT X} {n : PT Y} {l : PT Z} (o : OP G.C r f) (o' : OP G.C r' g) (ha : RE G sl ta m) (hb : RE G sl tb n) (hc : RE G sl tc l) :
    RE G sl (tChain r r' ta tb tc) (fun Q => m fun a => n fun b => f a b fun c => if c = true then l fun d => g b d Q else Q false) := fun σ A F H Qp Q E hm k =>
  ha σ A F H _ _ E hm fun x v F1 H1 q1 g1 E1 r1 => hb σ A F1 H1 _ _ E1 q1 fun y w F2 H2 q2 g2 E2 r2 => o F2 H2 v w x y _ _ (Rp.mono g2.ge r1) r2 q2 fun z u F3 H3 q3 n3 r3 => ⟨z, r3, by
    have E3 := E2.newk n3
    have g3 := (g1.trans g2).trans n3.gk
    cases z with
    | true =>
      rw [if_pos rfl] at q3 ⊢
      exact hc σ A F3 H3 _ _ E3 q3 fun d t F4 H4 q4 g4 E4 r4 => o' F4 H4 w t y d _ _ (Rp.mono g4.ge (Rp.mono n3.ge r2)) r4 q4 fun z u F5 H5 q5 n5 r5 => k z u F5 H5 q5 ((g3.trans g4).trans n5.gk) (E4.newk n5) r5
    | false => rw [if_neg Bool.false_ne_true] at q3 ⊢; exact k false _ F3 H3 q3 g3 E3 rfl⟩
end
end QV

namespace QV
open PySem L2 QW
/-- sizes -/
abbrev Sz (n : Nat) : Prop := n ≤ 1000000
theorem Sz.lt {n : Nat} (h : Sz n) : n < sizeLine := by rw [PySem.sizeLine_eq]; exact Nat.lt_of_le_of_lt h (by decide)
theorem Sz.le {n : Nat} (h : Sz n) : n ≤ sizeLine := Nat.le_of_lt h.lt
section
variable {G : Gx} {sl : List Sl} {X Y Z : Type} [Rp X] [Rp Y] [Rp Z] {K : PySem.W.Frag} {C : CA}
/-! ### lists of one's own, put down -/
theorem Env.freeze {σ : St} {A : Nat → List Addr} {F : Rg} {H : Hp} {a : Addr} (E : Env G sl σ A F H) (h : H a ≠ none) (f : G.H0 a = none) (n : ∀ i, a ∉ A i) : Env G sl σ A (fun b => F b ∨ b = a) H ∧ Ge F H (fun b => F b ∨ b = a) H := by
  have g : Ge F H (fun b => F b ∨ b = a) H := fun b o f e => ⟨.inl f, e⟩
  refine ⟨⟨E.len, fun i s hs => ?_, E.out, E.dj, fun i b hb => ⟨fun hf => ?_, (E.fr i b hb).2⟩, ⟨fun b f => .inl (E.ok.sub b f), fun b hf => ?_, E.ok.keep, E.ok.live, fun b hf => ?_⟩, E.pn⟩, g⟩
  · obtain ⟨o, h1, h2⟩ := E.sls i s hs
    exact ⟨o, h1, h2.mono g fun _ _ _ e => e⟩
  · rcases hf with hf | rfl
    · exact (E.fr i b hb).1 hf
    · exact n i hb
  · rcases hf with hf | rfl
    · exact E.ok.new b hf
    · exact .inr (.inl f)
  · rcases hf with hf | rfl
    · exact E.ok.al b hf
    · exact h
theorem re_of_ro {te : TE} {m : PT (List X)} (h : RO G sl te m) : RE G sl te m := fun σ A F H Qp Q E hm k =>
  h σ A F H Qp Q E hm fun x v F1 H1 as q g E1 r fr => by
    obtain ⟨a, vs, rfl, rfl, ha, hl⟩ := r
    obtain ⟨h0, h1⟩ := fr a (by simp)
    obtain ⟨E2, g2⟩ := E1.freeze (by rw [ha]; exact fun z => by cases z) (E.ok.live _ h1) (fun i hi => E.live hi h1)
    refine k x _ _ H1 q ⟨g.ge.trans g2, g.kp, g.fr, fun b f => ?_⟩ E2 ⟨a, vs, rfl, .inr rfl, ha, RpL.mono g2 hl⟩
    rcases f with f | rfl
    · exact g.new b f
    · exact .inr h1
theorem rv_dat {te : TE} {m : PT (List X)} (h : RE G sl te m) : RV G sl te m := fun σ A F H Qp Q E hm k =>
  h σ A F H Qp Q E hm fun x v F1 H1 q g E1 r => by
    obtain ⟨a, vs, rfl, f, ha, hl⟩ := r
    exact k x a F1 H1 q g E1 fun F2 H2 g2 _ => ⟨vs, (g2 _ _ f ha).2, RpL.mono g2 hl⟩
theorem rv_own {i : Nat} {x : List X} (h : sl[i]? = some (.own x)) : RV G sl (tVar i) (pR x) := fun σ A F H Qp Q E m k => by
  obtain ⟨v, h1, h2⟩ := E.own h
  obtain ⟨a, vs, rfl, as, ha, hl⟩ := h2
  refine ⟨_, h1, k x a F H m Gk.refl E fun F2 H2 g2 E2 => ?_⟩
  obtain ⟨v, h1', h2⟩ := E2.own h
  obtain ⟨a', vs', rfl, as', ha', hl'⟩ := h2
  rw [h1] at h1'
  cases h1'
  exact ⟨vs', ha', hl'⟩
/-- a new list -/
theorem ro_new {σ : St} {A : Nat → List Addr} {F : Rg} {H H0 : Hp} {Q : VK} {xs : List X} {vs : List V} (E : Env G sl σ A F H) (fr : ∀ b, H b = none → H0 b = none) (hl : RpL G.C F H vs xs)
    (k : ∀ v F' H' as, Gk A F H F' H' → Env G sl σ A F' H' → Ow.ow G.C F' H' as v xs → (∀ a ∈ as, ¬ F' a ∧ H0 a = none) → Q v H') : ∀ p, H p = none → Q (.ref p) (upd H p (.lst vs)) := fun p hp => by
  have n : New F H F (upd H p (.lst vs)) := New.same' (same_upd hp)
  refine k (.ref p) F _ [p] n.gk (E.newk n) ⟨p, vs, rfl, rfl, upd_same, RpL.mono n.ge hl⟩ fun a ha => ?_
  have e : a = p := by simpa using ha
  subst e
  exact ⟨fun f => E.ok.al _ f hp, fr _ hp⟩
/-- a new tuple -/
theorem tu_new {F : Rg} {H : Hp} {Q : VK} {xs : List X} {vs : List V} (hl : RpL C F H vs xs) (k : ∀ v F' H', New F H F' H' → Rp.rp C F' H' v (Tu.mk xs) → Q v H') : ∀ p, H p = none → Q (.ref p) (upd H p (.tup vs)) := fun p hp =>
  k _ _ _ (New.upd hp) ⟨p, vs, rfl, .inr rfl, upd_same, RpL.mono (New.upd hp).ge hl⟩
/-! ### displays -/
theorem re_pair {ta tb : TE} {m : PT X} {n : PT Y} (ha : RE G sl ta m) (hb : RE G sl tb n) : RE G sl (tTup (tCons ta (tCons tb tNil))) (fun Q => m fun a => n fun b => Q (a, b)) := fun σ A F H Qp Q E hm k =>
  ha σ A F H _ _ E hm fun x v F1 H1 q1 g1 E1 r1 => hb σ A F1 H1 _ _ E1 q1 fun y w F2 H2 q2 g2 E2 r2 => ⟨by show 2 ≤ sizeLine; decide, fun p hp =>
    k _ _ _ _ q2 ((g1.trans g2).trans (New.upd hp).gk) (E2.newk (New.upd hp)) ⟨p, v, w, rfl, .inr rfl, upd_same, Rp.mono (g2.ge.trans (New.upd hp).ge) r1, Rp.mono (New.upd hp).ge r2⟩⟩
theorem re_triple {ta tb tc : TE} {m : PT X} {n : PT Y} {l : PT Z} (ha : RE G sl ta m) (hb : RE G sl tb n) (hc : RE G sl tc l) : RE G sl (tTup (tCons ta (tCons tb (tCons tc tNil)))) (fun Q => m fun a => n fun b => l fun c => Q (T3.mk a b c)) := fun σ A F H Qp Q E hm k =>
  ha σ A F H _ _ E hm fun x v F1 H1 q1 g1 E1 r1 => hb σ A F1 H1 _ _ E1 q1 fun y w F2 H2 q2 g2 E2 r2 => hc σ A F2 H2 _ _ E2 q2 fun z u F3 H3 q3 g3 E3 r3 => ⟨by show 3 ≤ sizeLine; decide, fun p hp =>
    k _ _ _ _ q3 (((g1.trans g2).trans g3).trans (New.upd hp).gk) (E3.newk (New.upd hp)) ⟨p, v, w, u, rfl, .inr rfl, upd_same, Rp.mono ((g2.trans g3).ge.trans (New.upd hp).ge) r1, Rp.mono (g3.ge.trans (New.upd hp).ge) r2, Rp.mono (New.upd hp).ge r3⟩⟩
/-- items of one kind -/
def RAL (G : Gx) (sl : List Sl) (t : TA) (X : Type) [Rp X] (n : Nat) (m : PT (List X)) : Prop := ∀ (σ : St) (A : Nat → List Addr) (F : Rg) (H : Hp) (Qp : List X → Prop) (Q : List V → Hp → Prop), Env G sl σ A F H → m Qp →
  (∀ xs vs F' H', Qp xs → xs.length = n → Gk A F H F' H' → Env G sl σ A F' H' → RpL G.C F' H' vs xs → Q vs H') → t σ H Q
theorem ral_nil : RAL G sl tNil X 0 (fun Q => Q []) := fun σ A F H Qp Q E hm k => k [] [] F H hm rfl Gk.refl E trivial
theorem ral_cons {te : TE} {t : TA} {n : Nat} {m : PT X} {l : PT (List X)} (h : RE G sl te m) (h' : RAL G sl t X n l) : RAL G sl (tCons te t) X (n + 1) (fun Q => m fun a => l fun as => Q (a :: as)) := fun σ A F H Qp Q E hm k =>
  h σ A F H _ _ E hm fun x v F1 H1 q1 g1 E1 r1 => h' σ A F1 H1 _ _ E1 q1 fun xs vs F2 H2 q2 e2 g2 E2 r2 => k (x :: xs) (v :: vs) F2 H2 q2 (by simp [e2]) (g1.trans g2) E2 ⟨Rp.mono g2.ge r1, r2⟩
theorem re_tu {t : TA} {n : Nat} {m : PT (List X)} (h : RAL G sl t X n m) (hn : n ≤ 1000 := by decide) : RE G sl (tTup t) (fun Q => m fun xs => Q (Tu.mk xs)) := fun σ A F H Qp Q E hm k =>
  h σ A F H _ _ E hm fun xs vs F1 H1 q1 e1 g1 E1 r1 => ⟨Nat.le_of_lt (small1000 (by rw [r1.length, e1]; exact hn)), tu_new r1 fun v F2 H2 n2 r2 => k _ _ _ _ q1 (g1.trans n2.gk) (E1.newk n2) r2⟩
theorem ro_lst {t : TA} {n : Nat} {m : PT (List X)} (h : RAL G sl t X n m) (hn : n ≤ 1000 := by decide) : RO G sl (tLst t) m := fun σ A F H Qp Q E hm k =>
  h σ A F H _ _ E hm fun xs vs F1 H1 q1 e1 g1 E1 r1 => ⟨Nat.le_of_lt (small1000 (by rw [r1.length, e1]; exact hn)), ro_new E1 g1.fr r1 fun v F2 H2 as g2 E2 o2 f2 => k _ _ _ _ _ q1 (g1.trans g2) E2 o2 f2⟩
/-! ### parts of pairs -/
theorem atI_0 {α : Type} {x : α} {xs : List α} : atI (x :: xs) 0 = some x := by
  unfold atI ixN
  rw [if_pos (by omega), if_pos (by simp only [List.length_cons]; omega)]; rfl
theorem atI_1 {α : Type} {x y : α} {xs : List α} : atI (x :: y :: xs) 1 = some y := by
  unfold atI ixN
  rw [if_pos (by omega), if_pos (by simp only [List.length_cons]; omega)]; rfl
theorem atI_2 {α : Type} {x y z : α} {xs : List α} : atI (x :: y :: z :: xs) 2 = some z := by
  unfold atI ixN
  rw [if_pos (by omega), if_pos (by simp only [List.length_cons]; omega)]; rfl
theorem re_fst {te : TE} {m : PT (X × Y)} (h : RE G sl te m) : RE G sl (tOp (rIxT K) te (tC (.int 0))) (fun Q => m fun p => Q p.1) := fun σ A F H Qp Q E hm k =>
  h σ A F H _ _ E hm fun x v F1 H1 q1 g1 E1 r1 => by
    obtain ⟨a, u, w, rfl, f, ha, h1, h2⟩ := r1
    exact i_ixT ha atI_0 (k _ _ _ _ q1 g1 E1 h1)
theorem re_snd {te : TE} {m : PT (X × Y)} (h : RE G sl te m) : RE G sl (tOp (rIxT K) te (tC (.int 1))) (fun Q => m fun p => Q p.2) := fun σ A F H Qp Q E hm k =>
  h σ A F H _ _ E hm fun x v F1 H1 q1 g1 E1 r1 => by
    obtain ⟨a, u, w, rfl, f, ha, h1, h2⟩ := r1
    exact i_ixT ha atI_1 (k _ _ _ _ q1 g1 E1 h2)
theorem re_t3a {te : TE} {m : PT (T3 X Y Z)} (h : RE G sl te m) : RE G sl (tOp (rIxT K) te (tC (.int 0))) (fun Q => m fun p => Q p.a) := fun σ A F H Qp Q E hm k =>
  h σ A F H _ _ E hm fun x v F1 H1 q1 g1 E1 r1 => by
    obtain ⟨a, u, w, z, rfl, f, ha, h1, h2, h3⟩ := r1
    exact i_ixT ha atI_0 (k _ _ _ _ q1 g1 E1 h1)
theorem re_t3b {te : TE} {m : PT (T3 X Y Z)} (h : RE G sl te m) : RE G sl (tOp (rIxT K) te (tC (.int 1))) (fun Q => m fun p => Q p.b) := fun σ A F H Qp Q E hm k =>
  h σ A F H _ _ E hm fun x v F1 H1 q1 g1 E1 r1 => by
    obtain ⟨a, u, w, z, rfl, f, ha, h1, h2, h3⟩ := r1
    exact i_ixT ha atI_1 (k _ _ _ _ q1 g1 E1 h2)
theorem re_t3c {te : TE} {m : PT (T3 X Y Z)} (h : RE G sl te m) : RE G sl (tOp (rIxT K) te (tC (.int 2))) (fun Q => m fun p => Q p.c) := fun σ A F H Qp Q E hm k =>
  h σ A F H _ _ E hm fun x v F1 H1 q1 g1 E1 r1 => by
    obtain ⟨a, u, w, z, rfl, f, ha, h1, h2, h3⟩ := r1
    exact i_ixT ha atI_2 (k _ _ _ _ q1 g1 E1 h3)
/-! ### the item at a place -/
theorem atI_rel {F : Rg} {H : Hp} {vs : List V} {xs : List X} {i : Int} {x : X} (h : RpL C F H vs xs) (e : atI xs i = some x) : ∃ v, atI vs i = some v ∧ Rp.rp C F H v x := by
  unfold atI at e ⊢
  rw [h.length]
  cases q : ixN xs.length i with
  | none => rw [q] at e; cases e
  | some j =>
    rw [q] at e
    obtain ⟨v, h1, h2⟩ := h.get' (i := j) (by simpa using e)
    exact ⟨v, by simpa using h1, h2⟩
/-- l[i] -/
abbrev pAt (xs : List X) (i : Int) : PT X := fun Q => ∃ x, atI xs i = some x ∧ Q x
theorem re_ixT {te ti : TE} {m : PT (Tu X)} {n : PT Int} (h : RE G sl te m) (hi : RE G sl ti n) : RE G sl (tOp (rIxT K) te ti) (fun Q => m fun p => n fun i => pAt p.l i Q) := fun σ A F H Qp Q E hm k =>
  h σ A F H _ _ E hm fun x v F1 H1 q1 g1 E1 r1 => hi σ A F1 H1 _ _ E1 q1 fun i w F2 H2 q2 g2 E2 r2 => by
    obtain ⟨a, vs, rfl, f, ha, hl⟩ := Rp.mono g2.ge r1
    obtain ⟨y, e, q⟩ := q2
    obtain ⟨u, h1, h2⟩ := atI_rel hl e
    subst r2
    exact i_ixT ha h1 (k y u F2 H2 q (g1.trans g2) E2 h2)
theorem re_ixL {te ti : TE} {m : PT (List X)} {n : PT Int} (h : RV G sl te m) (hi : RE G sl ti n) : RE G sl (tOp (rIxL K) te ti) (fun Q => m fun p => n fun i => pAt p i Q) := fun σ A F H Qp Q E hm k =>
  h σ A F H _ _ E hm fun x a F1 H1 q1 g1 E1 r1 => hi σ A F1 H1 _ _ E1 q1 fun i w F2 H2 q2 g2 E2 r2 => by
    obtain ⟨vs, ha, hl⟩ := r1 F2 H2 g2.ge E2
    obtain ⟨y, e, q⟩ := q2
    obtain ⟨u, h1, h2⟩ := atI_rel hl e
    subst r2
    exact i_ixL ha h1 (k y u F2 H2 q (g1.trans g2) E2 h2)
/-! ### lengths -/
theorem re_lenT {te : TE} {m : PT (Tu X)} (h : RE G sl te m) : RE G sl (tCB (cLen K) (tCons te tNil)) (fun Q => m fun p => Q ((p.l.length : Nat) : Int)) := fun σ A F H Qp Q E hm k =>
  h σ A F H _ _ E hm fun x v F1 H1 q1 g1 E1 r1 => by
    obtain ⟨a, vs, rfl, f, ha, hl⟩ := r1
    exact i_lenT ha (k _ _ _ _ q1 g1 E1 (by rw [hl.length]; rfl))
theorem re_lenL {te : TE} {m : PT (List X)} (h : RV G sl te m) : RE G sl (tCB (cLen K) (tCons te tNil)) (fun Q => m fun p => Q ((p.length : Nat) : Int)) := fun σ A F H Qp Q E hm k =>
  h σ A F H _ _ E hm fun x a F1 H1 q1 g1 E1 r1 => by
    obtain ⟨vs, ha, hl⟩ := r1 F1 H1 Ge.refl E1
    exact i_len ha (k _ _ _ _ q1 g1 E1 (by rw [hl.length]; rfl))
theorem re_len2 {te : TE} {m : PT (X × Y)} (h : RE G sl te m) : RE G sl (tCB (cLen K) (tCons te tNil)) (fun Q => m fun _ => Q (2 : Int)) := fun σ A F H Qp Q E hm k =>
  h σ A F H _ _ E hm fun x v F1 H1 q1 g1 E1 r1 => by
    obtain ⟨a, u, w, rfl, f, ha, _⟩ := r1
    exact i_lenT ha (k _ _ _ _ q1 g1 E1 rfl)
theorem re_len3 {te : TE} {m : PT (T3 X Y Z)} (h : RE G sl te m) : RE G sl (tCB (cLen K) (tCons te tNil)) (fun Q => m fun _ => Q (3 : Int)) := fun σ A F H Qp Q E hm k =>
  h σ A F H _ _ E hm fun x v F1 H1 q1 g1 E1 r1 => by
    obtain ⟨a, u, w, z, rfl, f, ha, _⟩ := r1
    exact i_lenT ha (k _ _ _ _ q1 g1 E1 rfl)
/-! ### tuple(l), list(l), list(t), l[::-1] -/
theorem re_tupL {te : TE} {m : PT (List X)} (h : RV G sl te m) : RE G sl (tCB (cTup K) (tCons te tNil)) (fun Q => m fun p => Q (Tu.mk p)) := fun σ A F H Qp Q E hm k =>
  h σ A F H _ _ E hm fun x a F1 H1 q1 g1 E1 r1 => by
    obtain ⟨vs, ha, hl⟩ := r1 F1 H1 Ge.refl E1
    exact ⟨a, vs, rfl, .inl ⟨SqL.of ha, tu_new hl fun v F2 H2 n2 r2 => k _ _ _ _ q1 (g1.trans n2.gk) (E1.newk n2) r2⟩⟩
theorem re_tupT {te : TE} {m : PT (Tu X)} (h : RE G sl te m) : RE G sl (tCB (cTup K) (tCons te tNil)) m := fun σ A F H Qp Q E hm k =>
  h σ A F H _ _ E hm fun x v F1 H1 q1 g1 E1 r1 => by
    obtain ⟨a, vs, rfl, f, ha, hl⟩ := id r1
    exact ⟨a, vs, rfl, .inr ⟨SqT.of ha, k _ _ _ _ q1 g1 E1 r1⟩⟩
theorem ro_listL {te : TE} {m : PT (List X)} (h : RV G sl te m) : RO G sl (tCB (cList K) (tCons te tNil)) m := fun σ A F H Qp Q E hm k =>
  h σ A F H _ _ E hm fun x a F1 H1 q1 g1 E1 r1 => by
    obtain ⟨vs, ha, hl⟩ := r1 F1 H1 Ge.refl E1
    exact ⟨a, vs, rfl, .inl (SqL.of ha), ro_new E1 g1.fr hl fun v F2 H2 as g2 E2 o2 f2 => k _ _ _ _ _ q1 (g1.trans g2) E2 o2 f2⟩
theorem ro_listT {te : TE} {m : PT (Tu X)} (h : RE G sl te m) : RO G sl (tCB (cList K) (tCons te tNil)) (fun Q => m fun p => Q p.l) := fun σ A F H Qp Q E hm k =>
  h σ A F H _ _ E hm fun x v F1 H1 q1 g1 E1 r1 => by
    obtain ⟨a, vs, rfl, f, ha, hl⟩ := r1
    exact ⟨a, vs, rfl, .inr (SqT.of ha), ro_new E1 g1.fr hl fun v F2 H2 as g2 E2 o2 f2 => k _ _ _ _ _ q1 (g1.trans g2) E2 o2 f2⟩
theorem ro_revL {te : TE} {m : PT (List X)} (h : RV G sl te m) : RO G sl (tRevL K te) (fun Q => m fun p => Q p.reverse) := fun σ A F H Qp Q E hm k =>
  h σ A F H _ _ E hm fun x a F1 H1 q1 g1 E1 r1 => by
    obtain ⟨vs, ha, hl⟩ := r1 F1 H1 Ge.refl E1
    exact ⟨a, vs, rfl, SqL.of ha, ro_new E1 g1.fr hl.rev fun v F2 H2 as g2 E2 o2 f2 => k _ _ _ _ _ q1 (g1.trans g2) E2 o2 f2⟩
/-! ### put together -/
theorem ro_cat {ta tb : TE} {m n : PT (List X)} (ha : RV G sl ta m) (hb : RV G sl tb n) : RO G sl (tOp rCat ta tb) (fun Q => m fun a => n fun b => Sz (a.length + b.length) ∧ Q (a ++ b)) := fun σ A F H Qp Q E hm k =>
  ha σ A F H _ _ E hm fun x a F1 H1 q1 g1 E1 r1 => hb σ A F1 H1 _ _ E1 q1 fun y b F2 H2 q2 g2 E2 r2 => by
    obtain ⟨vs, ha, hl⟩ := r1 F2 H2 g2.ge E2
    obtain ⟨ws, hb, hk⟩ := r2 F2 H2 Ge.refl E2
    exact ⟨a, b, vs, ws, rfl, rfl, ha, hb, by rw [hl.length, hk.length]; exact q2.1.le, ro_new E2 (g1.trans g2).fr (hl.append hk) fun v F3 H3 as g3 E3 o3 f3 => k _ _ _ _ _ q2.2 ((g1.trans g2).trans g3) E3 o3 f3⟩
theorem o_catT : OP C (rCatA K) (fun (a b : Tu X) Q => Sz (a.l.length + b.l.length) ∧ Q (Tu.mk (a.l ++ b.l))) := fun F H v w x y Qp Q h1 h2 hq k => by
  obtain ⟨a, vs, rfl, f, ha, hl⟩ := id h1
  obtain ⟨b, ws, rfl, f', hb, hk⟩ := id h2
  refine ⟨a, b, vs, ws, rfl, rfl, SqT.of ha, SqT.of hb, by rw [hl.length, hk.length]; exact hq.1.le, fun e => ?_, fun _ e => ?_, fun _ _ => tu_new (hl.append hk) fun v F2 H2 n2 r2 => k _ _ _ _ hq.2 n2 r2⟩
  · subst e
    have : x.l = [] := List.eq_nil_of_length_eq_zero hl.length.symm
    refine k _ _ F H hq.2 New.refl ?_
    rw [this]; exact h2
  · subst e
    have : y.l = [] := List.eq_nil_of_length_eq_zero hk.length.symm
    refine k _ _ F H hq.2 New.refl ?_
    rw [this, List.append_nil]; exact h1
theorem flatten_rep {α : Type} (n : Nat) (xs : List α) : (List.replicate n xs).flatten.length = n * xs.length := by simp
theorem ro_rep {ta tb : TE} {m : PT (List X)} {n : PT Int} (ha : RV G sl ta m) (hb : RE G sl tb n) : RO G sl (tOp rRep ta tb) (fun Q => m fun a => n fun i => (Sz (a.length * i.toNat) ∧ i < 2 ^ 62 ∧ -(2 ^ 62) < i) ∧ Q (List.replicate i.toNat a).flatten) := fun σ A F H Qp Q E hm k =>
  ha σ A F H _ _ E hm fun x a F1 H1 q1 g1 E1 r1 => hb σ A F1 H1 _ _ E1 q1 fun y w F2 H2 q2 g2 E2 r2 => by
    obtain ⟨vs, ha, hl⟩ := r1 F2 H2 g2.ge E2
    subst r2
    exact ⟨a, y, vs, rfl, rfl, ha, by omega, by omega, by rw [hl.length]; exact q2.1.1.le, ro_new E2 (g1.trans g2).fr (hl.rep _) fun v F3 H3 as g3 E3 o3 f3 => k _ _ _ _ _ q2.2 ((g1.trans g2).trans g3) E3 o3 f3⟩
theorem o_repT : OP C (rRepA K) (fun (a : Tu X) (i : Int) Q => ((i = 1) ∨ (a.l ≠ [] ∧ 2 ≤ i ∧ i ≤ 1000 ∧ a.l.length ≤ 1000)) ∧ Q (Tu.mk (List.replicate i.toNat a.l).flatten)) := fun F H v w x y Qp Q h1 h2 hq k => by
  obtain ⟨a, vs, rfl, f, ha, hl⟩ := id h1
  subst h2
  rcases hq.1 with rfl | ⟨hn, h2, h3, h4⟩
  · refine .inl ⟨a, vs, rfl, rfl, SqT.of ha, k _ _ F H hq.2 New.refl ?_⟩
    have : (List.replicate (Int.toNat 1) x.l).flatten = x.l := by simp
    rw [this]; exact h1
  · refine .inr ⟨a, y, vs, rfl, rfl, SqT.of ha, fun e => ?_, h2, h3, by rw [hl.length]; exact h4, tu_new (hl.rep _) fun v F2 H2 n2 r2 => k _ _ _ _ hq.2 n2 r2⟩
    subst e
    exact hn (List.eq_nil_of_length_eq_zero hl.length.symm)
/-! ### sums and the like -/
theorem re_sum {te : TE} {m : PT (List Int)} (h : RV G sl te m) : RE G sl (tCB (rSum K) (tCons te tNil)) (fun Q => m fun p => Q p.sum) := fun σ A F H Qp Q E hm k =>
  h σ A F H _ _ E hm fun x a F1 H1 q1 g1 E1 r1 => by
    obtain ⟨vs, ha, hl⟩ := r1 F1 H1 Ge.refl E1
    rw [hl.ints] at ha
    exact i_rsum ha (k _ _ _ _ q1 g1 E1 rfl)
theorem re_all {te : TE} {m : PT (List Bool)} (h : RV G sl te m) : RE G sl (tCB (rAll K) (tCons te tNil)) (fun Q => m fun p => Q (p.all id)) := fun σ A F H Qp Q E hm k =>
  h σ A F H _ _ E hm fun x a F1 H1 q1 g1 E1 r1 => by
    obtain ⟨vs, ha, hl⟩ := r1 F1 H1 Ge.refl E1
    rw [hl.bls] at ha
    exact i_rall ha (k _ _ _ _ q1 g1 E1 rfl)
theorem re_any {te : TE} {m : PT (List Bool)} (h : RV G sl te m) : RE G sl (tCB (rAny K) (tCons te tNil)) (fun Q => m fun p => Q (p.any id)) := fun σ A F H Qp Q E hm k =>
  h σ A F H _ _ E hm fun x a F1 H1 q1 g1 E1 r1 => by
    obtain ⟨vs, ha, hl⟩ := r1 F1 H1 Ge.refl E1
    rw [hl.bls] at ha
    exact ⟨a, x, rfl, SqL.of ha, k _ _ _ _ q1 g1 E1 rfl⟩
theorem re_anyI {te : TE} {m : PT (List Int)} (h : RV G sl te m) : RE G sl (tCB (rAnyI K) (tCons te tNil)) (fun Q => m fun p => Q (p.any (· != 0))) := fun σ A F H Qp Q E hm k =>
  h σ A F H _ _ E hm fun x a F1 H1 q1 g1 E1 r1 => by
    obtain ⟨vs, ha, hl⟩ := r1 F1 H1 Ge.refl E1
    rw [hl.ints] at ha
    exact i_ranyI ha (k _ _ _ _ q1 g1 E1 rfl)
theorem re_max {te : TE} {m : PT (List Int)} (h : RV G sl te m) : RE G sl (tCB (rMax K) (tCons te tNil)) (fun Q => m fun p => 0 < p.length ∧ ∀ z, z ∈ p → (∀ y ∈ p, y ≤ z) → Q z) := fun σ A F H Qp Q E hm k =>
  h σ A F H _ _ E hm fun x a F1 H1 q1 g1 E1 r1 => by
    obtain ⟨vs, ha, hl⟩ := r1 F1 H1 Ge.refl E1
    rw [hl.ints] at ha
    exact ⟨a, x, rfl, SqL.of ha, q1.1, fun z h1 h2 => k _ _ _ _ (q1.2 z h1 h2) g1 E1 rfl⟩
theorem re_min {te : TE} {m : PT (List Int)} (h : RV G sl te m) : RE G sl (tCB (rMin K) (tCons te tNil)) (fun Q => m fun p => 0 < p.length ∧ ∀ z, z ∈ p → (∀ y ∈ p, z ≤ y) → Q z) := fun σ A F H Qp Q E hm k =>
  h σ A F H _ _ E hm fun x a F1 H1 q1 g1 E1 r1 => by
    obtain ⟨vs, ha, hl⟩ := r1 F1 H1 Ge.refl E1
    rw [hl.ints] at ha
    exact ⟨a, x, rfl, SqL.of ha, q1.1, fun z h1 h2 => k _ _ _ _ (q1.2 z h1 h2) g1 E1 rfl⟩
/-! ### range as a list, as a tuple -/
theorem rgV_eq (a b : Int) : rgV a b = ((List.range (b - a).toNat).map fun (i : Nat) => a + (i : Int)).map V.int := by
  unfold rgV
  rw [List.map_map]; rfl
end
end QV

namespace QV
open PySem L2 QW
/-! ### data that can be compared -/
class Dt (X : Type) extends Rp X where
  enc : X → PyData
  deq : DecidableEq X
  dep : Nat
  dp : ∀ {K : PySem.W.Frag} {C : CA} {F : Rg} {H : Hp} {v : V} {x : X}, Rp.rp C F H v x → Dp K H v (enc x)
  sh : ∀ {C : CA} {F : Rg} {H : Hp} {v : V} {x : X}, Rp.rp C F H v x → (enc x).canLay0 = true ∧ (enc x).depth ≤ dep
  eqv : ∀ x y : X, PyData.eqv (enc x) (enc y) = @decide (x = y) (deq x y)
instance {X : Type} [Dt X] : DecidableEq X := Dt.deq
theorem dec_and {a b c : Prop} [Decidable a] [Decidable b] [Decidable c] (h : c ↔ a ∧ b) : (decide a && decide b) = decide c := by
  by_cases x : a <;> by_cases y : b <;> simp [h, x, y]
instance : Dt Int where
  enc := .int
  deq := inferInstance
  dep := 0
  dp := fun h => by rw [show _ = V.int _ from h]; exact .int _
  sh := fun _ => ⟨rfl, Nat.le_refl _⟩
  eqv := fun x y => by simp only [PyData.eqv]; rw [Bool.eq_iff_iff]; simp
instance : Dt Bool where
  enc := .bool
  deq := inferInstance
  dep := 0
  dp := fun h => by rw [show _ = V.bl _ from h]; exact .bl _
  sh := fun _ => ⟨rfl, Nat.le_refl _⟩
  eqv := fun x y => by cases x <;> cases y <;> rfl
instance : Dt Str where
  enc := .str
  deq := inferInstance
  dep := 0
  dp := fun h => by rw [show _ = V.str _ from h.1]; exact .str _
  sh := fun h => ⟨by simpa only [PyData.canLay0] using h.2, Nat.le_refl _⟩
  eqv := fun x y => by simp only [PyData.eqv]; rw [Bool.eq_iff_iff]; simp
section
variable {X Y Z : Type} [Dt X] [Dt Y] [Dt Z]
theorem RpL.dp {K : PySem.W.Frag} {C : CA} {F : Rg} {H : Hp} : ∀ {vs : List V} {xs : List X}, RpL C F H vs xs → DpAll K H vs (xs.map Dt.enc)
  | [], [], _ => .nil
  | v :: vs, x :: xs, h => .cons (Dt.dp h.1) (RpL.dp h.2)
  | [], _ :: _, h => h.elim
  | _ :: _, [], h => h.elim
theorem enc_all {C : CA} {F : Rg} {H : Hp} : ∀ {vs : List V} {xs : List X}, RpL C F H vs xs → PyData.canLayAll0 (xs.map Dt.enc) = true ∧ PyData.depthAll (xs.map Dt.enc) ≤ Dt.dep X
  | [], [], _ => ⟨rfl, Nat.zero_le _⟩
  | v :: vs, x :: xs, h => by
    obtain ⟨h1, h2⟩ := enc_all h.2
    obtain ⟨h3, h4⟩ := Dt.sh h.1
    simp only [List.map_cons, PyData.canLayAll0, PyData.depthAll, h1, h3]
    exact ⟨rfl, by omega⟩
  | [], _ :: _, h => h.elim
  | _ :: _, [], h => h.elim
theorem eqv_all : ∀ xs ys : List X, PyData.eqvAll (xs.map Dt.enc) (ys.map Dt.enc) = decide (xs = ys)
  | [], [] => by simp [PyData.eqvAll]
  | x :: xs, y :: ys => by
    simp only [List.map_cons, PyData.eqvAll, eqv_all xs ys]
    rw [Dt.eqv]
    exact dec_and (by simp)
  | [], _ :: _ => by simp [PyData.eqvAll]
  | _ :: _, [] => by simp [PyData.eqvAll]
instance : Dt (X × Y) where
  enc := fun p => .tuple [Dt.enc p.1, Dt.enc p.2]
  deq := inferInstance
  dep := max (Dt.dep X) (Dt.dep Y) + 1
  dp := fun {K C F H v x} h => by
    obtain ⟨a, u, w, rfl, f, ha, h1, h2⟩ := h
    exact .tup (SqT.of ha) (.cons (Dt.dp h1) (.cons (Dt.dp h2) .nil))
  sh := fun {C F H v p} h => by
    obtain ⟨a, u, w, rfl, f, ha, h1, h2⟩ := h
    have h1 := Dt.sh h1
    have h2 := Dt.sh h2
    simp only [PyData.canLay0, PyData.canLayAll0, PyData.depth, PyData.depthAll, h1.1, h2.1]
    exact ⟨rfl, by omega⟩
  eqv := fun p q => by
    simp only [PyData.eqv, PyData.eqvAll, Bool.and_true]
    rw [Dt.eqv, Dt.eqv]
    exact dec_and (by rw [Prod.ext_iff])
instance : Dt (T3 X Y Z) where
  enc := fun p => .tuple [Dt.enc p.a, Dt.enc p.b, Dt.enc p.c]
  deq := inferInstance
  dep := max (Dt.dep X) (max (Dt.dep Y) (Dt.dep Z)) + 1
  dp := fun {K C F H v x} h => by
    obtain ⟨a, u, w, z, rfl, f, ha, h1, h2, h3⟩ := h
    exact .tup (SqT.of ha) (.cons (Dt.dp h1) (.cons (Dt.dp h2) (.cons (Dt.dp h3) .nil)))
  sh := fun {C F H v p} h => by
    obtain ⟨a, u, w, z, rfl, f, ha, h1, h2, h3⟩ := h
    have h1 := Dt.sh h1
    have h2 := Dt.sh h2
    have h3 := Dt.sh h3
    simp only [PyData.canLay0, PyData.canLayAll0, PyData.depth, PyData.depthAll, h1.1, h2.1, h3.1]
    exact ⟨rfl, by omega⟩
  eqv := fun p q => by
    obtain ⟨a, b, c⟩ := p
    obtain ⟨a', b', c'⟩ := q
    simp only [PyData.eqv, PyData.eqvAll, Bool.and_true]
    rw [Dt.eqv, Dt.eqv, Dt.eqv, dec_and (c := b = b' ∧ c = c') Iff.rfl]
    exact dec_and (by simp)
instance : Dt (Tu X) where
  enc := fun p => .tuple (p.l.map Dt.enc)
  deq := inferInstance
  dep := Dt.dep X + 1
  dp := fun {K C F H v x} h => by
    obtain ⟨a, vs, rfl, f, ha, hl⟩ := h
    exact .tup (SqT.of ha) hl.dp
  sh := fun {C F H v p} h => by
    obtain ⟨a, vs, rfl, f, ha, hl⟩ := h
    have := enc_all hl
    simp only [PyData.canLay0, PyData.depth, this.1]
    exact ⟨trivial, by omega⟩
  eqv := fun p q => by
    obtain ⟨p⟩ := p
    obtain ⟨q⟩ := q
    simp only [PyData.eqv, eqv_all, Tu.mk.injEq]
instance : Dt (List X) where
  enc := fun p => .list (p.map Dt.enc)
  deq := inferInstance
  dep := Dt.dep X + 1
  dp := fun {K C F H v x} h => by
    obtain ⟨a, vs, rfl, f, ha, hl⟩ := h
    exact .lst (SqL.of ha) hl.dp
  sh := fun {C F H v p} h => by
    obtain ⟨a, vs, rfl, f, ha, hl⟩ := h
    have := enc_all hl
    simp only [PyData.canLay0, PyData.depth, this.1]
    exact ⟨trivial, by omega⟩
  eqv := fun p q => by simp only [PyData.eqv, eqv_all]
/-- X is never None -/
class NN (X : Type) [Dt X] : Prop where
  nn : ∀ x : X, PyData.eqv (Dt.enc x) .none = false ∧ PyData.eqv .none (Dt.enc x) = false
instance : NN Int := ⟨fun x => by show PyData.eqv (.int x) .none = false ∧ PyData.eqv .none (.int x) = false; simp [PyData.eqv]⟩
instance : NN Bool := ⟨fun x => by show PyData.eqv (.bool x) .none = false ∧ PyData.eqv .none (.bool x) = false; simp [PyData.eqv]⟩
instance : NN Str := ⟨fun x => by show PyData.eqv (.str x) .none = false ∧ PyData.eqv .none (.str x) = false; simp [PyData.eqv]⟩
instance : NN (X × Y) := ⟨fun x => by show PyData.eqv (.tuple _) .none = false ∧ PyData.eqv .none (.tuple _) = false; simp [PyData.eqv]⟩
instance : NN (T3 X Y Z) := ⟨fun x => by show PyData.eqv (.tuple _) .none = false ∧ PyData.eqv .none (.tuple _) = false; simp [PyData.eqv]⟩
instance : NN (Tu X) := ⟨fun x => by show PyData.eqv (.tuple _) .none = false ∧ PyData.eqv .none (.tuple _) = false; simp [PyData.eqv]⟩
instance : NN (List X) := ⟨fun x => by show PyData.eqv (.list _) .none = false ∧ PyData.eqv .none (.list _) = false; simp [PyData.eqv]⟩
instance [NN X] : Dt (Option X) where
  enc := fun o => match o with | none => .none | some x => Dt.enc x
  deq := inferInstance
  dep := Dt.dep X
  dp := fun {K C F H v x} h => by
    cases x with
    | none => rw [show v = V.non from h]; exact .non
    | some x => exact Dt.dp (x := x) h
  sh := fun {C F H v o} h => by
    cases o with
    | none => exact ⟨rfl, Nat.zero_le _⟩
    | some x => exact Dt.sh (x := x) h
  eqv := fun o p => by
    cases o with
    | none => cases p with
      | none => rfl
      | some y => simp [(NN.nn y).2]
    | some x => cases p with
      | none => simp [(NN.nn x).1]
      | some y => simp only [Dt.eqv, Option.some.injEq]
end
theorem sh_of {X : Type} [Dt X] (h : Dt.dep X < 64) {C : CA} {F : Rg} {H : Hp} {v : V} {x : X} (r : Rp.rp C F H v x) : SeqAt.shaped (Dt.enc x) = true := by
  unfold SeqAt.shaped
  rw [Bool.and_eq_true]
  exact ⟨(Dt.sh r).1, decide_eq_true (by have := (Dt.sh r).2; omega)⟩
section
variable {G : Gx} {sl : List Sl} {K : PySem.W.Frag} {C : CA}
theorem o_eqD {X : Type} [Dt X] (h : Dt.dep X < 64 := by decide) : OP C (rEqD K) (fun (x y : X) => pR (decide (x = y))) := fun F H v w x y Qp Q h1 h2 hq k =>
  ⟨_, _, Dt.dp h1, Dt.dp h2, sh_of h h1, sh_of h h2, k _ _ F H hq New.refl (by show V.bl _ = V.bl _; rw [Dt.eqv])⟩
theorem o_neD {X : Type} [Dt X] (h : Dt.dep X < 64 := by decide) : OP C (rNeD K) (fun (x y : X) => pR (!decide (x = y))) := fun F H v w x y Qp Q h1 h2 hq k =>
  ⟨_, _, Dt.dp h1, Dt.dp h2, sh_of h h1, sh_of h h2, k _ _ F H hq New.refl (by show V.bl _ = V.bl _; rw [Dt.eqv])⟩
theorem LsAt.dp {X : Type} [Dt X] {F : Rg} {H : Hp} {a : Addr} {xs : List X} (h : LsAt C F H a xs) : Dp K H (.ref a) (Dt.enc xs) := by
  obtain ⟨vs, ha, hl⟩ := h
  exact .lst (SqL.of ha) hl.dp
theorem LsAt.sh {X : Type} [Dt X] {F : Rg} {H : Hp} {a : Addr} {xs : List X} (h : LsAt C F H a xs) (hd : Dt.dep (List X) < 64) : SeqAt.shaped (Dt.enc xs) = true := by
  obtain ⟨vs, ha, hl⟩ := h
  have := enc_all hl
  have hd' : Dt.dep X + 1 < 64 := hd
  unfold SeqAt.shaped
  rw [Bool.and_eq_true]
  refine ⟨?_, decide_eq_true ?_⟩
  · show (PyData.list (xs.map Dt.enc)).canLay0 = true
    simp only [PyData.canLay0, this.1]
  · show (PyData.list (xs.map Dt.enc)).depth ≤ 64
    simp only [PyData.depth]
    omega
theorem re_eqL {X : Type} [Dt X] {ta tb : TE} {m n : PT (List X)} (ha : RV G sl ta m) (hb : RV G sl tb n) (h : Dt.dep (List X) < 64 := by decide) : RE G sl (tOp (rEqD K) ta tb) (fun Q => m fun a => n fun b => Q (decide (a = b))) := fun σ A F H Qp Q E hm k =>
  ha σ A F H _ _ E hm fun x a F1 H1 q1 g1 E1 r1 => hb σ A F1 H1 _ _ E1 q1 fun y b F2 H2 q2 g2 E2 r2 =>
    ⟨_, _, (r1 F2 H2 g2.ge E2).dp, (r2 F2 H2 Ge.refl E2).dp, (r1 F2 H2 g2.ge E2).sh h, (r2 F2 H2 Ge.refl E2).sh h, k _ _ _ _ q2 (g1.trans g2) E2 (by show V.bl _ = V.bl _; rw [Dt.eqv])⟩
theorem re_neL {X : Type} [Dt X] {ta tb : TE} {m n : PT (List X)} (ha : RV G sl ta m) (hb : RV G sl tb n) (h : Dt.dep (List X) < 64 := by decide) : RE G sl (tOp (rNeD K) ta tb) (fun Q => m fun a => n fun b => Q (!decide (a = b))) := fun σ A F H Qp Q E hm k =>
  ha σ A F H _ _ E hm fun x a F1 H1 q1 g1 E1 r1 => hb σ A F1 H1 _ _ E1 q1 fun y b F2 H2 q2 g2 E2 r2 =>
    ⟨_, _, (r1 F2 H2 g2.ge E2).dp, (r2 F2 H2 Ge.refl E2).dp, (r1 F2 H2 g2.ge E2).sh h, (r2 F2 H2 Ge.refl E2).sh h, k _ _ _ _ q2 (g1.trans g2) E2 (by show V.bl _ = V.bl _; rw [Dt.eqv])⟩
/-! ### is None -/
class NoN (X : Type) [Rp X] : Prop where
  nn : ∀ {C : CA} {F : Rg} {H : Hp} {x : X}, ¬ Rp.rp C F H .non x
instance : NoN Int := ⟨fun h => by cases h⟩
instance : NoN Bool := ⟨fun h => by cases h⟩
instance : NoN Str := ⟨fun h => by cases h.1⟩
instance {X Y : Type} [Rp X] [Rp Y] : NoN (X × Y) := ⟨fun ⟨_, _, _, e, _⟩ => by cases e⟩
instance {X Y Z : Type} [Rp X] [Rp Y] [Rp Z] : NoN (T3 X Y Z) := ⟨fun ⟨_, _, _, _, e, _⟩ => by cases e⟩
instance {X : Type} [Rp X] : NoN (Tu X) := ⟨fun ⟨_, _, e, _⟩ => by cases e⟩
instance {X : Type} [Rp X] : NoN (List X) := ⟨fun ⟨_, _, e, _⟩ => by cases e⟩
theorem rp_non {X : Type} [Rp X] [NoN X] {F : Rg} {H : Hp} {v : V} {x : Option X} (h : Rp.rp C F H v x) : decide (v = .non) = x.isNone := by
  cases x with
  | none => rw [show v = V.non from h]; rfl
  | some x =>
    rw [decide_eq_false]; rfl
    rintro rfl
    exact NoN.nn (x := x) h
theorem re_isN {X : Type} [Rp X] [NoN X] {ta tb : TE} {m : PT (Option X)} (ha : RE G sl ta m) : RE G sl (tOp oIsN ta (tC .non)) (fun Q => m fun a => Q a.isNone) := fun σ A F H Qp Q E hm k =>
  ha σ A F H _ _ E hm fun x v F1 H1 q1 g1 E1 r1 => ⟨rfl, k _ _ _ _ q1 g1 E1 (by rw [rp_non r1]; rfl)⟩
theorem re_notN {X : Type} [Rp X] [NoN X] {ta tb : TE} {m : PT (Option X)} (ha : RE G sl ta m) : RE G sl (tOp oNotN ta (tC .non)) (fun Q => m fun a => Q (!a.isNone)) := fun σ A F H Qp Q E hm k =>
  ha σ A F H _ _ E hm fun x v F1 H1 q1 g1 E1 r1 => ⟨rfl, k _ _ _ _ q1 g1 E1 (by rw [rp_non r1]; rfl)⟩
/-- what is known not to be None -/
theorem re_got {X : Type} [Rp X] {te : TE} {m : PT (Option X)} (h : RE G sl te m) : RE G sl te (fun Q => m fun o => ∃ x, o = some x ∧ Q x) := fun σ A F H Qp Q E hm k =>
  h σ A F H _ Q E hm fun x v F1 H1 ⟨y, e, q⟩ g1 E1 r1 => by subst e; exact k y v F1 H1 q g1 E1 r1
/-! ### what is walked -/
structure WOk (C : CA) (P : Rg → Hp → Prop) (J : It) {X : Type} [Rp X] (xs : List X) : Prop where
  ex : ∃ (Gd : Hp → Prop) (Y : Nat → Hp → V → Hp → Prop), Walk J xs.length Gd Y ∧ (∀ F H, P F H → Gd H) ∧ ∀ i H x H' F, P F H → Y i H x H' → ∃ F' y, xs[i]? = some y ∧ New F H F' H' ∧ Rp.rp C F' H' x y
/-- walked within an expression; walked by a for -/
def RWo (G : Gx) (sl : List Sl) (wi : TI) {X : Type} [Rp X] (m : PT (List X)) : Prop := ∀ (σ : St) (A : Nat → List Addr) (F : Rg) (H : Hp) (Qp : List X → Prop) (R : It → Hp → Prop), Env G sl σ A F H → m Qp →
  (∀ xs F1 H1 J, Qp xs → Gk A F H F1 H1 → Env G sl σ A F1 H1 → WOk G.C (fun F2 H2 => Ge F1 H1 F2 H2 ∧ Env G sl σ A F2 H2) J xs → R J H1) → wi σ H R
def RW (G : Gx) (sl : List Sl) (wi : TI) {X : Type} [Rp X] (m : PT (List X)) : Prop := ∀ (σ : St) (A : Nat → List Addr) (F : Rg) (H : Hp) (Qp : List X → Prop) (R : It → Hp → Prop), Env G sl σ A F H → m Qp →
  (∀ xs F1 H1 J, Qp xs → Gk A F H F1 H1 → Env G sl σ A F1 H1 → WOk G.C (fun F2 H2 => Ge F1 H1 F2 H2) J xs → R J H1) → wi σ H R
theorem RW.o {wi : TI} {X : Type} [Rp X] {m : PT (List X)} (h : RW G sl wi m) : RWo G sl wi m := fun σ A F H Qp R E hm k =>
  h σ A F H Qp R E hm fun xs F1 H1 J q g E1 w => k xs F1 H1 J q g E1 (by
    obtain ⟨Gd, Y, h1, h2, h3⟩ := w.ex
    exact ⟨Gd, Y, h1, fun F H p => h2 F H p.1, fun i H x H' F p => h3 i H x H' F p.1⟩)
section
variable {X Y : Type} [Rp X] [Rp Y]
theorem rwo_list {tl : TE} {m : PT (List X)} (h : RV G sl tl m) : RWo G sl (iList K tl) m := fun σ A F H Qp R E hm k =>
  h σ A F H _ _ E hm fun xs a F1 H1 q1 g1 E1 r1 => by
    obtain ⟨vs, ha, hl⟩ := r1 F1 H1 Ge.refl E1
    refine ⟨a, rfl, ⟨vs, SqL.of ha⟩, k xs F1 H1 _ q1 g1 E1 ⟨fun H => ∃ ws, ws.length = xs.length ∧ H a = some (.lst ws), fun i H x H' => H' = H ∧ ∀ ws, H a = some (.lst ws) → ws[i]? = some x, ⟨?_, ?_, ?_⟩, fun F H p => ?_, fun i H x H' F p y => ?_⟩⟩
    · rintro i H hi ⟨ws, e, h⟩
      exact ⟨ws, ws[i]'(by omega), SqL.of h, List.getElem?_eq_getElem _⟩
    · rintro H ⟨ws, e, h⟩
      exact ⟨ws, SqL.of h, by omega⟩
    · rintro i H x H' hi ⟨ws, e, h⟩ y
      exact ⟨y.1, fun ws' h' => y.2 ws' (SqL.of h')⟩
    · obtain ⟨ws, hb, hk⟩ := r1 F H p.1 p.2
      exact ⟨ws, hk.length, hb⟩
    · obtain ⟨ws, hb, hk⟩ := r1 F H p.1 p.2
      obtain ⟨rfl, y⟩ := y
      obtain ⟨z, h1, h2⟩ := hk.get (y ws hb)
      exact ⟨F, z, h1, New.refl, h2⟩
theorem rw_list {tl : TE} {m : PT (List X)} (h : RE G sl tl m) : RW G sl (iList K tl) m := fun σ A F H Qp R E hm k =>
  h σ A F H _ _ E hm fun xs v F1 H1 q1 g1 E1 r1 => by
    obtain ⟨a, vs, rfl, f, ha, hl⟩ := r1
    refine ⟨a, rfl, ⟨vs, SqL.of ha⟩, k xs F1 H1 _ q1 g1 E1 ⟨fun H => H a = some (.lst vs), YAt vs, ?_, fun F H p => (p _ _ f ha).2, fun i H x H' F p y => ?_⟩⟩
    · have := walk_list (K := K) (a := a) (xs := vs)
      rw [hl.length] at this
      exact this.mono (fun H h => SqL.of h) fun i H x H' _ _ y => y
    · obtain ⟨rfl, y⟩ := y
      obtain ⟨z, h1, h2⟩ := hl.get y
      exact ⟨F, z, h1, New.refl, Rp.mono p h2⟩
theorem rw_tup {tl : TE} {m : PT (Tu X)} (h : RE G sl tl m) : RW G sl (iTup K tl) (fun Q => m fun p => Q p.l) := fun σ A F H Qp R E hm k =>
  h σ A F H _ _ E hm fun xs v F1 H1 q1 g1 E1 r1 => by
    obtain ⟨a, vs, rfl, f, ha, hl⟩ := r1
    refine ⟨a, rfl, ⟨vs, SqT.of ha⟩, k xs.l F1 H1 _ q1 g1 E1 ⟨fun H => H a = some (.tup vs), YAt vs, ?_, fun F H p => (p _ _ f ha).2, fun i H x H' F p y => ?_⟩⟩
    · have := walk_tup (K := K) (a := a) (xs := vs)
      rw [hl.length] at this
      exact this.mono (fun H h => SqT.of h) fun i H x H' _ _ y => y
    · obtain ⟨rfl, y⟩ := y
      obtain ⟨z, h1, h2⟩ := hl.get y
      exact ⟨F, z, h1, New.refl, Rp.mono p h2⟩
/-- 0, 1, .. below n; lo, lo + 1, .. below hi -/
def rngI (lo hi : Int) : List Int := (List.range (hi - lo).toNat).map fun (i : Nat) => lo + (i : Int)
theorem rngI_get {lo hi : Int} {i : Nat} (h : i < (hi - lo).toNat) : (rngI lo hi)[i]? = some (lo + (i : Int)) := by
  unfold rngI
  rw [List.getElem?_map, List.getElem?_range h]; rfl
theorem rngI_len {lo hi : Int} : (rngI lo hi).length = (hi - lo).toNat := by unfold rngI; rw [List.length_map, List.length_range]
theorem wok_range {P : Rg → Hp → Prop} {lo hi : Int} : WOk C P (Itr lo (hi - lo).toNat) (rngI lo hi) :=
  ⟨fun _ => True, fun i H x H' => i < (hi - lo).toNat ∧ YFn (fun i => .int (lo + (i : Nat))) i H x H', by
    have w := walk_range (lo := lo) (n := (hi - lo).toNat)
    rw [rngI_len]
    exact w.mono (fun _ h => h) (fun i H x H' hi _ y => ⟨hi, y⟩), fun _ _ _ => trivial, fun i H x H' F p y => by
    obtain ⟨h, rfl, rfl⟩ := y
    exact ⟨F, _, rngI_get h, New.refl, rfl⟩⟩
theorem rw_rng1 {ta : TE} {m : PT Int} (h : RE G sl ta m) : RW G sl (iRng1 (tCons ta tNil)) (fun Q => m fun n => (-(2 ^ 62) ≤ n ∧ n < 2 ^ 62) ∧ Q (rngI 0 n)) := fun σ A F H Qp R E hm k =>
  h σ A F H _ _ E hm fun x v F1 H1 q1 g1 E1 r1 => by
    subst r1
    have w := wok_range (C := G.C) (P := fun F2 H2 => Ge F1 H1 F2 H2) (lo := 0) (hi := x)
    rw [Int.sub_zero] at w
    exact ⟨x, rfl, q1.1.1, q1.1.2, k _ F1 H1 _ q1.2 g1 E1 w⟩
theorem rw_rng2 {ta tb : TE} {m n : PT Int} (h : RE G sl ta m) (h' : RE G sl tb n) : RW G sl (iRng2 (tCons ta (tCons tb tNil))) (fun Q => m fun a => n fun b => (-(2 ^ 62) ≤ a ∧ a < 2 ^ 62 ∧ -(2 ^ 62) ≤ b ∧ b < 2 ^ 62) ∧ Q (rngI a b)) := fun σ A F H Qp R E hm k =>
  h σ A F H _ _ E hm fun x v F1 H1 q1 g1 E1 r1 => h' σ A F1 H1 _ _ E1 q1 fun y w F2 H2 q2 g2 E2 r2 => by
    subst r1
    subst r2
    exact ⟨x, y, rfl, q2.1, k _ F2 H2 _ q2.2 (g1.trans g2) E2 wok_range⟩
/-- a step -/
def rngC (i c : Int) (n : Nat) : List Int := (List.range n).map fun (k : Nat) => i + (k : Int) * c
theorem rw_rng3 {ta tb tc : TE} {m n l : PT Int} (h : RE G sl ta m) (h' : RE G sl tb n) (h2 : RE G sl tc l) : RW G sl (iRng3 (tCons ta (tCons tb (tCons tc tNil)))) (fun Q => m fun a => n fun b => l fun c => ∃ k, RgC a b c k ∧ Q (rngC a c k)) := fun σ A F H Qp R E hm k =>
  h σ A F H _ _ E hm fun x v F1 H1 q1 g1 E1 r1 => h' σ A F1 H1 _ _ E1 q1 fun y w F2 H2 q2 g2 E2 r2 => h2 σ A F2 H2 _ _ E2 q2 fun z u F3 H3 q3 g3 E3 r3 => by
    subst r1
    subst r2
    subst r3
    obtain ⟨j, hj, q⟩ := q3
    refine ⟨x, y, z, j, rfl, hj, k _ F3 H3 _ q ((g1.trans g2).trans g3) E3 ⟨fun _ => True, fun i H v H' => i < j ∧ YFn (fun i => .int (x + (i : Nat) * z)) i H v H', ?_, fun _ _ _ => trivial, fun i H v H' F p y => ?_⟩⟩
    · have w := walk_rangeC (lo := x) (c := z) (n := j)
      have e : (rngC x z j).length = j := by unfold rngC; rw [List.length_map, List.length_range]
      rw [e]
      exact w.mono (fun _ h => h) (fun i H v H' hi _ y => ⟨hi, y⟩)
    · obtain ⟨h, rfl, rfl⟩ := y
      refine ⟨F, _, ?_, New.refl, rfl⟩
      unfold rngC
      rw [List.getElem?_map, List.getElem?_range h]; rfl
/-- the places told beside -/
def enumI (xs : List X) : List (Int × X) := xs.zipIdx.map fun p => ((p.2 : Int), p.1)
theorem enumI_get {xs : List X} {i : Nat} {x : X} (h : xs[i]? = some x) : (enumI xs)[i]? = some ((i : Int), x) := by
  unfold enumI
  rw [List.getElem?_map, List.getElem?_zipIdx, h]; simp
theorem enumI_len {xs : List X} : (enumI xs).length = xs.length := by unfold enumI; rw [List.length_map, List.length_zipIdx]
theorem pair_new {F : Rg} {H : Hp} {T : Addr} {u w : V} {x : X} {y : Y} (hn : H T = none) (h1 : Rp.rp C F H u x) (h2 : Rp.rp C F H w y) : New F H (fun b => F b ∨ b = T) (upd H T (.tup [u, w])) ∧ Rp.rp C (fun b => F b ∨ b = T) (upd H T (.tup [u, w])) (.ref T) (x, y) :=
  ⟨New.upd hn, T, u, w, rfl, .inr rfl, upd_same, Rp.mono (New.upd hn).ge h1, Rp.mono (New.upd hn).ge h2⟩
theorem rwo_enum {tl : TE} {m : PT (List X)} (h : RV G sl tl m) : RWo G sl (iEnum K (tCons tl tNil)) (fun Q => m fun xs => Q (enumI xs)) := fun σ A F H Qp R E hm k =>
  h σ A F H _ _ E hm fun xs a F1 H1 q1 g1 E1 r1 => by
    obtain ⟨vs, ha, hl⟩ := r1 F1 H1 Ge.refl E1
    refine ⟨a, vs, rfl, SqL.of ha, k _ F1 H1 _ q1 g1 E1 ⟨fun H => ∃ ws, ws.length = xs.length ∧ H a = some (.lst ws), fun i H v H' => ∃ T x, v = .ref T ∧ H T = none ∧ H' = upd H T (.tup [.int (i : Nat), x]) ∧ ∀ ws, H a = some (.lst ws) → ws[i]? = some x, ⟨?_, ?_, ?_⟩, fun F H p => ?_, fun i H v H' F p y => ?_⟩⟩
    · rintro i H hi ⟨ws, e, h⟩
      rw [enumI_len] at hi
      exact ⟨ws, ws[i]'(by omega), SqL.of h, List.getElem?_eq_getElem _⟩
    · rintro H ⟨ws, e, h⟩
      exact ⟨ws, SqL.of h, by rw [enumI_len]; omega⟩
    · rintro i H v H' hi ⟨ws, e, h⟩ y
      obtain ⟨T, x, h1, h2, h3, h4⟩ := y
      exact ⟨T, x, h1, h2, h3, fun ws' h' => h4 ws' (SqL.of h')⟩
    · obtain ⟨ws, hb, hk⟩ := r1 F H p.1 p.2
      exact ⟨ws, hk.length, hb⟩
    · obtain ⟨ws, hb, hk⟩ := r1 F H p.1 p.2
      obtain ⟨T, x, rfl, hT, rfl, y⟩ := y
      obtain ⟨z, h1, h2⟩ := hk.get (y ws hb)
      obtain ⟨n, r⟩ := pair_new (C := G.C) (x := (i : Int)) (u := .int (i : Nat)) hT rfl h2
      exact ⟨_, _, enumI_get h1, n, r⟩
theorem rw_enum {tl : TE} {m : PT (List X)} (h : RE G sl tl m) : RW G sl (iEnum K (tCons tl tNil)) (fun Q => m fun xs => Q (enumI xs)) := fun σ A F H Qp R E hm k =>
  h σ A F H _ _ E hm fun xs v F1 H1 q1 g1 E1 r1 => by
    obtain ⟨a, vs, rfl, f, ha, hl⟩ := r1
    refine ⟨a, vs, rfl, SqL.of ha, k _ F1 H1 _ q1 g1 E1 ⟨fun H => H a = some (.lst vs), YPair (fun i => some (.int (i : Nat))) (fun i => vs[i]?), ?_, fun F H p => (p _ _ f ha).2, fun i H x H' F p y => ?_⟩⟩
    · have := walk_enum (K := K) (a := a) (xs := vs)
      rw [hl.length] at this
      rw [enumI_len]
      exact this.mono (fun H h => SqL.of h) fun i H x H' _ _ y => y
    · obtain ⟨T, u, w, rfl, hT, rfl, e1, e2⟩ := y
      cases e1
      obtain ⟨z, h1, h2⟩ := hl.get e2
      obtain ⟨n, r⟩ := pair_new (C := G.C) (x := (i : Int)) (u := .int (i : Nat)) hT rfl (Rp.mono p h2)
      exact ⟨_, _, enumI_get h1, n, r⟩
theorem rw_enumT {tl : TE} {m : PT (Tu X)} (h : RE G sl tl m) : RW G sl (iEnumT K (tCons tl tNil)) (fun Q => m fun xs => Q (enumI xs.l)) := fun σ A F H Qp R E hm k =>
  h σ A F H _ _ E hm fun xs v F1 H1 q1 g1 E1 r1 => by
    obtain ⟨a, vs, rfl, f, ha, hl⟩ := r1
    refine ⟨a, vs, rfl, SqT.of ha, k _ F1 H1 _ q1 g1 E1 ⟨fun H => H a = some (.tup vs), YPair (fun i => some (.int (i : Nat))) (fun i => vs[i]?), ?_, fun F H p => (p _ _ f ha).2, fun i H x H' F p y => ?_⟩⟩
    · have := walk_enumT (K := K) (a := a) (xs := vs)
      rw [hl.length] at this
      rw [enumI_len]
      exact this.mono (fun H h => SqT.of h) fun i H x H' _ _ y => y
    · obtain ⟨T, u, w, rfl, hT, rfl, e1, e2⟩ := y
      cases e1
      obtain ⟨z, h1, h2⟩ := hl.get e2
      obtain ⟨n, r⟩ := pair_new (C := G.C) (x := (i : Int)) (u := .int (i : Nat)) hT rfl (Rp.mono p h2)
      exact ⟨_, _, enumI_get h1, n, r⟩
theorem rw_zip {ta tb : TE} {m : PT (List X)} {n : PT (List Y)} (h : RE G sl ta m) (h' : RE G sl tb n) : RW G sl (iZip K (tCons ta (tCons tb tNil))) (fun Q => m fun xs => n fun ys => Q (xs.zip ys)) := fun σ A F H Qp R E hm k =>
  h σ A F H _ _ E hm fun xs v F1 H1 q1 g1 E1 r1 => h' σ A F1 H1 _ _ E1 q1 fun ys w F2 H2 q2 g2 E2 r2 => by
    obtain ⟨a, vs, rfl, f, ha, hl⟩ := Rp.mono g2.ge r1
    obtain ⟨b, ws, rfl, f', hb, hk⟩ := r2
    refine ⟨a, b, vs, ws, rfl, SqL.of ha, SqL.of hb, k _ F2 H2 _ q2 (g1.trans g2) E2 ⟨fun H => H a = some (.lst vs) ∧ H b = some (.lst ws), YPair (fun i => vs[i]?) (fun i => ws[i]?), ?_, fun F H p => ⟨(p _ _ f ha).2, (p _ _ f' hb).2⟩, fun i H x H' F p y => ?_⟩⟩
    · have := walk_zip (K := K) (a := a) (b := b) (xs := vs) (ys := ws) rfl
      rw [hl.length, hk.length] at this
      rw [List.length_zip]
      exact this.mono (fun H h => ⟨SqL.of h.1, SqL.of h.2⟩) fun i H x H' _ _ y => y
    · obtain ⟨T, u, w, rfl, hT, rfl, e1, e2⟩ := y
      obtain ⟨z, h1, h2⟩ := hl.get e1
      obtain ⟨z', h1', h2'⟩ := hk.get e2
      obtain ⟨n, r⟩ := pair_new (C := G.C) hT (Rp.mono p h2) (Rp.mono p h2')
      exact ⟨_, _, by rw [List.getElem?_zip_eq_some]; exact ⟨h1, h1'⟩, n, r⟩
end
end
end QV

namespace QV
open PySem L2 QW
/-! ### targets -/
theorem wipe_set {σ : St} {i : Nat} {o : Option V} : ∀ {vs : List Nat}, i ∈ vs → wipe (σ.set i o) vs = wipe σ vs
  | v :: vs, h => by
    unfold wipe
    by_cases e : i = v
    · subst e
      by_cases hm : i ∈ vs
      · rw [wipe_set hm]
      · have : ∀ ws : List Nat, i ∉ ws → wipe (σ.set i o) ws = (wipe σ ws).set i o := by
          intro ws
          induction ws with
          | nil => intro _; rfl
          | cons w ws ih =>
            intro hw
            simp only [List.mem_cons, not_or] at hw
            unfold wipe
            rw [ih hw.2, List.set_comm _ _ hw.1]
        rw [this vs hm, List.set_set]
    · rcases List.mem_cons.mp h with h | h
      · exact absurd h e
      · rw [wipe_set h]
theorem wipe_wipe {σ : St} (ws : List Nat) : ∀ {vs : List Nat}, (∀ v ∈ vs, v ∈ ws) → wipe (wipe σ vs) ws = wipe σ ws
  | [], _ => rfl
  | v :: vs, h => by
    show wipe ((wipe σ vs).set v none) ws = _
    rw [wipe_set (h v List.mem_cons_self), wipe_wipe ws fun x hx => h x (List.mem_cons_of_mem _ hx)]
def NotOwn (sl : List Sl) (i : Nat) : Prop := ∀ s, sl[i]? = some s → s.isOwn = false
theorem notOwn_of {sl : List Sl} {i : Nat} (h : ((sl[i]?).map Sl.isOwn).getD false = false) : NotOwn sl i := fun s e => by rw [e] at h; exact h
theorem SlOk.notOwn {C : CA} {F : Rg} {H : Hp} {s : Sl} {o : Option V} {as : List Addr} (h : SlOk C F H s o as) (n : s.isOwn = false) : as = [] := by
  cases s with
  | un => exact h
  | dat x => exact h.1
  | own x => cases n
section
variable {G : Gx} {sl : List Sl} {σ : St} {A : Nat → List Addr} {F : Rg} {H : Hp}
theorem Env.notOwn (E : Env G sl σ A F H) {i : Nat} (n : NotOwn sl i) : A i = [] := by
  by_cases hi : i < sl.length
  · obtain ⟨o, _, h2⟩ := E.sls i _ (List.getElem?_eq_getElem hi)
    exact h2.notOwn (n _ (List.getElem?_eq_getElem hi))
  · exact E.out i (by omega)
theorem Env.unpin (E : Env G sl σ A F H) {i : Nat} (n : NotOwn sl i) : ∀ p, G.pin = some p → p.1 ≠ i := fun p e z => by
  obtain ⟨_, _, s, h1, h2⟩ := E.pn p e
  rw [z] at h1
  rw [n s h1] at h2; cases h2
theorem upA_id {A : Nat → List Addr} {i : Nat} (h : A i = []) : upA A i [] = A := by
  funext j
  by_cases e : j = i
  · subst e; rw [upA_same, h]
  · rw [upA_ne e]
theorem Env.put {s : Sl} {o : Option V} (E : Env G sl σ A F H) {i : Nat} (h : SlOk G.C F H s o []) (n : NotOwn sl i) : Env G (sl.set i s) (σ.set i o) A F H := by
  by_cases hi : i < sl.length
  · have := E.store h hi (fun a ha => by cases ha) (E.unpin n)
    rwa [upA_id (E.notOwn n)] at this
  · rw [List.set_eq_of_length_le (by omega), List.set_eq_of_length_le (by rw [E.len]; omega)]
    exact E
/-- and back -/
theorem Env.back {s : Sl} {o : Option V} {F' : Rg} {H' : Hp} (E : Env G sl σ A F H) {i : Nat} (n : NotOwn sl i) (g : Ge F H F' H') (E2 : Env G (sl.set i s) (σ.set i o) A F' H') : Env G sl σ A F' H' := by
  refine ⟨E.len, fun j t ht => ?_, E.out, E2.dj, E2.fr, E2.ok, E.pn⟩
  by_cases hj : i = j
  · subst hj
    obtain ⟨o', h1, h2⟩ := E.sls i t ht
    refine ⟨o', h1, h2.mono g fun a ha => ?_⟩
    rw [h2.notOwn (n t ht)] at ha; cases ha
  · obtain ⟨o', h1, h2⟩ := E2.sls j t (by rw [List.getElem?_set_ne hj]; exact ht)
    rw [List.getElem?_set_ne hj] at h1
    exact ⟨o', h1, h2⟩
end
def wipeS (sl : List Sl) : List Nat → List Sl
  | [] => sl
  | v :: vs => (wipeS sl vs).set v .un
theorem wipeS_get {sl : List Sl} {i : Nat} {s : Sl} : ∀ {vs : List Nat}, (wipeS sl vs)[i]? = some s → s = .un ∨ sl[i]? = some s
  | [], h => .inr h
  | v :: vs, h => by
    unfold wipeS at h
    by_cases e : v = i
    · subst e
      by_cases hl : v < (wipeS sl vs).length
      · rw [List.getElem?_set_self hl] at h; exact .inl (Option.some.inj h).symm
      · rw [List.getElem?_eq_none (by rw [List.length_set]; omega)] at h; cases h
    · rw [List.getElem?_set_ne e] at h
      exact wipeS_get h
theorem notOwn_wipe {sl : List Sl} {vs : List Nat} {i : Nat} (n : NotOwn sl i) : NotOwn (wipeS sl vs) i := fun s e => by
  rcases wipeS_get e with rfl | h
  · rfl
  · exact n s h
theorem Env.wiped {G : Gx} {sl : List Sl} {σ : St} {A : Nat → List Addr} {F : Rg} {H : Hp} (E : Env G sl σ A F H) : ∀ {vs : List Nat}, (∀ v ∈ vs, NotOwn sl v) → Env G (wipeS sl vs) (wipe σ vs) A F H ∧ ∀ F' H', Ge F H F' H' → Env G (wipeS sl vs) (wipe σ vs) A F' H' → Env G sl σ A F' H'
  | [], _ => ⟨E, fun _ _ _ h => h⟩
  | v :: vs, n => by
    obtain ⟨E1, b1⟩ := Env.wiped E (vs := vs) fun x hx => n x (List.mem_cons_of_mem _ hx)
    have n1 : NotOwn (wipeS sl vs) v := notOwn_wipe (n v List.mem_cons_self)
    exact ⟨E1.put rfl n1, fun F' H' g E2 => b1 F' H' g (E1.back n1 g E2)⟩
/-- what a target does -/
def RT (G : Gx) (sl : List Sl) (vs : List Nat) (g : TG) {X : Type} [Rp X] (x : X) {B : Type} (sl' : B → List Sl) (n : PT B) : Prop := ∀ (σ : St) (A : Nat → List Addr) (F : Rg) (H : Hp) (v : V) (Qp : B → Prop) (Q : St → Hp → Prop), Env G sl σ A F H → Rp.rp G.C F H v x → n Qp →
  (∀ b σ', Qp b → Env G (sl' b) σ' A F H → (∀ F' H', Ge F H F' H' → Env G (sl' b) σ' A F' H' → Env G sl σ A F' H') → wipe σ' vs = wipe σ vs → Q σ' H) → g v σ H Q
section
variable {G : Gx} {sl : List Sl} {vs : List Nat} {K : PySem.W.Frag} {X Y Z : Type} [Rp X] [Rp Y] [Rp Z]
theorem rt_name {i : Nat} {x : X} (n : NotOwn sl i) (m : i ∈ vs) : RT G sl vs (gName i) x (fun _ : Unit => sl.set i (.dat x)) (fun Q => Q ()) := fun σ A F H v Qp Q E r hq k =>
  k () _ hq (E.put (s := .dat x) ⟨rfl, v, rfl, r⟩ n) (fun F' H' g E2 => E.back n g E2) (wipe_set m)
theorem rt_pair {g1 g2 : TG} {p : X × Y} {B C : Type} {s1 : B → List Sl} {n1 : PT B} {s2 : B → C → List Sl} {n2 : B → PT C} (h1 : RT G sl vs g1 p.1 s1 n1) (h2 : ∀ b, RT G (s1 b) vs g2 p.2 (s2 b) (n2 b)) :
    RT G sl vs (gTup K 2 (gCons g1 (gCons g2 gNil))) p (fun b : B × C => s2 b.1 b.2) (fun Q => n1 fun b => n2 b fun c => Q (b, c)) := fun σ A F H v Qp Q E r hq k => by
  obtain ⟨a, u, w, rfl, f, ha, r1, r2⟩ := r
  refine ⟨a, [u, w], rfl, SqT.of ha, rfl, u, [w], rfl, ?_⟩
  refine h1 σ A F H u _ _ E r1 hq fun b σ1 q1 E1 b1 w1 => ⟨w, [], rfl, ?_⟩
  exact h2 b σ1 A F H w _ _ E1 r2 q1 fun c σ2 q2 E2 b2 w2 => ⟨rfl, k (b, c) σ2 q2 E2 (fun F' H' g E3 => b1 F' H' g (b2 F' H' g E3)) (w2.trans w1)⟩
theorem rt_t3 {g1 g2 g3 : TG} {p : T3 X Y Z} {B C D : Type} {s1 : B → List Sl} {n1 : PT B} {s2 : B → C → List Sl} {n2 : B → PT C} {s3 : B → C → D → List Sl} {n3 : B → C → PT D} (h1 : RT G sl vs g1 p.a s1 n1) (h2 : ∀ b, RT G (s1 b) vs g2 p.b (s2 b) (n2 b)) (h3 : ∀ b c, RT G (s2 b c) vs g3 p.c (s3 b c) (n3 b c)) :
    RT G sl vs (gTup K 3 (gCons g1 (gCons g2 (gCons g3 gNil)))) p (fun b : B × C × D => s3 b.1 b.2.1 b.2.2) (fun Q => n1 fun b => n2 b fun c => n3 b c fun d => Q (b, c, d)) := fun σ A F H v Qp Q E r hq k => by
  obtain ⟨a, u, w, z, rfl, f, ha, r1, r2, r3⟩ := r
  refine ⟨a, [u, w, z], rfl, SqT.of ha, rfl, u, [w, z], rfl, ?_⟩
  refine h1 σ A F H u _ _ E r1 hq fun b σ1 q1 E1 b1 w1 => ⟨w, [z], rfl, ?_⟩
  refine h2 b σ1 A F H w _ _ E1 r2 q1 fun c σ2 q2 E2 b2 w2 => ⟨z, [], rfl, ?_⟩
  exact h3 b c σ2 A F H z _ _ E2 r3 q2 fun d σ3 q3 E3 b3 w3 => ⟨rfl, k (b, c, d) σ3 q3 E3 (fun F' H' g E4 => b1 F' H' g (b2 F' H' g (b3 F' H' g E4))) ((w3.trans w2).trans w1)⟩
/-- a, b = t, a tuple of things of one kind -/
theorem rt_tu2 {g1 g2 : TG} {p : Tu X} {B C : Type} {s1 : X → B → List Sl} {n1 : X → PT B} {s2 : X → X → B → C → List Sl} {n2 : X → X → B → PT C} (h1 : ∀ x, RT G sl vs g1 x (s1 x) (n1 x)) (h2 : ∀ x y b, RT G (s1 x b) vs g2 y (s2 x y b) (n2 x y b)) :
    RT G sl vs (gTup K 2 (gCons g1 (gCons g2 gNil))) p (fun b : X × X × B × C => s2 b.1 b.2.1 b.2.2.1 b.2.2.2) (fun Q => ∃ x y, p.l = [x, y] ∧ n1 x fun b => n2 x y b fun c => Q (x, y, b, c)) := fun σ A F H v Qp Q E r hq k => by
  obtain ⟨a, us, rfl, f, ha, rl⟩ := r
  obtain ⟨x, y, e, hq⟩ := hq
  rw [e] at rl
  match us, rl with
  | [u, w], rl =>
    refine ⟨a, [u, w], rfl, SqT.of ha, rfl, u, [w], rfl, ?_⟩
    refine h1 x σ A F H u _ _ E rl.1 hq fun b σ1 q1 E1 b1 w1 => ⟨w, [], rfl, ?_⟩
    exact h2 x y b σ1 A F H w _ _ E1 rl.2.1 q1 fun c σ2 q2 E2 b2 w2 => ⟨rfl, k (x, y, b, c) σ2 q2 E2 (fun F' H' g E3 => b1 F' H' g (b2 F' H' g E3)) (w2.trans w1)⟩
end
/-! ### comprehensions -/
def lcP {X Y : Type} : List X → (X → PT (Option Y)) → PT (List Y)
  | [], _, k => k []
  | x :: xs, f, k => f x fun o => lcP xs f fun ys => k (match o with | none => ys | some y => y :: ys)
/-- one item -/
def RLc (G : Gx) (sl : List Sl) (vs : List Nat) (g : TG) (tt : TT) (te : TE) {X Y : Type} [Rp X] [Rp Y] (x : X) (n : PT (Option Y)) : Prop := ∀ (σ : St) (A : Nat → List Addr) (F : Rg) (H : Hp) (v : V) (Qp : Option Y → Prop) (Qy : VK) (Qn : Hp → Prop), Env G sl σ A F H → Rp.rp G.C F H v x → n Qp →
  (∀ F' H', Qp none → Gk A F H F' H' → Env G sl σ A F' H' → Qn H') → (∀ y u F' H', Qp (some y) → Gk A F H F' H' → Env G sl σ A F' H' → Rp.rp G.C F' H' u y → Qy u H') →
  g v σ H fun σ2 H2 => wipe σ2 vs = wipe σ vs ∧ tt σ2 H2 fun b H3 => if b = true then te σ2 H3 Qy else Qn H3
section
variable {G : Gx} {sl : List Sl} {vs : List Nat} {K : PySem.W.Frag} {X Y : Type} [Rp X] [Rp Y]
theorem rl_all {g : TG} {te : TE} {x : X} {B : Type} {sl' : B → List Sl} {n : PT B} {e : B → PT Y} (ht : RT G sl vs g x sl' n) (he : ∀ b, RE G (sl' b) te (e b)) : RLc G sl vs g tYes te x (fun Q => n fun b => e b fun y => Q (some y)) := fun σ A F H v Qp Qy Qn E r hq kn ky =>
  ht σ A F H v _ _ E r hq fun b σ' q1 E1 b1 w1 => ⟨w1, by
    show if true = true then te σ' H Qy else Qn H
    rw [if_pos rfl]
    exact he b σ' A F H _ _ E1 q1 fun y u F2 H2 q2 g2 E2 r2 => ky y u F2 H2 q2 g2 (b1 F2 H2 g2.ge E2) r2⟩
theorem rl_if {g : TG} {tt : TT} {te : TE} {x : X} {B : Type} {sl' : B → List Sl} {n : PT B} {c : B → PT Bool} {e : B → PT Y} (ht : RT G sl vs g x sl' n) (hc : ∀ b, RC G (sl' b) tt (c b)) (he : ∀ b, RE G (sl' b) te (e b)) :
    RLc G sl vs g tt te x (fun Q => n fun b => c b fun k => if k = true then e b fun y => Q (some y) else Q none) := fun σ A F H v Qp Qy Qn E r hq kn ky =>
  ht σ A F H v _ _ E r hq fun b σ' q1 E1 b1 w1 => ⟨w1, hc b σ' A F H _ _ E1 q1 fun k F2 H2 q2 g2 E2 => by
    cases k with
    | true =>
      rw [if_pos rfl] at q2 ⊢
      exact he b σ' A F2 H2 _ _ E2 q2 fun y u F3 H3 q3 g3 E3 r3 => ky y u F3 H3 q3 (g2.trans g3) (b1 F3 H3 (g2.trans g3).ge E3) r3
    | false =>
      rw [if_neg Bool.false_ne_true] at q2 ⊢
      exact kn F2 H2 q2 g2 (b1 F2 H2 g2.ge E2)⟩
theorem Env.loc {σ : St} {A : Nat → List Addr} {F : Rg} {H : Hp} {D : Addr} {o : HO} (E : Env G sl σ A F H) (hA : ∀ i, D ∉ A i) (hF : ¬ F D) (h0 : G.ws D ∨ G.H0 D = none) (hal : H D = none → G.H0 D = none := E.ok.live D) : Env G sl σ A F (upd H D o) ∧ Ge F H F (upd H D o) := by
  have g : Ge F H F (upd H D o) := fun b u f e => ⟨f, by
    have nb : b ≠ D := fun z => hF (by rw [← z]; exact f)
    rw [upd_ne nb]; exact e⟩
  refine ⟨⟨E.len, fun i s h => ?_, E.out, E.dj, E.fr, ⟨E.ok.sub, E.ok.new, fun b u hb e => ?_, fun b e => ?_, fun b f => ?_⟩, E.pn⟩, g⟩
  · obtain ⟨u, h1, h2⟩ := E.sls i s h
    exact ⟨u, h1, h2.mono g fun a ha u e => by
      have nb : a ≠ D := fun z => hA i (by rw [← z]; exact ha)
      rw [upd_ne nb]; exact e⟩
  · have nb : b ≠ D := fun z => by
      rcases h0 with h0 | h0
      · exact hb (by rw [z]; exact h0)
      · rw [z, h0] at e; cases e
    rw [upd_ne nb]
    exact E.ok.keep b u hb e
  · by_cases hb : b = D
    · subst hb; rw [upd_same] at e; cases e
    · rw [upd_ne hb] at e; exact E.ok.live b e
  · have nb : b ≠ D := fun z => hF (by rw [← z]; exact f)
    rw [upd_ne nb]; exact E.ok.al b f
theorem ro_lc {wi : TI} {g : TG} {tt : TT} {te : TE} {m : PT (List X)} {f : X → PT (Option Y)} (hw : RWo G sl wi m) (hv : ∀ v ∈ vs, NotOwn sl v) (he : ∀ x, RLc G (wipeS sl vs) vs g tt te x (f x)) :
    RO G sl (tLc wi g tt te vs) (fun Q => m fun xs => Sz xs.length ∧ lcP xs f Q) := fun σ A F H Qp Q E hm k =>
  hw σ A F H _ _ E hm fun xs F1 H1 J q1 g1 E1 w => by
    obtain ⟨hz, q1⟩ := q1
    intro D hD
    obtain ⟨Gd, Y', hW, hP, hY⟩ := w.ex
    have hDA : ∀ i, D ∉ A i := fun i hi => E1.live hi hD
    have hD0 : G.H0 D = none := E1.ok.live _ hD
    have hDF : ¬ F1 D := fun f => E1.ok.al _ f hD
    refine lc_it hW (fun i H2 => ∃ F2 acc ws, Gk A F1 H1 F2 H2 ∧ Env G sl σ A F2 H2 ∧ ¬ F2 D ∧ H2 D = some (.lst ws) ∧ RpL G.C F2 H2 ws acc ∧ ws.length ≤ i ∧ i ≤ xs.length ∧ lcP (xs.drop i) f (fun zs => Qp (acc ++ zs))) ?_ ?_ ?_ ?_
    · have n : New F1 H1 F1 (upd H1 D (.lst [])) := New.same' (same_upd hD)
      exact ⟨F1, [], [], n.gk, E1.newk n, hDF, upd_same, trivial, Nat.le_refl _, Nat.zero_le _, by simpa using q1⟩
    · rintro i H2 hi ⟨F2, acc, ws, g2, E2, _⟩
      exact hP F2 H2 ⟨g2.ge, E2⟩
    · rintro i x H2 H3 hi ⟨F2, acc, ws, g2, E2, nD, eD, rl, hl, hi2, q⟩ hy
      obtain ⟨F3, y, ey, n3, r3⟩ := hY i H2 x H3 F2 ⟨g2.ge, E2⟩ hy
      have E3 := E2.newk n3
      have g3 : Gk A F1 H1 F3 H3 := g2.trans n3.gk
      have nD3 : ¬ F3 D := fun f => by
        rcases n3.new D f with f | f
        · exact nD f
        · rw [eD] at f; cases f
      have eD3 : H3 D = some (.lst ws) := n3.same _ _ eD
      have ed : xs.drop i = y :: xs.drop (i + 1) := by
        obtain ⟨hlt, rfl⟩ := List.getElem?_eq_some_iff.mp ey
        exact List.drop_eq_getElem_cons hlt
      rw [ed] at q
      obtain ⟨Ew, bw⟩ := E3.wiped hv
      have h := he y (wipe σ vs) A F3 H3 x (fun o => lcP (xs.drop (i + 1)) f fun ys => Qp (acc ++ (match o with | none => ys | some y => y :: ys))) (fun y H4 => ∃ acc, H4 D = some (.lst acc) ∧ acc.length < sizeLine ∧ (fun i H2 => ∃ F2 acc ws, Gk A F1 H1 F2 H2 ∧ Env G sl σ A F2 H2 ∧ ¬ F2 D ∧ H2 D = some (.lst ws) ∧ RpL G.C F2 H2 ws acc ∧ ws.length ≤ i ∧ i ≤ xs.length ∧ lcP (xs.drop i) f (fun zs => Qp (acc ++ zs))) (i + 1) (upd H4 D (.lst (acc ++ [y]))))
        ((fun i H2 => ∃ F2 acc ws, Gk A F1 H1 F2 H2 ∧ Env G sl σ A F2 H2 ∧ ¬ F2 D ∧ H2 D = some (.lst ws) ∧ RpL G.C F2 H2 ws acc ∧ ws.length ≤ i ∧ i ≤ xs.length ∧ lcP (xs.drop i) f (fun zs => Qp (acc ++ zs))) (i + 1)) Ew r3 q (fun F4 H4 q4 g4 E4 => ?_) (fun z u F4 H4 q4 g4 E4 r4 => ?_)
      · rw [wipe_wipe vs fun _ h => h] at h
        exact h
      · have E4' := bw F4 H4 g4.ge E4
        have eD4 : H4 D = some (.lst ws) := g4.kp _ _ hDA eD3
        have nD4 : ¬ F4 D := fun f => by
          rcases g4.new D f with f | f
          · exact nD3 f
          · rw [eD3] at f; cases f
        exact ⟨F4, acc, ws, g3.trans g4, E4', nD4, eD4, RpL.mono (n3.ge.trans g4.ge) rl, by omega, by omega, q4⟩
      · have E4' := bw F4 H4 g4.ge E4
        have eD4 : H4 D = some (.lst ws) := g4.kp _ _ hDA eD3
        have nD4 : ¬ F4 D := fun f => by
          rcases g4.new D f with f | f
          · exact nD3 f
          · rw [eD3] at f; cases f
        obtain ⟨E5, g5⟩ := E4'.loc (o := .lst (ws ++ [u])) hDA nD4 (.inr hD0)
        refine ⟨ws, eD4, ?_, F4, acc ++ [z], ws ++ [u], ?_, E5, nD4, upd_same, RpL.append (RpL.mono ((n3.ge.trans g4.ge).trans g5) rl) ⟨Rp.mono g5 r4, trivial⟩, by rw [List.length_append]; show ws.length + 1 ≤ i + 1; omega, by omega, ?_⟩
        · have := hz.lt
          omega
        · exact (g3.trans g4).loc hD nD4
        · simpa [List.append_assoc] using q4
    · rintro H2 ⟨F2, acc, ws, g2, E2, nD, eD, rl, hl, hi2, q⟩
      rw [List.drop_length] at q
      have q : Qp (acc ++ []) := q
      rw [List.append_nil] at q
      exact k acc (.ref D) F2 H2 [D] q (g1.trans g2) E2 ⟨D, ws, rfl, rfl, eD, rl⟩ fun a ha => by
        have : a = D := by simpa using ha
        subst this
        exact ⟨nD, g1.fr _ hD⟩
end
end QV

namespace QV
open PySem L2 QW
/-! ### what a def is called with -/
def ArgsOk (C : CA) (F : Rg) (H : Hp) : List Sl → List V → List Addr → Prop
  | [], [], as => as = []
  | @Sl.dat X i x :: args, v :: vs, as => @Rp.rp X i C F H v x ∧ ArgsOk C F H args vs as
  | @Sl.own X i x :: args, v :: vs, as => ∃ bs cs, as = bs ++ cs ∧ @Ow.ow X i C F H bs v x ∧ ArgsOk C F H args vs cs
  | _, _, _ => False
/-- the promise of a def all of whose arguments are looked at -/
def SpA (C : CA) {R : Type} [Rp R] (wa : List Sl → PT R) : Sp := fun vs H Q _ => ∃ args F Qp, ArgsOk C F H args vs [] ∧ (∀ b, F b → H b ≠ none) ∧ wa args Qp ∧
  ∀ r v F' H', Qp r → Post H F (fun _ => False) F' H' → Rp.rp C F' H' v r → Q v H'
/-- the promise of a def that turns its argument at place j -/
def SpO (C : CA) (j : Nat) {R : Type} [Rp R] {Y : Type} [Ow Y] (wa : List Sl → (R → Y → Prop) → Prop) : Sp := fun vs H Q _ => ∃ args F as w Qp, ArgsOk C F H args vs as ∧ vs[j]? = some w ∧ (∀ b, F b → H b ≠ none) ∧ (∀ a ∈ as, ¬ F a) ∧ wa args Qp ∧
  ∀ r y v F' H', Qp r y → Post H F (fun a => a ∈ as) F' H' → (∀ a ∈ as, ¬ F' a) → Ow.ow C F' H' as w y → Rp.rp C F' H' v r → Q v H'
/-- a new list as the answer -/
def SpN (C : CA) {R : Type} [Ow R] (wa : List Sl → PT R) : Sp := fun vs H Q _ => ∃ args F Qp, ArgsOk C F H args vs [] ∧ (∀ b, F b → H b ≠ none) ∧ wa args Qp ∧
  ∀ r v F' H' as, Qp r → Post H F (fun _ => False) F' H' → Ow.ow C F' H' as v r → (∀ a ∈ as, ¬ F' a ∧ H a = none) → Q v H'
/-- turns its argument at place j, and gives a new list -/
def SpP (C : CA) (j : Nat) {R : Type} [Ow R] {Y : Type} [Ow Y] (wa : List Sl → (R → Y → Prop) → Prop) : Sp := fun vs H Q _ => ∃ args F as w Qp, ArgsOk C F H args vs as ∧ vs[j]? = some w ∧ (∀ b, F b → H b ≠ none) ∧ (∀ a ∈ as, ¬ F a) ∧ wa args Qp ∧
  ∀ r y v F' H' bs, Qp r y → Post H F (fun a => a ∈ as) F' H' → (∀ a ∈ as, ¬ F' a) → Ow.ow C F' H' as w y → Ow.ow C F' H' bs v r → (∀ a ∈ bs, ¬ F' a ∧ H a = none) → Q v H'
section
variable {G : Gx} {sl : List Sl} {X Y Z R : Type} [Rp X] [Rp Y] [Rp Z] [Rp R]
/-- the arguments of a call: oi tells the owned one's slot and place -/
def RA (G : Gx) (sl : List Sl) (oi : Option (Nat × Nat)) (t : TA) (m : (List Sl → Prop) → Prop) : Prop := ∀ (σ : St) (A : Nat → List Addr) (F : Rg) (H : Hp) (Qp : List Sl → Prop) (Q : List V → Hp → Prop), Env G sl σ A F H → m Qp →
  (∀ args vs F' H', Qp args → Gk A F H F' H' → Env G sl σ A F' H' → ArgsOk G.C F' H' args vs (match oi with | none => [] | some p => A p.1) → (∀ p, oi = some p → ∃ w, σ[p.1]? = some (some w) ∧ vs[p.2]? = some w) → Q vs H') → t σ H Q
theorem ra_nil : RA G sl none tNil (fun Q => Q []) := fun σ A F H Qp Q E hm k => k [] [] F H hm Gk.refl E rfl (fun p e => by cases e)
theorem ra_dat {te : TE} {t : TA} {m : PT X} {n : (List Sl → Prop) → Prop} (h : RE G sl te m) (h' : RA G sl none t n) : RA G sl none (tCons te t) (fun Q => m fun a => n fun as => Q (.dat a :: as)) := fun σ A F H Qp Q E hm k =>
  h σ A F H _ _ E hm fun x v F1 H1 q1 g1 E1 r1 => h' σ A F1 H1 _ _ E1 q1 fun args vs F2 H2 q2 g2 E2 r2 _ => k _ _ F2 H2 q2 (g1.trans g2) E2 ⟨Rp.mono g2.ge r1, r2⟩ (fun p e => by cases e)
theorem ra_datO {i j : Nat} {te : TE} {t : TA} {m : PT X} {n : (List Sl → Prop) → Prop} (h : RE G sl te m) (h' : RA G sl (some (i, j)) t n) : RA G sl (some (i, j + 1)) (tCons te t) (fun Q => m fun a => n fun as => Q (.dat a :: as)) := fun σ A F H Qp Q E hm k =>
  h σ A F H _ _ E hm fun x v F1 H1 q1 g1 E1 r1 => h' σ A F1 H1 _ _ E1 q1 fun args vs F2 H2 q2 g2 E2 r2 r3 => k _ _ F2 H2 q2 (g1.trans g2) E2 ⟨Rp.mono g2.ge r1, r2⟩ (fun p e => by
    cases e
    obtain ⟨w, h1, h2⟩ := r3 _ rfl
    exact ⟨w, h1, by simpa using h2⟩)
theorem ra_own {W : Type} [Ow W] {i : Nat} {y : W} {t : TA} {n : (List Sl → Prop) → Prop} (hi : sl[i]? = some (.own y)) (h' : RA G sl none t n) : RA G sl (some (i, 0)) (tCons (tVar i) t) (fun Q => n fun as => Q (.own y :: as)) := fun σ A F H Qp Q E hm k => by
  obtain ⟨v, h1, h2⟩ := E.own hi
  refine ⟨v, h1, h' σ A F H _ _ E hm fun args vs F2 H2 q2 g2 E2 r2 _ => ?_⟩
  obtain ⟨v', h1', h2'⟩ := E2.own hi
  rw [h1] at h1'
  cases h1'
  exact k _ _ F2 H2 q2 g2 E2 ⟨A i, [], by rw [List.append_nil], h2', r2⟩ (fun p e => by cases e; exact ⟨v, h1, rfl⟩)
abbrev noW : Rg := fun _ => False
theorem Post.nw {F F' : Rg} {H H' : Hp} (p : Post H F noW F' H') : New F H F' H' := ⟨fun b o e => p.keep b o (fun z => z) e, p.sub, fun b f => (p.new b f).imp id fun z => z.elim id fun z => z.elim, fun b f => .inr (p.al b f)⟩
theorem re_call {wa : List Sl → PT R} {t : TA} {m : (List Sl → Prop) → Prop} {E0' : XK} (h : RA G sl none t m) : RE G sl (tCall (SpA G.C wa) [] E0' t) (fun Q => m fun args => wa args Q) := fun σ A F H Qp Q E hm k =>
  h σ A F H _ _ E hm fun args vs F1 H1 q1 g1 E1 r1 _ => ⟨args, F1, Qp, by rw [List.append_nil]; exact r1, E1.ok.al, q1, fun r v F2 H2 q2 p2 r2 => k r v F2 H2 q2 (g1.trans p2.nw.gk) (E1.newk p2.nw) r2⟩
theorem ro_call {W : Type} [Ow W] {wa : List Sl → PT W} {t : TA} {m : (List Sl → Prop) → Prop} {E0' : XK} (h : RA G sl none t m) : RO G sl (tCall (SpN G.C wa) [] E0' t) (fun Q => m fun args => wa args Q) := fun σ A F H Qp Q E hm k =>
  h σ A F H _ _ E hm fun args vs F1 H1 q1 g1 E1 r1 _ => ⟨args, F1, Qp, by rw [List.append_nil]; exact r1, E1.ok.al, q1, fun r v F2 H2 as q2 p2 r2 f2 => k r v F2 H2 as q2 (g1.trans p2.nw.gk) (E1.newk p2.nw) r2 fun a ha => ⟨(f2 a ha).1, g1.fr a (f2 a ha).2⟩⟩
/-- a def that turns what is at slot i -/
theorem reg_call {W : Type} [Ow W] {j : Nat} {wa : List Sl → (R → W → Prop) → Prop} {i : Nat} {y0 : W} {t : TA} {m : (List Sl → Prop) → Prop} {E0' : XK} (hi : sl[i]? = some (.own y0)) (h : RA G sl (some (i, j)) t m) :
    REG G sl (tCall (SpO G.C j wa) [] E0' t) (fun b : R × W => sl.set i (.own b.2)) (fun b => b.1) (fun Q => m fun args => wa args fun r y => Q (r, y)) := fun σ A F H Qp Q E hm k =>
  h σ A F H _ _ E hm fun args vs F1 H1 q1 g1 E1 r1 hw => by
    obtain ⟨w, hw1, hw2⟩ := hw _ rfl
    have hil : i < sl.length := (List.getElem?_eq_some_iff.mp hi).1
    refine ⟨args, F1, A i, w, _, by rw [List.append_nil]; exact r1, by rw [List.append_nil]; exact hw2, E1.ok.al, fun a ha => (E1.fr i a ha).1, q1, fun r y v F2 H2 q2 p2 nf o2 r2 => ?_⟩
    have hn : ∀ b, F2 b → F1 b ∨ H1 b = none := fun b f => (p2.new b f).imp id fun z => z.elim id fun z => absurd f (nf b z)
    have g2 : Ge F1 H1 F2 H2 := fun b o f e => ⟨p2.sub b f, p2.keep b o (fun hb => (E1.fr i b hb).1 f) e⟩
    exact k (r, y) v F2 H2 q2 (g1.trans ⟨g2, fun b o hb e => p2.keep b o (hb i) e, p2.live, hn⟩) (E1.turn hil hw1 g2 o2 (fun b o hb e => p2.keep b o hb e) hn p2.sub p2.live p2.al) r2
theorem ro_callD {W V' : Type} [Ow W] [Ow V'] [hs : Subsingleton W] {j : Nat} {wa : List Sl → (V' → W → Prop) → Prop} {i : Nat} {y0 : W} {t : TA} {m : (List Sl → Prop) → Prop} {E0' : XK} (hi : sl[i]? = some (.own y0)) (h : RA G sl (some (i, j)) t m) :
    RO G sl (tCall (SpP G.C j wa) [] E0' t) (fun Q => m fun args => wa args fun r _ => Q r) := fun σ A F H Qp Q E hm k =>
  h σ A F H _ _ E hm fun args vs F1 H1 q1 g1 E1 r1 hw => by
    obtain ⟨w, hw1, hw2⟩ := hw _ rfl
    have hil : i < sl.length := (List.getElem?_eq_some_iff.mp hi).1
    refine ⟨args, F1, A i, w, _, by rw [List.append_nil]; exact r1, by rw [List.append_nil]; exact hw2, E1.ok.al, fun a ha => (E1.fr i a ha).1, q1, fun r y v F2 H2 bs q2 p2 nf o2 r2 fb => ?_⟩
    have hn : ∀ b, F2 b → F1 b ∨ H1 b = none := fun b f => (p2.new b f).imp id fun z => z.elim id fun z => absurd f (nf b z)
    have g2 : Ge F1 H1 F2 H2 := fun b o f e => ⟨p2.sub b f, p2.keep b o (fun hb => (E1.fr i b hb).1 f) e⟩
    have E2 := E1.turn hil hw1 g2 o2 (fun b o hb e => p2.keep b o hb e) hn p2.sub p2.live p2.al
    obtain rfl : y = y0 := hs.allEq _ _
    rw [set_id hi] at E2
    exact k r v F2 H2 bs q2 (g1.trans ⟨g2, fun b o hb e => p2.keep b o (hb i) e, p2.live, hn⟩) E2 r2 fun a ha => ⟨(fb a ha).1, g1.fr a (fb a ha).2⟩
/-- what has one state alone: the dice -/
theorem re_callD {W : Type} [Ow W] [hs : Subsingleton W] {j : Nat} {wa : List Sl → (R → W → Prop) → Prop} {i : Nat} {y0 : W} {t : TA} {m : (List Sl → Prop) → Prop} {E0' : XK} (hi : sl[i]? = some (.own y0)) (h : RA G sl (some (i, j)) t m) :
    RE G sl (tCall (SpO G.C j wa) [] E0' t) (fun Q => m fun args => wa args fun r _ => Q r) := fun σ A F H Qp Q E hm k =>
  reg_call hi h σ A F H (fun b => Qp b.1) Q E hm fun b v F' H' q g E' r => k b.1 v F' H' q g (by
    obtain ⟨b1, b2⟩ := b
    obtain rfl : b2 = y0 := hs.allEq _ _
    have E2 : Env G (sl.set i (.own b2)) σ A F' H' := E'
    rwa [set_id hi] at E2) r
end
/-! ### statements -/
def RB (G : Gx) (sl : List Sl) (p : St → Hp → Prop) (w : Prop) : Prop := ∀ (σ : St) (A : Nat → List Addr) (F : Rg) (H : Hp), Env G sl σ A F H → w → p σ H
section
variable {G : Gx} {sl : List Sl} {X Y Z R : Type} [Rp X] [Rp Y] [Rp Z] [Rp R] {D : Ends} {K : PySem.W.Frag}
theorem rb_seq {t u : TS} {w : Prop} (h : RB G sl (t { D with nx := u D }) w) : RB G sl (tSeq t u D) w := h
theorem rb_next {w : Prop} (h : RB G sl D.nx w) : RB G sl (tNext D) w := h
theorem rb_break {w : Prop} (h : RB G sl D.bk w) : RB G sl (tBreak D) w := h
theorem rb_cont {w : Prop} (h : RB G sl D.ct w) : RB G sl (tCont D) w := h
theorem rb_never {p : TS} : RB G sl (p D) False := fun _ _ _ _ _ h => h.elim
theorem rb_le {pin : Option Nat} {tl : List Sl} {p : St → Hp → Prop} {w : Prop} (hp : G.pin.map (·.1) = pin) (l : LeSl pin 0 sl tl) (h : RB G tl p w) : RB G sl p w := fun σ A F H E hw => by
  obtain ⟨A', E', _⟩ := E.le l hp
  exact h σ A' F H E' hw
theorem rb_imp {p : St → Hp → Prop} {w w' : Prop} (h : RB G sl p w) (i : w' → w) : RB G sl p w' := fun σ A F H E hw => h σ A F H E (i hw)
theorem rb_asg {te : TE} {i : Nat} {m : PT X} {w : X → Prop} (h : RE G sl te m) (n : NotOwn sl i) (k : ∀ x, RB G (sl.set i (.dat x)) D.nx (w x)) : RB G sl (tAsg te (gName i) D) (m w) := fun σ A F H E hw =>
  h σ A F H w _ E hw fun x v F1 H1 q1 g1 E1 r1 => k x _ A F1 H1 (E1.put (s := .dat x) ⟨rfl, v, rfl, r1⟩ n) q1
theorem rb_asgG {te : TE} {i : Nat} {B : Type} {sl' : B → List Sl} {val : B → X} {m : PT B} {w : B → Prop} (h : REG G sl te sl' val m) (n : ∀ b, NotOwn (sl' b) i) (k : ∀ b, RB G ((sl' b).set i (.dat (val b))) D.nx (w b)) : RB G sl (tAsg te (gName i) D) (m w) := fun σ A F H E hw =>
  h σ A F H w _ E hw fun b v F1 H1 q1 g1 E1 r1 => k b _ A F1 H1 (E1.put (s := .dat (val b)) ⟨rfl, v, rfl, r1⟩ (n b)) q1
theorem rb_asgO {W : Type} [Ow W] {te : TE} {i : Nat} {m : PT W} {w : W → Prop} (h : RO G sl te m) (n : NotOwn sl i) (hi : i < sl.length) (k : ∀ x, RB G (sl.set i (.own x)) D.nx (w x)) : RB G sl (tAsg te (gName i) D) (m w) := fun σ A F H E hw =>
  h σ A F H w _ E hw fun x v F1 H1 as q1 g1 E1 r1 f1 => k x _ _ F1 H1 (E1.store (s := .own x) ⟨v, rfl, r1⟩ hi (fun a ha => ⟨(f1 a ha).1, .inr (E.ok.live a (f1 a ha).2), fun j _ hj => E.live hj (f1 a ha).2⟩) (E1.unpin n)) q1
/-- a target of any form -/
theorem rb_asgT {te : TE} {vs : List Nat} {g : TG} {m : PT X} {B : Type} {sl' : X → B → List Sl} {n : X → PT B} {w : X → B → Prop} (h : RE G sl te m) (ht : ∀ x, RT G sl vs g x (sl' x) (n x)) (k : ∀ x b, RB G (sl' x b) D.nx (w x b)) : RB G sl (tAsg te g D) (m fun x => n x (w x)) := fun σ A F H E hw =>
  h σ A F H _ _ E hw fun x v F1 H1 q1 g1 E1 r1 => ht x σ A F1 H1 v (w x) _ E1 r1 q1 fun b σ' q2 E2 _ _ => k x b σ' A F1 H1 E2 q2
theorem rb_drop {te : TE} {B : Type} {sl' : B → List Sl} {val : B → X} {m : PT B} {w : B → Prop} (h : REG G sl te sl' val m) (k : ∀ b, RB G (sl' b) D.nx (w b)) : RB G sl (tDrop te D) (m w) := fun σ A F H E hw =>
  h σ A F H w _ E hw fun b v F1 H1 q1 g1 E1 r1 => k b σ A F1 H1 E1 q1
theorem rb_if {c : TT} {t u : TS} {m : PT Bool} {a b : Prop} (h : RC G sl c m) (ha : RB G sl (t D) a) (hb : RB G sl (u D) b) : RB G sl (tIfS c t u D) (m fun k => if k = true then a else b) := fun σ A F H E hw =>
  h σ A F H _ _ E hw fun k F1 H1 q1 g1 E1 => by
    cases k with
    | true => rw [if_pos rfl] at q1 ⊢; exact ha σ A F1 H1 E1 q1
    | false => rw [if_neg Bool.false_ne_true] at q1 ⊢; exact hb σ A F1 H1 E1 q1
/-- what follows a return: all arguments looked at; one turned -/
def RtA (G : Gx) (rt : VK) (k : R → Prop) : Prop := ∀ sl σ A F H r v, Env G sl σ A F H → Rp.rp G.C F H v r → k r → rt v H
theorem rb_ret {te : TE} {m : PT R} {k : R → Prop} (h : RE G sl te m) (hr : RtA G D.rt k) : RB G sl (tRet te D) (m k) := fun σ A F H E hw =>
  h σ A F H k _ E hw fun r v F1 H1 q1 g1 E1 r1 => hr sl σ A F1 H1 r v E1 r1 q1
theorem rb_retN {k : Unit → Prop} (hr : RtA G D.rt k) : RB G sl (tRetN D) (k ()) := fun σ A F H E hw => hr sl σ A F H () .non E rfl hw
def RtO (G : Gx) {W : Type} [Ow W] (rt : VK) (k : R → W → Prop) : Prop := ∀ sl σ A F H r v y p, Env G sl σ A F H → G.pin = some p → sl[p.1]? = some (.own y) → Rp.rp G.C F H v r → k r y → rt v H
theorem rb_retO {W : Type} [Ow W] {te : TE} {B : Type} {sl' : B → List Sl} {val : B → R} {m : PT B} {i : Nat} {y : B → W} {k : R → W → Prop} (h : REG G sl te sl' val m) (hp : G.pin.map (·.1) = some i) (hy : ∀ b, (sl' b)[i]? = some (.own (y b))) (hr : RtO G D.rt k) : RB G sl (tRet te D) (m fun b => k (val b) (y b)) := fun σ A F H E hw =>
  h σ A F H _ _ E hw fun b v F1 H1 q1 g1 E1 r1 => by
    cases e : G.pin with
    | none => rw [e] at hp; cases hp
    | some p =>
      rw [e] at hp
      have e2 : p.1 = i := Option.some.inj hp
      exact hr _ σ A F1 H1 _ v (y b) p E1 e (by rw [e2]; exact hy b) r1 q1
def RtN (G : Gx) {W : Type} [Ow W] (rt : VK) (k : W → Prop) : Prop := ∀ sl σ A F H r v as, Env G sl σ A F H → Ow.ow G.C F H as v r → (∀ a ∈ as, ¬ F a ∧ (G.ws a ∨ G.H0 a = none)) → k r → rt v H
theorem rb_retF {W : Type} [Ow W] {te : TE} {m : PT W} {k : W → Prop} (h : RO G sl te m) (hr : RtN G D.rt k) : RB G sl (tRet te D) (m k) := fun σ A F H E hw =>
  h σ A F H k _ E hw fun r v F1 H1 as q1 g1 E1 r1 f1 => hr sl σ A F1 H1 r v as E1 r1 (fun a ha => ⟨(f1 a ha).1, .inr (E.ok.live a (f1 a ha).2)⟩) q1
theorem rb_retV {W : Type} [Ow W] {i : Nat} {y : W} {k : W → Prop} (hi : sl[i]? = some (.own y)) (hr : RtN G D.rt k) : RB G sl (tRet (tVar i) D) (k y) := fun σ A F H E hw => by
  obtain ⟨v, h1, h2⟩ := E.own hi
  exact ⟨v, h1, hr sl σ A F H y v (A i) E h2 (fun a ha => E.fr i a ha) hw⟩
def RtP (G : Gx) {V' W : Type} [Ow V'] [Ow W] (rt : VK) (k : V' → W → Prop) : Prop := ∀ sl σ A F H r v y p as, Env G sl σ A F H → G.pin = some p → sl[p.1]? = some (.own y) → Ow.ow G.C F H as v r → (∀ a ∈ as, ¬ F a ∧ (G.ws a ∨ G.H0 a = none)) → (∀ a ∈ as, a ∉ p.2.2) → k r y → rt v H
theorem rb_retP {V' W : Type} [Ow V'] [Ow W] {te : TE} {m : PT V'} {i : Nat} {y : W} {k : V' → W → Prop} (h : RO G sl te m) (hp : G.pin.map (·.1) = some i) (hy : sl[i]? = some (.own y)) (hr : RtP G D.rt k) : RB G sl (tRet te D) (m fun r => k r y) := fun σ A F H E hw =>
  h σ A F H _ _ E hw fun r v F1 H1 as q1 g1 E1 r1 f1 => by
    cases e : G.pin with
    | none => rw [e] at hp; cases hp
    | some p =>
      rw [e] at hp
      have e2 : p.1 = i := Option.some.inj hp
      exact hr _ σ A F1 H1 r v y p as E1 e (by rw [e2]; exact hy) r1 (fun a ha => ⟨(f1 a ha).1, .inr (E.ok.live a (f1 a ha).2)⟩) (fun a ha hb => by
        obtain ⟨_, h2, _⟩ := E.pn p e
        exact E.live (i := p.1) (by rw [h2]; exact hb) (f1 a ha).2) q1
theorem rb_retPV {V' W : Type} [Ow V'] [Ow W] {i j : Nat} {y : W} {r : V'} {k : V' → W → Prop} (hj : sl[j]? = some (.own r)) (hp : G.pin.map (·.1) = some i) (hij : j ≠ i) (hy : sl[i]? = some (.own y)) (hr : RtP G D.rt k) : RB G sl (tRet (tVar j) D) (k r y) := fun σ A F H E hw => by
  obtain ⟨v, h1, h2⟩ := E.own hj
  refine ⟨v, h1, ?_⟩
  cases e : G.pin with
  | none => rw [e] at hp; cases hp
  | some p =>
    rw [e] at hp
    have e2 : p.1 = i := Option.some.inj hp
    exact hr _ σ A F H r v y p (A j) E e (by rw [e2]; exact hy) h2 (fun a ha => E.fr j a ha) (fun a ha hb => by
      obtain ⟨_, h3, _⟩ := E.pn p e
      exact E.dj j p.1 (by rw [e2]; exact hij) a ha (by rw [h3]; exact hb)) hw
end
/-! ### loops -/
def forP {X S : Type} : List X → S → (X → S → (S → Prop) → (S → Prop) → Prop) → (S → Prop) → Prop
  | [], s, _, k => k s
  | x :: xs, s, b, k => b x s (fun s' => forP xs s' b k) k
section
variable {G : Gx} {sl : List Sl} {X Y Z R S : Type} [Rp X] [Rp Y] [Rp Z] [Rp R] {D : Ends} {K : PySem.W.Frag}
/-- the context that begins here -/
abbrev Gx.at (G : Gx) (H1 : Hp) (F1 : Rg) (w1 : Rg) : Gx := ⟨G.C, H1, F1, w1, G.pin⟩
structure Lift (G' G : Gx) : Prop where
  env : ∀ sl σ A F H, Env G' sl σ A F H → Env G sl σ A F H
  ws : ∀ a, G'.ws a ∨ G'.H0 a = none → G.ws a ∨ G.H0 a = none
theorem Post.trans {H0 H1 H2 : Hp} {F0 F1 F2 : Rg} {w w1 : Rg} (a : Post H0 F0 w F1 H1) (b : Post H1 F1 w1 F2 H2) (h : ∀ x, w1 x → w x ∨ H0 x = none) : Post H0 F0 w F2 H2 :=
  ⟨fun c f => b.sub c (a.sub c f), fun c f => (b.new c f).elim (a.new c) fun e => e.elim (fun e => .inr (.inl (a.live c e))) fun e => (h c e).elim (fun z => .inr (.inr z)) fun z => .inr (.inl z), fun c o hc e => b.keep c o (fun z => (h c z).elim hc fun e' => by rw [e'] at e; cases e) (a.keep c o hc e), fun c e => a.live c (b.live c e), b.al⟩
theorem Env.at {σ : St} {A : Nat → List Addr} {F : Rg} {H : Hp} (E : Env G sl σ A F H) : Env (G.at H F fun a => ∃ i, a ∈ A i) sl σ A F H ∧ Lift (G.at H F fun a => ∃ i, a ∈ A i) G := by
  refine ⟨⟨E.len, E.sls, E.out, E.dj, fun i a h => ⟨(E.fr i a h).1, .inl ⟨i, h⟩⟩, ⟨fun _ f => f, fun _ f => .inl f, fun _ _ _ e => e, fun _ e => e, E.ok.al⟩, E.pn⟩, ⟨fun sl' σ' A' F' H' E' => ?_, fun a h => ?_⟩⟩
  · refine ⟨E'.len, E'.sls, E'.out, E'.dj, fun i a h => ⟨(E'.fr i a h).1, ?_⟩, E.ok.trans E'.ok fun x ⟨i, hx⟩ => (E.fr i x hx).2, E'.pn⟩
    rcases (E'.fr i a h).2 with ⟨j, h⟩ | h
    · exact (E.fr j a h).2
    · exact .inr (E.ok.live a h)
  · rcases h with ⟨j, h⟩ | h
    · exact (E.fr j a h).2
    · exact .inr (E.ok.live a h)
theorem Lift.trans {G G' G2 : Gx} (a : Lift G2 G') (b : Lift G' G) : Lift G2 G := ⟨fun sl σ A F H E => b.env _ _ _ _ _ (a.env _ _ _ _ _ E), fun x h => b.ws x (a.ws x h)⟩
theorem RB.lift {G' : Gx} {p : St → Hp → Prop} {w : Prop} (l : Lift G' G) (h : RB G sl p w) : RB G' sl p w := fun σ A F H E hw => h σ A F H (l.env _ _ _ _ _ E) hw
theorem RtA.lift {H1 : Hp} {F1 w1 : Rg} {rt : VK} {k : R → Prop} (l : Lift (G.at H1 F1 w1) G) (h : RtA G rt k) : RtA (G.at H1 F1 w1) rt k := fun sl σ A F H r v E => h sl σ A F H r v (l.env _ _ _ _ _ E)
theorem RtO.lift {H1 : Hp} {F1 w1 : Rg} {W : Type} [Ow W] {rt : VK} {k : R → W → Prop} (l : Lift (G.at H1 F1 w1) G) (h : RtO G rt k) : RtO (G.at H1 F1 w1) rt k := fun sl σ A F H r v y p E => h sl σ A F H r v y p (l.env _ _ _ _ _ E)
theorem RtN.lift {H1 : Hp} {F1 w1 : Rg} {W : Type} [Ow W] {rt : VK} {k : W → Prop} (l : Lift (G.at H1 F1 w1) G) (h : RtN G rt k) : RtN (G.at H1 F1 w1) rt k := fun sl σ A F H r v as E o f => h sl σ A F H r v as (l.env _ _ _ _ _ E) o (fun a ha => ⟨(f a ha).1, l.ws a (f a ha).2⟩)
theorem RtA.rt {rt rt' : VK} {k : R → Prop} (h : RtA G rt k) (e : rt' = rt) : RtA G rt' k := by subst e; exact h
theorem RtO.rt {W : Type} [Ow W] {rt rt' : VK} {k : R → W → Prop} (h : RtO G rt k) (e : rt' = rt) : RtO G rt' k := by subst e; exact h
theorem RtP.lift {H1 : Hp} {F1 w1 : Rg} {V' W : Type} [Ow V'] [Ow W] {rt : VK} {k : V' → W → Prop} (l : Lift (G.at H1 F1 w1) G) (h : RtP G rt k) : RtP (G.at H1 F1 w1) rt k := fun sl σ A F H r v y p as E e1 e2 o f => h sl σ A F H r v y p as (l.env _ _ _ _ _ E) e1 e2 o (fun a ha => ⟨(f a ha).1, l.ws a (f a ha).2⟩)
theorem RtP.rt {V' W : Type} [Ow V'] [Ow W] {rt rt' : VK} {k : V' → W → Prop} (h : RtP G rt k) (e : rt' = rt) : RtP G rt' k := by subst e; exact h
theorem RtN.rt {W : Type} [Ow W] {rt rt' : VK} {k : W → Prop} (h : RtN G rt k) (e : rt' = rt) : RtN G rt' k := by subst e; exact h
theorem rb_for {pin : Option Nat} {wi : TI} {g : TG} {tb : TS} {m : PT (List X)} {vs : List Nat} (slS : S → List Sl) (s0 : S) {B : X → S → Type} {slT : (x : X) → (s : S) → B x s → List Sl} {nt : (x : X) → (s : S) → PT (B x s)} {wb : (x : X) → (s : S) → B x s → (S → Prop) → (S → Prop) → Prop} {w : S → Prop}
    (hw : RW G sl wi m) (hp : G.pin.map (·.1) = pin) (hl : LeSl pin 0 sl (slS s0))
    (hb : ∀ (H1 : Hp) (F1 w1 : Rg), Lift (G.at H1 F1 w1) G → ∀ x s (D' : Ends) (kn kb : S → Prop), (∀ s', RB (G.at H1 F1 w1) (slS s') D'.nx (kn s')) → (∀ s', RB (G.at H1 F1 w1) (slS s') D'.ct (kn s')) → (∀ s', RB (G.at H1 F1 w1) (slS s') D'.bk (kb s')) → D'.rt = D.rt →
      RT (G.at H1 F1 w1) (slS s) vs g x (slT x s) (nt x s) ∧ ∀ b, RB (G.at H1 F1 w1) (slT x s b) (tb D') (wb x s b kn kb))
    (hd : ∀ s, RB G (slS s) D.nx (w s)) : RB G sl (tFor wi g tb D) (m fun xs => forP xs s0 (fun x s kn kb => nt x s fun b => wb x s b kn kb) w) := fun σ A F H E hm =>
  hw σ A F H _ _ E hm fun xs F1 H1 J q1 g1 E1 wk => by
    obtain ⟨Gd, Y', hW, hP, hY⟩ := wk.ex
    obtain ⟨A1, E1, hA1⟩ := E1.le hl hp
    obtain ⟨E1', L⟩ := E1.at
    have ge : ∀ {sl' σ' A' F' H'}, Env (G.at H1 F1 fun a => ∃ i, a ∈ A1 i) sl' σ' A' F' H' → Ge F1 H1 F' H' := fun E' b o f e => ⟨E'.ok.sub b f, E'.ok.keep b o (fun ⟨i, hi⟩ => (E1.fr i b hi).1 f) e⟩
    refine for_it hW (fun i σ2 H2 => ∃ s A2 F2, Env (G.at H1 F1 fun a => ∃ i, a ∈ A1 i) (slS s) σ2 A2 F2 H2 ∧ i ≤ xs.length ∧ forP (xs.drop i) s (fun x s kn kb => nt x s fun b => wb x s b kn kb) w) ?_ ?_ ?_ ?_
    · exact ⟨s0, A1, F1, E1', Nat.zero_le _, by simpa using q1⟩
    · rintro i σ2 H2 hi ⟨s, A2, F2, E2, _⟩
      exact hP F2 H2 (ge E2)
    · rintro i x σ2 H2 H3 hi ⟨s, A2, F2, E2, hi2, q⟩ hy
      obtain ⟨F3, y, ey, n3, r3⟩ := hY i H2 x H3 F2 (ge E2) hy
      have E3 := E2.newk n3
      have ed : xs.drop i = y :: xs.drop (i + 1) := by
        obtain ⟨hlt, rfl⟩ := List.getElem?_eq_some_iff.mp ey
        exact List.drop_eq_getElem_cons hlt
      rw [ed] at q
      have hN : ∀ s', RB (G.at H1 F1 fun a => ∃ i, a ∈ A1 i) (slS s') (fun σ5 H5 => ∃ s A5 F5, Env (G.at H1 F1 fun a => ∃ i, a ∈ A1 i) (slS s) σ5 A5 F5 H5 ∧ i + 1 ≤ xs.length ∧ forP (xs.drop (i + 1)) s (fun x s kn kb => nt x s fun b => wb x s b kn kb) w) (forP (xs.drop (i + 1)) s' (fun x s kn kb => nt x s fun b => wb x s b kn kb) w) := fun s' σ5 A5 F5 H5 E5 q5 => ⟨s', A5, F5, E5, hi, q5⟩
      obtain ⟨ht, hb'⟩ := hb H1 F1 _ L y s { D with nx := _, ct := _, bk := D.nx } (fun s' => forP (xs.drop (i + 1)) s' (fun x s kn kb => nt x s fun b => wb x s b kn kb) w) w hN hN (fun s' => (hd s').lift L) rfl
      exact ht σ2 A2 F3 H3 x _ _ E3 r3 q fun b σ4 q4 E4 _ _ => hb' b σ4 A2 F3 H3 E4 q4
    · rintro σ2 H2 ⟨s, A2, F2, E2, hi2, q⟩
      rw [List.drop_length] at q
      exact hd s σ2 A2 F2 H2 (L.env _ _ _ _ _ E2) q
/-- while: the invariant with a measure -/
def whP {S : Type} (c : S → PT Bool) (b : S → (S → Prop) → (S → Prop) → Prop) (s : S) (k : S → Prop) : Prop := ∃ W : Nat → S → Prop, (∃ n, W n s) ∧ ∀ n s, W n s → c s fun t => if t = true then b s (fun s' => ∃ m, m < n ∧ W m s') k else k s
theorem rb_while {pin : Option Nat} {tt : TT} {tb : TS} (slS : S → List Sl) (s0 : S) {c : S → PT Bool} {wb : S → (S → Prop) → (S → Prop) → Prop} {w : S → Prop} (hp : G.pin.map (·.1) = pin) (hl : LeSl pin 0 sl (slS s0))
    (hc : ∀ s, RC G (slS s) tt (c s)) (hb : ∀ s (D' : Ends) (kn kb : S → Prop), (∀ s', RB G (slS s') D'.nx (kn s')) → (∀ s', RB G (slS s') D'.ct (kn s')) → (∀ s', RB G (slS s') D'.bk (kb s')) → D'.rt = D.rt → RB G (slS s) (tb D') (wb s kn kb))
    (hd : ∀ s, RB G (slS s) D.nx (w s)) : RB G sl (tWhile tt tb D) (whP c wb s0 w) := fun σ A F H E hm => by
  obtain ⟨W, ⟨n0, h0⟩, hW⟩ := hm
  obtain ⟨A1, E1, _⟩ := E.le hl hp
  refine ⟨fun n σ2 H2 => ∃ s A2 F2, Env G (slS s) σ2 A2 F2 H2 ∧ W n s, ⟨n0, s0, A1, F, E1, h0⟩, ?_⟩
  rintro n σ2 H2 ⟨s, A2, F2, E2, hw⟩
  refine hc s σ2 A2 F2 H2 _ _ E2 (hW n s hw) fun t F3 H3 q3 g3 E3 => ?_
  cases t with
  | true =>
    rw [if_pos rfl] at q3 ⊢
    refine ⟨fun σ5 H5 => ∃ s A5 F5, Env G (slS s) σ5 A5 F5 H5 ∧ ∃ m, m < n ∧ W m s, fun σ5 H5 ⟨s, A5, F5, E5, m, hm, hw⟩ => ⟨m, hm, s, A5, F5, E5, hw⟩, ?_⟩
    have hN : ∀ s', RB G (slS s') (fun σ5 H5 => ∃ s A5 F5, Env G (slS s) σ5 A5 F5 H5 ∧ ∃ m, m < n ∧ W m s) (∃ m, m < n ∧ W m s') := fun s' σ5 A5 F5 H5 E5 q5 => ⟨s', A5, F5, E5, q5⟩
    exact hb s { D with nx := _, ct := _, bk := D.nx } (fun s' => ∃ m, m < n ∧ W m s') w hN hN hd rfl σ2 A2 F3 H3 E3 q3
  | false =>
    rw [if_neg Bool.false_ne_true] at q3 ⊢
    exact hd s σ2 A2 F3 H3 E3 q3
/-! ### lists changed in place -/
theorem own_turn {σ : St} {A : Nat → List Addr} {F : Rg} {H : Hp} {i : Nat} {l : List X} {a : Addr} {vs : List V} {l' : List X} {vs' : List V} (E : Env G sl σ A F H) (hi : sl[i]? = some (.own l)) (hv : σ[i]? = some (some (.ref a))) (ha : H a = some (.lst vs)) (hA : A i = [a]) (hl : RpL G.C F H vs' l') :
    Env G (sl.set i (.own l')) σ A F (upd H a (.lst vs')) ∧ Gk A F H F (upd H a (.lst vs')) := by
  have hil : i < sl.length := (List.getElem?_eq_some_iff.mp hi).1
  have na : ¬ F a := (E.fr i a (by rw [hA]; simp)).1
  have g : Ge F H F (upd H a (.lst vs')) := fun b o f e => ⟨f, by
    have nb : b ≠ a := fun z => na (by rw [← z]; exact f)
    rw [upd_ne nb]; exact e⟩
  refine ⟨E.turn hil hv g ⟨a, vs', rfl, hA, upd_same, RpL.mono g hl⟩ (fun b o hb e => ?_) (fun b f => .inl f) (fun b f => f) (fun b e => ?_) (fun b f => ?_), g, fun b o hb e => ?_, fun b e => ?_, fun b f => .inl f⟩
  · have nb : b ≠ a := fun z => hb (by rw [hA, z]; simp)
    rw [upd_ne nb]; exact e
  · by_cases nb : b = a
    · subst nb; rw [upd_same] at e; cases e
    · rw [upd_ne nb] at e; exact e
  · have nb : b ≠ a := fun z => na (by rw [← z]; exact f)
    rw [upd_ne nb]; exact E.ok.al b f
  · have nb : b ≠ a := fun z => hb i (by rw [hA, z]; simp)
    rw [upd_ne nb]; exact e
  · by_cases nb : b = a
    · subst nb; rw [upd_same] at e; cases e
    · rw [upd_ne nb] at e; exact e
theorem Env.ownL {σ : St} {A : Nat → List Addr} {F : Rg} {H : Hp} {i : Nat} {l : List X} (E : Env G sl σ A F H) (hi : sl[i]? = some (.own l)) : ∃ a vs, σ[i]? = some (some (.ref a)) ∧ H a = some (.lst vs) ∧ A i = [a] ∧ RpL G.C F H vs l := by
  obtain ⟨v, h1, a, vs, rfl, h2, h3, h4⟩ := E.own hi
  exact ⟨a, vs, h1, h3, h2, h4⟩
theorem reg_append {te : TE} {i : Nat} {l : List X} {m : PT X} (hi : sl[i]? = some (.own l)) (h : RE G sl te m) : REG G sl (tBM K "list" rAppend (tVar i) (tCons te tNil)) (fun y => sl.set i (.own (l ++ [y]))) (fun _ => ()) (fun Q => m fun y => Sz (l.length + 1) ∧ Q y) := fun σ A F H Qp Q E hm k => by
  obtain ⟨a, vs, h1, h2, h3, h4⟩ := E.ownL hi
  refine ⟨_, h1, .inl ⟨rfl, _, SqL.of h2⟩, h σ A F H _ _ E hm fun y u F1 H1 q1 g1 E1 r1 => ?_⟩
  obtain ⟨a', vs', h1', h2', h3', h4'⟩ := E1.ownL hi
  rw [h1] at h1'
  cases h1'
  obtain ⟨E2, g2⟩ := own_turn E1 hi h1 h2' h3' (RpL.append h4' ⟨r1, trivial⟩ : RpL G.C F1 H1 (vs' ++ [u]) (l ++ [y]))
  exact ⟨a, vs', u, rfl, rfl, h2', by rw [h4'.length]; have := q1.1.lt; omega, k y _ _ _ q1.2 (g1.trans g2) E2 rfl⟩
theorem reg_extend {te : TE} {i : Nat} {l : List X} {m : PT (List X)} (hi : sl[i]? = some (.own l)) (h : RE G sl te m) : REG G sl (tBM K "list" rExtend (tVar i) (tCons te tNil)) (fun ys => sl.set i (.own (l ++ ys))) (fun _ => ()) (fun Q => m fun ys => Sz (l.length + ys.length) ∧ Q ys) := fun σ A F H Qp Q E hm k => by
  obtain ⟨a, vs, h1, h2, h3, h4⟩ := E.ownL hi
  refine ⟨_, h1, .inl ⟨rfl, _, SqL.of h2⟩, h σ A F H _ _ E hm fun y u F1 H1 q1 g1 E1 r1 => ?_⟩
  obtain ⟨a', vs', h1', h2', h3', h4'⟩ := E1.ownL hi
  rw [h1] at h1'
  cases h1'
  obtain ⟨b, ws, rfl, f, hb, hl⟩ := r1
  obtain ⟨E2, g2⟩ := own_turn E1 hi h1 h2' h3' (RpL.append h4' hl : RpL G.C F1 H1 (vs' ++ ws) (l ++ y))
  exact ⟨a, b, vs', ws, rfl, rfl, h2', hb, by rw [h4'.length, hl.length]; exact q1.1.le, k y _ _ _ q1.2 (g1.trans g2) E2 rfl⟩
theorem reg_pop {i : Nat} {l : List X} (hi : sl[i]? = some (.own l)) : REG G sl (tBM0 K "list" rPop (tVar i)) (fun _ => sl.set i (.own l.dropLast)) (fun y => y) (fun Q => ∃ y, l[l.length - 1]? = some y ∧ Q y) := fun σ A F H Qp Q E hm k => by
  obtain ⟨a, vs, h1, h2, h3, h4⟩ := E.ownL hi
  obtain ⟨y, e, q⟩ := hm
  obtain ⟨u, e1, r1⟩ := h4.get' e
  have hd : RpL G.C F H vs.dropLast l.dropLast := by
    rw [List.dropLast_eq_take, List.dropLast_eq_take, h4.length]; exact h4.take _
  obtain ⟨E2, g2⟩ := own_turn E hi h1 h2 h3 hd
  exact ⟨_, h1, .inl ⟨rfl, _, SqL.of h2⟩, a, vs, u, rfl, rfl, h2, by rw [h4.length]; exact e1, k y _ _ _ q g2 E2 (Rp.mono g2.ge r1)⟩
theorem reg_popAt {te : TE} {i : Nat} {l : List X} {m : PT Int} (hi : sl[i]? = some (.own l)) (h : RE G sl te m) : REG G sl (tBM K "list" rPopAt (tVar i) (tCons te tNil)) (fun b : Nat × X => sl.set i (.own (l.eraseIdx b.1))) (fun b => b.2) (fun Q => m fun n => ∃ k y, (0 ≤ n ∧ n < 2 ^ 62 ∧ n.toNat = k) ∧ l[k]? = some y ∧ Q (k, y)) := fun σ A F H Qp Q E hm k => by
  obtain ⟨a, vs, h1, h2, h3, h4⟩ := E.ownL hi
  refine ⟨_, h1, .inl ⟨rfl, _, SqL.of h2⟩, h σ A F H _ _ E hm fun n u F1 H1 q1 g1 E1 r1 => ?_⟩
  obtain ⟨a', vs', h1', h2', h3', h4'⟩ := E1.ownL hi
  rw [h1] at h1'
  cases h1'
  obtain ⟨j, y, ⟨c1, c2, rfl⟩, e, q⟩ := q1
  obtain ⟨w, e1, r2⟩ := h4'.get' e
  obtain ⟨E2, g2⟩ := own_turn E1 hi h1 h2' h3' (h4'.erase n.toNat)
  have hjl : n.toNat < l.length := (List.getElem?_eq_some_iff.mp e).1
  subst r1
  refine ⟨a, vs', n, n.toNat, w, rfl, rfl, h2', by omega, by omega, ?_, e1, k (n.toNat, y) _ _ _ q (g1.trans g2) E2 (Rp.mono g2.ge r2)⟩
  rw [h4'.length]
  unfold seqIndex?
  have c3 : ¬ n < 0 := by omega
  simp only [c3, if_false]
  rw [if_pos (by simp only [Bool.and_eq_true, decide_eq_true_eq]; omega)]
theorem rb_setitem {ti te : TE} {i : Nat} {l : List X} {m : PT X} {n : PT Int} {w : X → Nat → Prop} (hi : sl[i]? = some (.own l)) (h : RE G sl te m) (h' : RE G sl ti n) (k : ∀ y j, RB G (sl.set i (.own (l.set j y))) D.nx (w y j)) :
    RB G sl (tAsg te (gSub (tVar i) ti rSetL) D) (m fun y => n fun z => ∃ j, ixN l.length z = some j ∧ w y j) := fun σ A F H E hm =>
  h σ A F H _ _ E hm fun y u F1 H1 q1 g1 E1 r1 => by
    obtain ⟨a, vs, h1, h2, h3, h4⟩ := E1.ownL hi
    refine ⟨_, h1, h' σ A F1 H1 _ _ E1 q1 fun z u2 F2 H2 q2 g2 E2 r2 => ?_⟩
    obtain ⟨a', vs', h1', h2', h3', h4'⟩ := E2.ownL hi
    rw [h1] at h1'
    cases h1'
    obtain ⟨j, e, q⟩ := q2
    subst r2
    obtain ⟨E3, g3⟩ := own_turn E2 hi h1 h2' h3' (RpL.set (Rp.mono g2.ge r1) j h4')
    exact ⟨a, vs', z, j, rfl, rfl, h2', by rw [h4'.length]; exact e, k y j σ A F2 _ E3 q⟩
/-- l[i] op= e -/
theorem rb_augS {ti te : TE} {i : Nat} {l : List Int} {f : Int → Int → Int} {m n : PT Int} {w : Nat → Int → Prop} (hi : sl[i]? = some (.own l)) (h : RE G sl ti n) (h' : RE G sl te m) (k : ∀ j y, RB G (sl.set i (.own (l.set j (f (l.getD j 0) y)))) D.nx (w j y)) :
    RB G sl (tAugS (tVar i) ti te (rGetL K) (ipI f) rSetL D) (n fun z => (0 ≤ z ∧ z.toNat < l.length) ∧ m fun y => w z.toNat y) := fun σ A F H E hm => by
  obtain ⟨a, vs, h1, h2, h3, h4⟩ := E.ownL hi
  refine ⟨_, h1, h σ A F H _ _ E hm fun z u F1 H1 q1 g1 E1 r1 => ?_⟩
  subst r1
  obtain ⟨a', vs', h1', h2', h3', h4'⟩ := E1.ownL hi
  rw [h1] at h1'
  cases h1'
  have e1 : vs'[z.toNat]? = some (.int (l.getD z.toNat 0)) := by
    rw [h4'.ints, List.getElem?_map, List.getD_eq_getElem?_getD, List.getElem?_eq_getElem q1.1.2]; rfl
  refine i_getL h2' q1.1.1 e1 (h' σ A F1 H1 _ _ E1 q1.2 fun y u F2 H2 q2 g2 E2 r2 => ?_)
  subst r2
  refine i_ipI ?_
  obtain ⟨a', vs2, h1', h2', h3', h4'⟩ := E2.ownL hi
  rw [h1] at h1'
  cases h1'
  obtain ⟨E3, g3⟩ := own_turn E2 hi h1 h2' h3' (RpL.set (x := f (l.getD z.toNat 0) y) (v := .int (f (l.getD z.toNat 0) y)) rfl z.toNat h4')
  refine ⟨a, vs2, z, z.toNat, rfl, rfl, h2', ?_, k _ y σ A F2 _ E3 q2⟩
  rw [h4'.length]
  unfold ixN
  rw [if_pos q1.1.1, if_pos (by omega)]
/-- x op= e -/
theorem rb_aug {te : TE} {i : Nat} {x : Int} {f : Int → Int → Int} {m : PT Int} {w : Int → Prop} (hi : sl[i]? = some (.dat x)) (h : RE G sl te m) (n : NotOwn sl i) (k : ∀ y, RB G (sl.set i (.dat (f x y))) D.nx (w y)) : RB G sl (tAug i te (ipI f) D) (m w) := fun σ A F H E hm => by
  obtain ⟨v, h1, h2⟩ := E.dat hi
  refine ⟨v, h1, h σ A F H _ _ E hm fun y u F1 H1 q1 g1 E1 r1 => ?_⟩
  subst h2 r1
  exact i_ipI (k y _ A F1 H1 (E1.put (s := .dat (f x y)) ⟨rfl, _, rfl, rfl⟩ n) q1)
/-- a list of one's own is from now on only looked at -/
theorem rb_freeze {i : Nat} {l : List X} {p : St → Hp → Prop} {w : Prop} (hi : sl[i]? = some (.own l)) (hp : ∀ q, G.pin = some q → q.1 ≠ i) (k : RB G (sl.set i (.dat l)) p w) : RB G sl p w := fun σ A F H E hw => by
  obtain ⟨a, vs, h1, h2, h3, h4⟩ := E.ownL hi
  have hil : i < sl.length := (List.getElem?_eq_some_iff.mp hi).1
  have g : Ge F H (fun b => F b ∨ b = a) H := fun b o f e => ⟨.inl f, e⟩
  have ha : a ∈ A i := by rw [h3]; simp
  refine k σ (upA A i []) (fun b => F b ∨ b = a) H ⟨by rw [List.length_set]; exact E.len, fun j t ht => ?_, fun j hj => ?_, fun j l hjl b h5 h6 => ?_, fun j b h5 => ?_, ⟨fun b f => .inl (E.ok.sub b f), fun b f => ?_, E.ok.keep, E.ok.live, fun b f => ?_⟩, fun q e => ?_⟩ hw
  · by_cases hj : i = j
    · subst hj
      rw [List.getElem?_set_self hil] at ht
      cases ht
      exact ⟨_, h1, by rw [upA_same]; exact ⟨rfl, _, rfl, a, vs, rfl, .inr rfl, h2, RpL.mono g h4⟩⟩
    · rw [List.getElem?_set_ne hj] at ht
      rw [upA_ne (Ne.symm hj)]
      obtain ⟨o, h5, h6⟩ := E.sls j t ht
      exact ⟨o, h5, h6.mono g fun _ _ _ e => e⟩
  · rw [List.length_set] at hj
    rw [upA_ne (by omega)]
    exact E.out j hj
  · by_cases e1 : j = i
    · subst e1; rw [upA_same] at h5; cases h5
    · rw [upA_ne e1] at h5
      by_cases e2 : l = i
      · subst e2; rw [upA_same] at h6; cases h6
      · rw [upA_ne e2] at h6; exact E.dj j l hjl b h5 h6
  · by_cases e1 : j = i
    · subst e1; rw [upA_same] at h5; cases h5
    · rw [upA_ne e1] at h5
      refine ⟨fun f => ?_, (E.fr j b h5).2⟩
      rcases f with f | rfl
      · exact (E.fr j b h5).1 f
      · exact E.dj j i e1 b h5 ha
  · rcases f with f | rfl
    · exact E.ok.new b f
    · exact .inr ((E.fr i b ha).2.symm)
  · rcases f with f | rfl
    · exact E.ok.al b f
    · rw [h2]; exact fun z => by cases z
  · obtain ⟨h5, h6, s, h7, h8⟩ := E.pn q e
    have n := hp q e
    rw [upA_ne n, List.getElem?_set_ne (Ne.symm n)]
    exact ⟨h5, h6, s, h7, h8⟩
end
end QV

namespace QV
open PySem L2 QW
/-! ### a def's promise from its body -/
def unS (n : Nat) : List Sl := List.replicate n .un
section
variable {C : CA}
theorem args_len {F : Rg} {H : Hp} : ∀ {args : List Sl} {vs : List V} {as : List Addr}, ArgsOk C F H args vs as → vs.length = args.length
  | [], [], _, _ => rfl
  | @Sl.dat X i x :: args, v :: vs, as, h => by simp [args_len h.2]
  | @Sl.own X i x :: args, v :: vs, as, h => by
    obtain ⟨bs, cs, _, _, h⟩ := h
    simp [args_len h]
  | [], _ :: _, _, h => h.elim
  | .un :: _, _, _, h => by cases h
  | @Sl.dat X i x :: _, [], _, h => h.elim
  | @Sl.own X i x :: _, [], _, h => h.elim
/-- how many own ones -/
def nOwn : List Sl → Nat
  | [] => 0
  | s :: sl => (if s.isOwn then 1 else 0) + nOwn sl
theorem args_none {F : Rg} {H : Hp} : ∀ {args : List Sl} {vs : List V} {as : List Addr}, ArgsOk C F H args vs as → nOwn args = 0 → as = [] ∧ ∀ (i : Nat) (s : Sl), args[i]? = some s → ∃ v : V, vs[i]? = some v ∧ SlOk C F H s (some v) []
  | [], [], _, h, _ => ⟨h, fun (i : Nat) (s : Sl) e => by simp at e⟩
  | @Sl.dat X i x :: args, v :: vs, as, h, n => by
    have n' : nOwn args = 0 := by simpa [nOwn, Sl.isOwn] using n
    obtain ⟨h1, h2⟩ := args_none h.2 n'
    refine ⟨h1, fun i s e => ?_⟩
    cases i with
    | zero => simp at e; subst e; exact ⟨v, rfl, rfl, v, rfl, h.1⟩
    | succ i => simpa using h2 i s (by simpa using e)
  | @Sl.own X i x :: args, v :: vs, as, h, n => by
    have : 1 + nOwn args = 0 := n
    omega
  | [], _ :: _, _, h, _ => h.elim
  | .un :: _, _, _, h, _ => by cases h
  | @Sl.dat X i x :: _, [], _, h, _ => h.elim
  | @Sl.own X i x :: _, [], _, h, _ => h.elim
theorem args_one {F : Rg} {H : Hp} : ∀ {args : List Sl} {vs : List V} {as : List Addr} {j : Nat} {so : Sl}, ArgsOk C F H args vs as → nOwn args = 1 → args[j]? = some so → so.isOwn = true → ∀ (i : Nat) (s : Sl), args[i]? = some s → ∃ v : V, vs[i]? = some v ∧ SlOk C F H s (some v) (if i = j then as else [])
  | [], [], _, _, _, h, n, _, _ => by simp [nOwn] at n
  | @Sl.dat X i x :: args, v :: vs, as, j, so, h, n, hj, ho => by
    have n' : nOwn args = 1 := by simpa [nOwn, Sl.isOwn] using n
    cases j with
    | zero => simp at hj; subst hj; cases ho
    | succ j =>
      have ih := args_one h.2 n' (by simpa using hj) ho
      intro i s e
      cases i with
      | zero => simp at e; subst e; exact ⟨v, rfl, by rw [if_neg (by omega)]; exact ⟨rfl, v, rfl, h.1⟩⟩
      | succ i =>
        obtain ⟨w, h1, h2⟩ := ih i s (by simpa using e)
        refine ⟨w, by simpa using h1, ?_⟩
        by_cases z : i = j
        · rw [if_pos z] at h2; rw [if_pos (by omega)]; exact h2
        · rw [if_neg z] at h2; rw [if_neg (by omega)]; exact h2
  | @Sl.own X i x :: args, v :: vs, as, j, so, h, n, hj, ho => by
    obtain ⟨bs, cs, e, hw, h⟩ := h
    have n' : nOwn args = 0 := by simp [nOwn, Sl.isOwn] at n; omega
    obtain ⟨h1, h2⟩ := args_none h n'
    subst h1
    rw [List.append_nil] at e
    subst e
    have hj0 : j = 0 := by
      cases j with
      | zero => rfl
      | succ j =>
        obtain ⟨w, h3, h4⟩ := h2 j so (by simpa using hj)
        cases so with
        | un => cases ho
        | dat x => cases ho
        | own x =>
          exfalso
          have : ∀ (l : List Sl) (k : Nat) (s : Sl), l[k]? = some s → s.isOwn = true → nOwn l ≠ 0 := by
            intro l
            induction l with
            | nil => intro k s e; simp at e
            | cons t l ih =>
              intro k s e hs
              cases k with
              | zero => simp at e; subst e; simp [nOwn, hs]
              | succ k => have := ih k s (by simpa using e) hs; simp only [nOwn]; omega
          exact this args j _ (by simpa using hj) rfl n'
    subst hj0
    intro i s e
    cases i with
    | zero => simp at e; subst e; exact ⟨v, rfl, by rw [if_pos rfl]; exact ⟨v, rfl, hw⟩⟩
    | succ i =>
      obtain ⟨w, h1, h2⟩ := h2 i s (by simpa using e)
      exact ⟨w, by simpa using h1, by rw [if_neg (by omega)]; exact h2⟩
  | [], _ :: _, _, _, _, h, _, _, _ => h.elim
  | .un :: _, _, _, _, _, h, _, _, _ => by cases h
  | @Sl.dat X i x :: _, [], _, _, _, h, _, _, _ => h.elim
  | @Sl.own X i x :: _, [], _, _, _, h, _, _, _ => h.elim
theorem start_len {N : List Str} {vs : List V} (h : vs.length ≤ N.length) : (L2.start N vs).length = N.length := by
  unfold L2.start
  rw [List.length_append, List.length_map, List.length_replicate]; omega
theorem start_get {N : List Str} {vs : List V} {i : Nat} {v : V} (h : vs[i]? = some v) : (L2.start N vs)[i]? = some (some v) := by
  have hi : i < vs.length := (List.getElem?_eq_some_iff.mp h).1
  unfold L2.start
  rw [List.getElem?_append_left (by rw [List.length_map]; exact hi), List.getElem?_map, h]; rfl
theorem un_get {args : List Sl} {n i : Nat} {s : Sl} (h : (args ++ unS n)[i]? = some s) : args[i]? = some s ∨ (s = .un ∧ args.length ≤ i ∧ i < args.length + n) := by
  by_cases hi : i < args.length
  · rw [List.getElem?_append_left hi] at h; exact .inl h
  · rw [List.getElem?_append_right (by omega)] at h
    unfold unS at h
    have h2 := (List.getElem?_eq_some_iff.mp h)
    obtain ⟨h3, h4⟩ := h2
    rw [List.getElem_replicate] at h4
    rw [List.length_replicate] at h3
    exact .inr ⟨h4.symm, by omega, by omega⟩
theorem env_start {F : Rg} {H : Hp} {args : List Sl} {vs : List V} {N : List Str} {n : Nat} (h : ArgsOk C F H args vs []) (no : nOwn args = 0) (ha : ∀ b, F b → H b ≠ none) (hn : N.length = args.length + n) : Env ⟨C, H, F, fun _ => False, none⟩ (args ++ unS n) (L2.start N vs) (fun _ => []) F H := by
  have hl := args_len h
  obtain ⟨_, h2⟩ := args_none h no
  refine ⟨by rw [start_len (by omega), List.length_append, hn]; unfold unS; rw [List.length_replicate], fun i s e => ?_, fun _ _ => rfl, fun _ _ _ _ z => (List.not_mem_nil z).elim, fun _ _ z => (List.not_mem_nil z).elim, ⟨fun _ f => f, fun _ f => .inl f, fun _ _ _ e => e, fun _ e => e, ha⟩, fun p e => by cases e⟩
  rcases un_get e with e | ⟨rfl, e1, e2⟩
  · obtain ⟨v, h3, h4⟩ := h2 i s e
    exact ⟨_, start_get h3, h4⟩
  · have : i < (L2.start N vs).length := by rw [start_len (by omega)]; omega
    exact ⟨_, List.getElem?_eq_getElem this, rfl⟩
theorem env_startO {F : Rg} {H : Hp} {args : List Sl} {vs : List V} {N : List Str} {n : Nat} {as : List Addr} {j : Nat} {so : Sl} {w : V} (h : ArgsOk C F H args vs as) (no : nOwn args = 1) (hj : args[j]? = some so) (ho : so.isOwn = true) (hw : vs[j]? = some w) (ha : ∀ b, F b → H b ≠ none) (hf : ∀ a ∈ as, ¬ F a) (hn : N.length = args.length + n) :
    Env ⟨C, H, F, fun a => a ∈ as, some (j, w, as)⟩ (args ++ unS n) (L2.start N vs) (fun i => if i = j then as else []) F H := by
  have hl := args_len h
  have h2 := args_one h no hj ho
  have hjl : j < args.length := (List.getElem?_eq_some_iff.mp hj).1
  refine ⟨by rw [start_len (by omega), List.length_append, hn]; unfold unS; rw [List.length_replicate], fun i s e => ?_, fun i hi => ?_, fun i k hik a h3 h4 => ?_, fun i a h3 => ?_, ⟨fun _ f => f, fun _ f => .inl f, fun _ _ _ e => e, fun _ e => e, ha⟩, fun p e => ?_⟩
  · rcases un_get e with e | ⟨rfl, e1, e2⟩
    · obtain ⟨v, h3, h4⟩ := h2 i s e
      exact ⟨_, start_get h3, h4⟩
    · have : i < (L2.start N vs).length := by rw [start_len (by omega)]; omega
      exact ⟨_, List.getElem?_eq_getElem this, by rw [if_neg (by omega)]; rfl⟩
  · rw [List.length_append] at hi
    show (if i = j then as else []) = []
    rw [if_neg (by omega)]
  · by_cases e1 : i = j
    · rw [if_neg (by omega)] at h4; cases h4
    · rw [if_neg e1] at h3; cases h3
  · by_cases e1 : i = j
    · rw [if_pos e1] at h3; exact ⟨hf a h3, .inl h3⟩
    · rw [if_neg e1] at h3; cases h3
  · cases e
    exact ⟨start_get hw, if_pos rfl, so, by rw [List.getElem?_append_left hjl]; exact hj, ho⟩
/-- what follows where a def's text ends: None -/
def NxA (G : Gx) (D : Ends) {R : Type} [Rp R] (k : R → Prop) : Prop := ∀ sl (r : R), (∀ F H, Rp.rp G.C F H .non r) → RB G sl D.nx (k r)
/-- a def all of whose arguments are looked at -/
theorem def_A {R : Type} [Rp R] {wa : List Sl → PT R} {t : TS} {N : List Str} {vs : List V} {H : Hp} {Q : VK} {E : XK} (h : SpA C wa vs H Q E)
    (ok : ∀ args Qp, wa args Qp → nOwn args = 0 ∧ ∃ n, N.length = args.length + n ∧ ∃ W : Prop, W ∧ ∀ (H0 : Hp) (F0 : Rg) (D : Ends), RtA ⟨C, H0, F0, noW, none⟩ D.rt Qp → NxA ⟨C, H0, F0, noW, none⟩ D Qp → RB ⟨C, H0, F0, noW, none⟩ (args ++ unS n) (t D) W) :
    t { nx := fun _ H' => Q .non H', rt := Q } (L2.start N vs) H := by
  obtain ⟨args, F, Qp, ha, hl, hw, k⟩ := h
  obtain ⟨no, n, hn, W, hW, hb⟩ := ok args Qp hw
  have E0 := env_start ha no hl hn
  exact hb H F { nx := fun _ H' => Q .non H', rt := Q } (fun sl σ A F' H' r v E' rr hr => k r v F' H' hr E'.ok rr) (fun sl r hz σ A F' H' E' hr => k r .non F' H' hr E'.ok (hz _ _)) _ _ _ _ E0 hW
theorem def_N {R : Type} [Ow R] {wa : List Sl → PT R} {t : TS} {N : List Str} {vs : List V} {H : Hp} {Q : VK} {E : XK} (h : SpN C wa vs H Q E)
    (ok : ∀ args Qp, wa args Qp → nOwn args = 0 ∧ ∃ n, N.length = args.length + n ∧ ∃ W : Prop, W ∧ ∀ (H0 : Hp) (F0 : Rg) (D : Ends), RtN ⟨C, H0, F0, noW, none⟩ D.rt Qp → RB ⟨C, H0, F0, noW, none⟩ (args ++ unS n) (t D) W) :
    t { nx := fun _ H' => Q .non H', rt := Q } (L2.start N vs) H := by
  obtain ⟨args, F, Qp, ha, hl, hw, k⟩ := h
  obtain ⟨no, n, hn, W, hW, hb⟩ := ok args Qp hw
  have E0 := env_start ha no hl hn
  exact hb H F { nx := fun _ H' => Q .non H', rt := Q } (fun sl σ A F' H' r v as E' rr hf hr => k r v F' H' as hr E'.ok rr fun a ha => ⟨(hf a ha).1, (hf a ha).2.elim (fun z => z.elim) id⟩) _ _ _ _ E0 hW
def NxO (G : Gx) (j : Nat) (D : Ends) {R W : Type} [Rp R] [Ow W] (k : R → W → Prop) : Prop := ∀ sl (r : R) (y : W), (∀ F H, Rp.rp G.C F H .non r) → sl[j]? = some (.own y) → RB G sl D.nx (k r y)
/-- a def that turns its argument at place j -/
theorem def_O {R Y : Type} [Rp R] [Ow Y] {j : Nat} {wa : List Sl → (R → Y → Prop) → Prop} {t : TS} {N : List Str} {vs : List V} {H : Hp} {Q : VK} {E : XK} (h : SpO C j wa vs H Q E)
    (ok : ∀ args Qp, wa args Qp → nOwn args = 1 ∧ (∃ y : Y, args[j]? = some (.own y)) ∧ ∃ n, N.length = args.length + n ∧ ∃ W : Prop, W ∧ ∀ (H0 : Hp) (F0 : Rg) (w : V) (as : List Addr) (D : Ends), RtO ⟨C, H0, F0, fun a => a ∈ as, some (j, w, as)⟩ D.rt Qp → NxO ⟨C, H0, F0, fun a => a ∈ as, some (j, w, as)⟩ j D Qp →
      RB ⟨C, H0, F0, fun a => a ∈ as, some (j, w, as)⟩ (args ++ unS n) (t D) W) :
    t { nx := fun _ H' => Q .non H', rt := Q } (L2.start N vs) H := by
  obtain ⟨args, F, as, w, Qp, ha, hw', hl, hf, hw, k⟩ := h
  obtain ⟨no, ⟨y, hy⟩, n, hn, W, hW, hb⟩ := ok args Qp hw
  have E0 := env_startO ha no hy rfl hw' hl hf hn
  have fin : ∀ sl σ A F' H' (r : R) v (y : Y), Env ⟨C, H, F, fun a => a ∈ as, some (j, w, as)⟩ sl σ A F' H' → sl[j]? = some (.own y) → Rp.rp C F' H' v r → Qp r y → Q v H' := fun sl σ A F' H' r v y E' hy rr hr => by
    obtain ⟨h1, h2, _⟩ := E'.pn _ rfl
    obtain ⟨u, h3, h4⟩ := E'.own hy
    have e1 : u = w := by
      have h1' : σ[j]? = some (some w) := h1
      rw [h3] at h1'
      exact Option.some.inj (Option.some.inj h1')
    have e2 : A j = as := h2
    rw [e1, e2] at h4
    exact k r y v F' H' hr E'.ok (fun a ha => (E'.fr j a (by rw [e2]; exact ha)).1) h4 rr
  exact hb H F w as { nx := fun _ H' => Q .non H', rt := Q } (fun sl σ A F' H' r v y p E' hp hy rr hr => by cases hp; exact fin sl σ A F' H' r v y E' hy rr hr) (fun sl r y hz hy σ A F' H' E' hr => fin sl σ A F' H' r .non y E' hy (hz _ _) hr) _ _ _ _ E0 hW
theorem def_P {R Y : Type} [Ow R] [Ow Y] {j : Nat} {wa : List Sl → (R → Y → Prop) → Prop} {t : TS} {N : List Str} {vs : List V} {H : Hp} {Q : VK} {E : XK} (h : SpP C j wa vs H Q E)
    (ok : ∀ args Qp, wa args Qp → nOwn args = 1 ∧ (∃ y : Y, args[j]? = some (.own y)) ∧ ∃ n, N.length = args.length + n ∧ ∃ W : Prop, W ∧ ∀ (H0 : Hp) (F0 : Rg) (w : V) (as : List Addr) (D : Ends), RtP ⟨C, H0, F0, fun a => a ∈ as, some (j, w, as)⟩ D.rt Qp →
      RB ⟨C, H0, F0, fun a => a ∈ as, some (j, w, as)⟩ (args ++ unS n) (t D) W) :
    t { nx := fun _ H' => Q .non H', rt := Q } (L2.start N vs) H := by
  obtain ⟨args, F, as, w, Qp, ha, hw', hl, hf, hw, k⟩ := h
  obtain ⟨no, ⟨y, hy⟩, n, hn, W, hW, hb⟩ := ok args Qp hw
  have E0 := env_startO ha no hy rfl hw' hl hf hn
  refine hb H F w as { nx := fun _ H' => Q .non H', rt := Q } (fun sl σ A F' H' r v y p bs E' hp hy rr fb nb hr => ?_) _ _ _ _ E0 hW
  cases hp
  obtain ⟨h1, h2, _⟩ := E'.pn _ rfl
  obtain ⟨u, h3, h4⟩ := E'.own hy
  have e1 : u = w := by
    have h1' : σ[j]? = some (some w) := h1
    have h3' : σ[j]? = some (some u) := h3
    rw [h3'] at h1'
    exact Option.some.inj (Option.some.inj h1')
  have e2 : A j = as := h2
  have h4' : Ow.ow C F' H' (A j) u y := h4
  rw [e1, e2] at h4'
  exact k r y v F' H' bs hr E'.ok (fun a ha => (E'.fr j a (by rw [e2]; exact ha)).1) h4' rr fun a ha => ⟨(fb a ha).1, (fb a ha).2.elim (fun z => absurd z (nb a ha)) id⟩
end
/-! ### the law's dice: a list that draws change -/
inductive Dice where
  | mk
instance : Subsingleton Dice := ⟨fun a b => by cases a; cases b; rfl⟩
end QV

namespace QV
open PySem L2 QW
abbrev GA (C : CA) (H0 : Hp) (F0 : Rg) : Gx := ⟨C, H0, F0, noW, none⟩
abbrev GO (C : CA) (H0 : Hp) (F0 : Rg) (j : Nat) (w : V) (as : List Addr) : Gx := ⟨C, H0, F0, fun a => a ∈ as, some (j, w, as)⟩
@[reducible] def pAnd (m n : PT Bool) : PT Bool := fun Q => m fun a => if a = true then n Q else Q false
@[reducible] def pOr (m n : PT Bool) : PT Bool := fun Q => m fun a => if a = true then Q true else n Q
@[reducible] def pIf {X : Type} (c : PT Bool) (m n : PT X) : PT X := fun Q => c fun b => if b = true then m Q else n Q
@[reducible] def pMax (p : List Int) : PT Int := fun Q => 0 < p.length ∧ ∀ z, z ∈ p → (∀ y ∈ p, y ≤ z) → Q z
@[reducible] def pMin (p : List Int) : PT Int := fun Q => 0 < p.length ∧ ∀ z, z ∈ p → (∀ y ∈ p, z ≤ y) → Q z
@[reducible] def pRng3 (a b c : Int) : PT (List Int) := fun Q => ∃ k, RgC a b c k ∧ Q (rngC a c k)
@[reducible] def pJoin {S : Type} (b : (S → Prop) → Prop) (k : S → Prop) : Prop := b k
abbrev RgB (n : Int) : Prop := -(2 ^ 62) ≤ n ∧ n < 2 ^ 62
abbrev RgB2 (a b : Int) : Prop := -(2 ^ 62) ≤ a ∧ a < 2 ^ 62 ∧ -(2 ^ 62) ≤ b ∧ b < 2 ^ 62
abbrev LcmOk (i j : Int) : Prop := 0 < i ∧ 0 < j ∧ i.natAbs.log2 < 13000 ∧ j.natAbs.log2 < 13000
section
variable {G : Gx} {sl : List Sl} {X Y Z R : Type} [Rp X] [Rp Y] [Rp Z] [Rp R] {K : PySem.W.Frag} {C : CA} {D : Ends}
theorem re_imp {te : TE} {m m' : PT X} (h : RE G sl te m) (i : ∀ Q, m' Q → m Q) : RE G sl te m' := fun σ A F H Qp Q E hm k => h σ A F H Qp Q E (i _ hm) k
theorem ro_imp {W : Type} [Ow W] {te : TE} {m m' : PT W} (h : RO G sl te m) (i : ∀ Q, m' Q → m Q) : RO G sl te m' := fun σ A F H Qp Q E hm k => h σ A F H Qp Q E (i _ hm) k
theorem re_hat {te : TE} {m : PT X} (h : RE G sl te m) : RE G sl te (fun Q' => ∃ Q, m Q ∧ ∀ a, Q a → Q' a) := fun σ A F H Qp Q E ⟨Q0, hm, hi⟩ k => h σ A F H Q0 Q E hm fun x v F' H' q g E' r => k x v F' H' (hi x q) g E' r
theorem re_pl {te : TE} {m : PT X} {x : X} (h : RE G sl te m) (i : ∀ Q : X → Prop, Q x → m Q) : RE G sl te (pR x) := re_imp h i
theorem rc_imp {tt : TT} {m m' : PT Bool} (h : RC G sl tt m) (i : ∀ Q, m' Q → m Q) : RC G sl tt m' := fun σ A F H Qp Q E hm k => h σ A F H Qp Q E (i _ hm) k
theorem ro_hat {W : Type} [Ow W] {te : TE} {m : PT W} (h : RO G sl te m) : RO G sl te (fun Q' => ∃ Q, m Q ∧ ∀ a, Q a → Q' a) := fun σ A F H Qp Q E ⟨Q0, hm, hi⟩ k => h σ A F H Q0 Q E hm fun x v F' H' as q g E' r => k x v F' H' as (hi x q) g E' r
theorem re_and_v {ta tb : TE} {a b : Bool} {ma mb : PT Bool} (ha : RE G sl ta ma) (hb : RE G sl tb mb) (ia : ∀ Q : Bool → Prop, Q a → ma Q := by exact fun _ h => h) (ib : ∀ Q : Bool → Prop, Q b → mb Q := by exact fun _ h => h) : RE G sl (tAndV ta tb) (pR (a && b)) := re_imp (re_and (re_pl ha ia) (re_pl hb ib)) fun Q h => by
  cases a with
  | true => exact h
  | false => exact h
theorem re_or_v {ta tb : TE} {a b : Bool} {ma mb : PT Bool} (ha : RE G sl ta ma) (hb : RE G sl tb mb) (ia : ∀ Q : Bool → Prop, Q a → ma Q := by exact fun _ h => h) (ib : ∀ Q : Bool → Prop, Q b → mb Q := by exact fun _ h => h) : RE G sl (tOrV ta tb) (pR (a || b)) := re_imp (re_or (re_pl ha ia) (re_pl hb ib)) fun Q h => by
  cases a with
  | true => exact h
  | false => exact h
theorem re_if_v {t : TT} {ta tb : TE} {c : Bool} {x y : X} {mc : PT Bool} {ma mb : PT X} (hc : RC G sl t mc) (ha : RE G sl ta ma) (hb : RE G sl tb mb) (ic : ∀ Q : Bool → Prop, Q c → mc Q := by exact fun _ h => h) (ia : ∀ Q : X → Prop, Q x → ma Q := by exact fun _ h => h) (ib : ∀ Q : X → Prop, Q y → mb Q := by exact fun _ h => h) : RE G sl (tIf t ta tb) (pR (if c = true then x else y)) := re_imp (re_if (rc_imp (m' := pR c) hc ic) (re_pl ha ia) (re_pl hb ib)) fun Q h => by
  cases c with
  | true => exact h
  | false => exact h
theorem re_chain_v {r r' : R2} {f : X → Y → Bool} {g : Y → Z → Bool} {ta tb tc : TE} {x : X} {y : Y} {z : Z} {ma : PT X} {mb : PT Y} {mc : PT Z} (o : OP G.C r (fun x y => pR (f x y))) (o' : OP G.C r' (fun x y => pR (g x y))) (ha : RE G sl ta ma) (hb : RE G sl tb mb) (hc : RE G sl tc mc)
    (ia : ∀ Q : X → Prop, Q x → ma Q := by exact fun _ h => h) (ib : ∀ Q : Y → Prop, Q y → mb Q := by exact fun _ h => h) (ic : ∀ Q : Z → Prop, Q z → mc Q := by exact fun _ h => h) :
    RE G sl (tChain r r' ta tb tc) (pR (f x y && g y z)) := re_imp (re_chain o o' (re_pl ha ia) (re_pl hb ib) (re_pl hc ic)) fun Q h => by
  show if f x y = true then Q (g y z) else Q false
  have h' : Q (f x y && g y z) := h
  cases e : f x y with
  | true => rw [e] at h'; exact h'
  | false => rw [e] at h'; exact h'
theorem rc_and_v {t u : TT} {a b : Bool} {ma mb : PT Bool} (ha : RC G sl t ma) (hb : RC G sl u mb) (ia : ∀ Q : Bool → Prop, Q a → ma Q := by exact fun _ h => h) (ib : ∀ Q : Bool → Prop, Q b → mb Q := by exact fun _ h => h) : RC G sl (tAnd t u) (pR (a && b)) := rc_imp (rc_and (rc_imp (m' := pR a) ha ia) (rc_imp (m' := pR b) hb ib)) fun Q h => by
  cases a with
  | true => exact h
  | false => exact h
theorem rc_or_v {t u : TT} {a b : Bool} {ma mb : PT Bool} (ha : RC G sl t ma) (hb : RC G sl u mb) (ia : ∀ Q : Bool → Prop, Q a → ma Q := by exact fun _ h => h) (ib : ∀ Q : Bool → Prop, Q b → mb Q := by exact fun _ h => h) : RC G sl (tOr t u) (pR (a || b)) := rc_imp (rc_or (rc_imp (m' := pR a) ha ia) (rc_imp (m' := pR b) hb ib)) fun Q h => by
  cases a with
  | true => exact h
  | false => exact h
/-! ### slices -/
def cutL {α : Type} (xs : List α) (lo hi : Option Int) : List α := (xs.drop (HT.sIx xs.length 0 lo)).take (HT.sIx xs.length xs.length hi - HT.sIx xs.length 0 lo)
theorem cutV_rel {F : Rg} {H : Hp} {vs : List V} {xs : List X} {lo hi : Option Int} (h : RpL C F H vs xs) : RpL C F H (cutV vs lo hi) (cutL xs lo hi) := by
  unfold cutV cutL
  rw [h.length]
  exact (h.drop _).take _
/-- an optional part -/
def RPo (G : Gx) (sl : List Sl) (t : TO) (m : PT (Option Int)) : Prop := ∀ (σ : St) (A : Nat → List Addr) (F : Rg) (H : Hp) (Qp : Option Int → Prop) (Q : Option Int → Hp → Prop), Env G sl σ A F H → m Qp →
  (∀ x F' H', Qp x → Gk A F H F' H' → Env G sl σ A F' H' → Q x H') → t σ H Q
theorem rp_none : RPo G sl tNoPart (pR none) := fun σ A F H Qp Q E hm k => k none F H hm Gk.refl E
theorem rp_some {te : TE} {m : PT Int} (h : RE G sl te m) : RPo G sl (tPart te) (fun Q => m fun i => Q (some i)) := fun σ A F H Qp Q E hm k =>
  h σ A F H _ _ E hm fun x v F1 H1 q1 g1 E1 r1 => ⟨x, r1, k _ F1 H1 q1 g1 E1⟩
theorem ro_slL {te : TE} {tl th : TO} {m : PT (List X)} {l h : PT (Option Int)} (he : RV G sl te m) (hl : RPo G sl tl l) (hh : RPo G sl th h) : RO G sl (tSl (rSlL K) te tl th) (fun Q => m fun p => l fun a => h fun b => Q (cutL p a b)) := fun σ A F H Qp Q E hm k =>
  he σ A F H _ _ E hm fun x a F1 H1 q1 g1 E1 r1 => hl σ A F1 H1 _ _ E1 q1 fun lo F2 H2 q2 g2 E2 => hh σ A F2 H2 _ _ E2 q2 fun hi F3 H3 q3 g3 E3 => by
    obtain ⟨vs, ha, hl⟩ := r1 F3 H3 (g2.trans g3).ge E3
    exact ⟨a, vs, rfl, SqL.of ha, ro_new E3 ((g1.trans g2).trans g3).fr (cutV_rel hl) fun v F4 H4 as g4 E4 o4 f4 => k _ _ _ _ _ q3 (((g1.trans g2).trans g3).trans g4) E4 o4 f4⟩
theorem sIx_full {α : Type} {xs : List α} {lo hi : Option Int} (h : HT.sIx xs.length 0 lo = 0 ∧ HT.sIx xs.length xs.length hi = xs.length) : cutL xs lo hi = xs := by
  unfold cutL
  rw [h.1, h.2]
  simp
theorem re_slT {te : TE} {tl th : TO} {m : PT (Tu X)} {l h : PT (Option Int)} (he : RE G sl te m) (hl : RPo G sl tl l) (hh : RPo G sl th h) : RE G sl (tSl (rSlA K) te tl th) (fun Q => m fun p => l fun a => h fun b => Q (Tu.mk (cutL p.l a b))) := fun σ A F H Qp Q E hm k =>
  he σ A F H _ _ E hm fun x v F1 H1 q1 g1 E1 r1 => hl σ A F1 H1 _ _ E1 q1 fun lo F2 H2 q2 g2 E2 => hh σ A F2 H2 _ _ E2 q2 fun hi F3 H3 q3 g3 E3 => by
    have r3 := Rp.mono (g2.trans g3).ge r1
    obtain ⟨a, vs, rfl, f, ha, hl⟩ := id r3
    refine ⟨a, vs, rfl, SqT.of ha, fun hw => ?_, fun _ => tu_new (cutV_rel hl) fun v F4 H4 n4 r4 => k _ _ _ _ q3 (((g1.trans g2).trans g3).trans n4.gk) (E3.newk n4) r4⟩
    rw [hl.length] at hw
    refine k _ _ _ _ q3 ((g1.trans g2).trans g3) E3 ?_
    rw [sIx_full hw]; exact r3
theorem re_revT {te : TE} {m : PT (Tu X)} (h : RE G sl te m) : RE G sl (tRevT K te) (fun Q => m fun p => Q (Tu.mk p.l.reverse)) := fun σ A F H Qp Q E hm k =>
  h σ A F H _ _ E hm fun x v F1 H1 q1 g1 E1 r1 => by
    obtain ⟨a, vs, rfl, f, ha, hl⟩ := r1
    exact ⟨a, vs, rfl, SqT.of ha, tu_new hl.rev fun v F2 H2 n2 r2 => k _ _ _ _ q1 (g1.trans n2.gk) (E1.newk n2) r2⟩
theorem ro_lstRg {te : TE} {m : PT Int} (h : RE G sl te m) : RO G sl (tLstRg (tRg1 te)) (fun Q => m fun n => RgOk 0 n ∧ Q (rngI 0 n)) := fun σ A F H Qp Q E hm k =>
  h σ A F H _ _ E hm fun x v F1 H1 q1 g1 E1 r1 => by
    subst r1
    refine ⟨x, rfl, q1.1, ?_⟩
    rw [rgV_eq]
    exact ro_new E1 g1.fr (RpL.of_ints _) fun v F2 H2 as g2 E2 o2 f2 => k _ _ _ _ _ q1.2 (g1.trans g2) E2 o2 f2
theorem re_tupRg {te : TE} {m : PT Int} (h : RE G sl te m) : RE G sl (tTupRg (tRg1 te)) (fun Q => m fun n => RgOk 0 n ∧ Q (Tu.mk (rngI 0 n))) := fun σ A F H Qp Q E hm k =>
  h σ A F H _ _ E hm fun x v F1 H1 q1 g1 E1 r1 => by
    subst r1
    refine ⟨x, rfl, q1.1, ?_⟩
    rw [rgV_eq]
    exact tu_new (RpL.of_ints _) fun v F2 H2 n2 r2 => k _ _ _ _ q1.2 (g1.trans n2.gk) (E1.newk n2) r2
/-! ### comprehensions whose items are plain values -/
theorem lcP_map {A B : Type} (f : A → B) : ∀ (xs : List A) (k : List B → Prop), k (xs.map f) → lcP xs (fun x Q => Q (some (f x))) k
  | [], k, h => h
  | x :: xs, k, h => lcP_map f xs _ h
theorem lcP_filt {A B : Type} (c : A → Bool) (f : A → B) : ∀ (xs : List A) (k : List B → Prop), k ((xs.filter c).map f) → lcP xs (fun x Q => if c x = true then Q (some (f x)) else Q none) k
  | [], k, h => h
  | x :: xs, k, h => by
    show if c x = true then _ else _
    cases e : c x with
    | true =>
      rw [List.filter_cons_of_pos e, List.map_cons] at h
      rw [if_pos rfl]
      exact lcP_filt c f xs _ h
    | false =>
      rw [List.filter_cons_of_neg (by rw [e]; exact Bool.false_ne_true)] at h
      rw [if_neg Bool.false_ne_true]
      exact lcP_filt c f xs _ h
theorem rwo_hat {wi : TI} {m : PT (List X)} (h : RWo G sl wi m) : RWo G sl wi (fun Q' => ∃ Q, m Q ∧ ∀ a, Q a → Q' a) := fun σ A F H Qp R E ⟨Q0, hm, hi⟩ k => h σ A F H Q0 R E hm fun xs F1 H1 J q => k xs F1 H1 J (hi xs q)
theorem ro_map {vs : List Nat} {wi : TI} {g : TG} {te : TE} {m : PT (List X)} {f : X → Y} (hw : RWo G sl wi m) (hv : ∀ v ∈ vs, NotOwn sl v) (he : ∀ x, RLc G (wipeS sl vs) vs g tYes te x (fun Q => Q (some (f x)))) :
    RO G sl (tLc wi g tYes te vs) (fun Q => m fun xs => Sz xs.length ∧ Q (xs.map f)) := ro_imp (ro_lc (f := fun x Q => Q (some (f x))) (rwo_hat hw) hv he) fun Q h => ⟨_, h, fun xs h => ⟨h.1, lcP_map f xs Q h.2⟩⟩
theorem ro_filt {vs : List Nat} {wi : TI} {g : TG} {tt : TT} {te : TE} {m : PT (List X)} {c : X → Bool} {f : X → Y} (hw : RWo G sl wi m) (hv : ∀ v ∈ vs, NotOwn sl v) (he : ∀ x, RLc G (wipeS sl vs) vs g tt te x (fun Q => if c x = true then Q (some (f x)) else Q none)) :
    RO G sl (tLc wi g tt te vs) (fun Q => m fun xs => Sz xs.length ∧ Q ((xs.filter c).map f)) := ro_imp (ro_lc (f := fun x Q => if c x = true then Q (some (f x)) else Q none) (rwo_hat hw) hv he) fun Q h => ⟨_, h, fun xs h => ⟨h.1, lcP_filt c f xs Q h.2⟩⟩
theorem notOwns_of {vs : List Nat} (h : (vs.all fun v => !((sl[v]?).map Sl.isOwn).getD false) = true) : ∀ v ∈ vs, NotOwn sl v := fun v hv => notOwn_of (by
  have := List.all_eq_true.mp h v hv
  simpa using this)
/-! ### statements with plain values -/
theorem rb_asg_v {te : TE} {i : Nat} {x : X} {m : PT X} {w : Prop} (h : RE G sl te m) (n : NotOwn sl i) (k : RB G (sl.set i (.dat x)) D.nx w) (im : ∀ Q : X → Prop, Q x → m Q := by exact fun _ h => h) : RB G sl (tAsg te (gName i) D) w := fun σ A F H E hw =>
  re_pl h im σ A F H (fun y => y = x) _ E rfl fun y v F1 H1 q1 g1 E1 r1 => by subst q1; exact k _ A F1 H1 (E1.put (s := .dat y) ⟨rfl, v, rfl, r1⟩ n) hw
theorem rb_asgO_v {W : Type} [Ow W] {te : TE} {i : Nat} {x : W} {m : PT W} {w : Prop} (h : RO G sl te m) (n : NotOwn sl i) (hi : i < sl.length) (k : RB G (sl.set i (.own x)) D.nx w) (im : ∀ Q : W → Prop, Q x → m Q := by exact fun _ h => h) : RB G sl (tAsg te (gName i) D) w := fun σ A F H E hw =>
  rb_asgO (w := fun y => y = x ∧ w) (ro_imp (m' := pR x) h im) n hi (fun y σ A F H E hq => by obtain ⟨rfl, hw⟩ := hq; exact k σ A F H E hw) σ A F H E ⟨rfl, hw⟩
theorem rb_aug_v {te : TE} {i : Nat} {x y : Int} {f : Int → Int → Int} {m : PT Int} {w : Prop} (hi : sl[i]? = some (.dat x)) (h : RE G sl te m) (n : NotOwn sl i) (k : RB G (sl.set i (.dat (f x y))) D.nx w) (im : ∀ Q : Int → Prop, Q y → m Q := by exact fun _ h => h) : RB G sl (tAug i te (ipI f) D) w := fun σ A F H E hw =>
  rb_aug (w := fun z => z = y ∧ w) hi (re_pl h im) n (fun z σ A F H E hq => by obtain ⟨rfl, hw⟩ := hq; exact k σ A F H E hw) σ A F H E ⟨rfl, hw⟩
/-- a statement by which what is owned turns, its value plain -/
theorem rb_drop_v {te : TE} {B : Type} {sl' : B → List Sl} {val : B → X} {m : PT B} {g : Prop} {b : B} {w : Prop} (h : REG G sl te sl' val m) (k : RB G (sl' b) D.nx w) (im : ∀ Q : B → Prop, g ∧ Q b → m Q := by exact fun _ h => h) : RB G sl (tDrop te D) (g ∧ w) := fun σ A F H E hw =>
  rb_drop (w := fun c => c = b ∧ w) (m := m) h (fun c σ A F H E hq => by obtain ⟨rfl, hw⟩ := hq; exact k σ A F H E hw) σ A F H E (im _ ⟨hw.1, rfl, hw.2⟩)
theorem rb_leh {pin : Option Nat} {tl : List Sl} {p : St → Hp → Prop} {w : Prop} (h : RB G tl p w) (hp : G.pin.map (·.1) = pin) (l : LeSl pin 0 sl tl) : RB G sl p w := rb_le hp l h
theorem rb_false {p : St → Hp → Prop} : RB G sl p False := fun _ _ _ _ _ h => h.elim
theorem rb_retN0 {k : Unit → Prop} (hr : RtA G D.rt k) : RB G sl (tRetN D) (k ()) := rb_retN hr
theorem rb_par {ta tb : TE} {i j : Nat} {m : PT X} {n : PT Y} {w : X → Y → Prop} (ha : RE G sl ta m) (hb : RE G sl tb n) (ni : NotOwn sl i) (nj : ∀ x : X, NotOwn (sl.set i (.dat x)) j) (k : ∀ x y, RB G ((sl.set i (.dat x)).set j (.dat y)) D.nx (w x y)) :
    RB G sl (tPar i j (tCons ta (tCons tb tNil)) D) (m fun x => n fun y => w x y) := fun σ A F H E hm =>
  ha σ A F H _ _ E hm fun x v F1 H1 q1 g1 E1 r1 => hb σ A F1 H1 _ _ E1 q1 fun y u F2 H2 q2 g2 E2 r2 =>
    ⟨v, u, rfl, k x y _ A F2 H2 ((E2.put (s := .dat x) ⟨rfl, v, rfl, Rp.mono g2.ge r1⟩ ni).put (s := .dat y) ⟨rfl, u, rfl, r2⟩ (nj x)) q2⟩
theorem rb_par_v {ta tb : TE} {i j : Nat} {x : X} {y : Y} {ma : PT X} {mb : PT Y} {w : Prop} (ha : RE G sl ta ma) (hb : RE G sl tb mb) (ni : NotOwn sl i) (nj : NotOwn (sl.set i (.dat x)) j) (k : RB G ((sl.set i (.dat x)).set j (.dat y)) D.nx w) (ia : ∀ Q : X → Prop, Q x → ma Q := by exact fun _ h => h) (ib : ∀ Q : Y → Prop, Q y → mb Q := by exact fun _ h => h) : RB G sl (tPar i j (tCons ta (tCons tb tNil)) D) w := fun σ A F H E hw =>
  re_pl ha ia σ A F H (fun z => z = x) _ E rfl fun x' v F1 H1 q1 g1 E1 r1 => re_pl hb ib σ A F1 H1 (fun z => z = y) _ E1 rfl fun y' u F2 H2 q2 g2 E2 r2 => by
    subst q1
    subst q2
    exact ⟨v, u, rfl, k _ A F2 H2 ((E2.put (s := .dat x') ⟨rfl, v, rfl, Rp.mono g2.ge r1⟩ ni).put (s := .dat y') ⟨rfl, u, rfl, r2⟩ nj) hw⟩
end
section
variable {G : Gx} {sl : List Sl} {X Y : Type} [Rp X] [Rp Y] {K : PySem.W.Frag}
/-- l.append(e), e turns another owned thing -/
theorem reg_appendG {te : TE} {i : Nat} {l : List X} {B : Type} {sl' : B → List Sl} {val : B → X} {m : PT B} (h0 : ∃ l0 : List X, sl[i]? = some (.own l0)) (hi : ∀ b, (sl' b)[i]? = some (.own l)) (h : REG G sl te sl' val m) :
    REG G sl (tBM K "list" rAppend (tVar i) (tCons te tNil)) (fun b => (sl' b).set i (.own (l ++ [val b]))) (fun _ => ()) (fun Q => m fun b => Sz (l.length + 1) ∧ Q b) := fun σ A F H Qp Q E hm k => by
  obtain ⟨l0, h0⟩ := h0
  obtain ⟨a, vs, h1, h2, h3, h4⟩ := E.ownL h0
  refine ⟨_, h1, .inl ⟨rfl, _, SqL.of h2⟩, h σ A F H _ _ E hm fun b u F1 H1 q1 g1 E1 r1 => ?_⟩
  obtain ⟨a', vs', h1', h2', h3', h4'⟩ := E1.ownL (hi b)
  rw [h1] at h1'
  cases h1'
  obtain ⟨E2, g2⟩ := own_turn E1 (hi b) h1 h2' h3' (RpL.append h4' ⟨r1, trivial⟩ : RpL G.C F1 H1 (vs' ++ [u]) (l ++ [val b]))
  exact ⟨a, vs', u, rfl, rfl, h2', by rw [h4'.length]; have := q1.1.lt; omega, k b _ _ _ q1.2 (g1.trans g2) E2 rfl⟩
end
/-! ### evenings -/
abbrev Q2 := Int × Int
structure Ev where
  o : Tu Q2
  d : Tu Q2
deriving DecidableEq
instance : Rp Ev := ⟨fun C F H v x => ∃ a dx vo vd, v = .ref a ∧ F a ∧ H a = some (.ins C.Evening dx [("owed", vo), ("due", vd)]) ∧ Rp.rp C F H vo x.o ∧ Rp.rp C F H vd x.d, fun g ⟨a, dx, vo, vd, e, f, h, h1, h2⟩ => ⟨a, dx, vo, vd, e, (g _ _ f h).1, (g _ _ f h).2, Rp.mono g h1, Rp.mono g h2⟩⟩
instance : NoN Ev := ⟨fun ⟨_, _, _, _, e, _⟩ => by cases e⟩
structure CT (K : PySem.W.Frag) (C : CA) : Prop where
  cl : Cls K C.Evening
  nO : NoAttr K C.Evening "owed"
  nD : NoAttr K C.Evening "due"
section
variable {G : Gx} {sl : List Sl} {K : PySem.W.Frag}
theorem re_owed {te : TE} {m : PT Ev} (T : CT K G.C) (h : RE G sl te m) : RE G sl (tFld K te "owed") (fun Q => m fun e => Q e.o) := fun σ A F H Qp Q E hm k =>
  h σ A F H _ _ E hm fun x v F1 H1 q1 g1 E1 r1 => by
    obtain ⟨a, dx, vo, vd, rfl, f, ha, h1, h2⟩ := r1
    exact ⟨a, _, dx, _, vo, rfl, ha, T.cl, T.nO, rfl, k _ _ _ _ q1 g1 E1 h1⟩
theorem re_due {te : TE} {m : PT Ev} (T : CT K G.C) (h : RE G sl te m) : RE G sl (tFld K te "due") (fun Q => m fun e => Q e.d) := fun σ A F H Qp Q E hm k =>
  h σ A F H _ _ E hm fun x v F1 H1 q1 g1 E1 r1 => by
    obtain ⟨a, dx, vo, vd, rfl, f, ha, h1, h2⟩ := r1
    exact ⟨a, _, dx, _, vd, rfl, ha, T.cl, T.nD, rfl, k _ _ _ _ q1 g1 E1 h2⟩
end
end QV

namespace QV
open PySem L2 QW
/-! ### things of any kind -/
inductive Dv where
  | non
  | bl (b : Bool)
  | int (i : Int)
  | str (s : Str)
  | tup (l : List Dv)
  | lst (l : List Dv)
  | dct
  | ev (e : Ev)
mutual
def DvR (C : CA) (F : Rg) (H : Hp) : V → Dv → Prop
  | v, .non => v = .non
  | v, .bl b => v = .bl b
  | v, .int i => v = .int i
  | v, .str s => v = .str s ∧ PySem.PyData.strOk s = true
  | v, .tup l => ∃ a vs, v = .ref a ∧ F a ∧ H a = some (.tup vs) ∧ DvL C F H vs l
  | v, .lst l => ∃ a vs, v = .ref a ∧ F a ∧ H a = some (.lst vs) ∧ DvL C F H vs l
  | v, .dct => ∃ a kvs, v = .ref a ∧ F a ∧ H a = some (.dK kvs)
  | v, .ev e => Rp.rp C F H v e
def DvL (C : CA) (F : Rg) (H : Hp) : List V → List Dv → Prop
  | [], [] => True
  | v :: vs, d :: ds => DvR C F H v d ∧ DvL C F H vs ds
  | [], _ :: _ => False
  | _ :: _, [] => False
end
mutual
theorem DvR.mono {C : CA} {F F' : Rg} {H H' : Hp} (g : Ge F H F' H') : ∀ {v : V} (d : Dv), DvR C F H v d → DvR C F' H' v d
  | _, .non, h => by simpa only [DvR] using h
  | _, .bl _, h => by simpa only [DvR] using h
  | _, .int _, h => by simpa only [DvR] using h
  | _, .str _, h => by simpa only [DvR] using h
  | _, .tup l, h => by
    simp only [DvR] at h ⊢
    obtain ⟨a, vs, e, f, ha, hl⟩ := h
    exact ⟨a, vs, e, (g _ _ f ha).1, (g _ _ f ha).2, DvL.mono g l hl⟩
  | _, .lst l, h => by
    simp only [DvR] at h ⊢
    obtain ⟨a, vs, e, f, ha, hl⟩ := h
    exact ⟨a, vs, e, (g _ _ f ha).1, (g _ _ f ha).2, DvL.mono g l hl⟩
  | _, .dct, h => by
    simp only [DvR] at h ⊢
    obtain ⟨a, vs, e, f, ha⟩ := h
    exact ⟨a, vs, e, (g _ _ f ha).1, (g _ _ f ha).2⟩
  | _, .ev e, h => by
    simp only [DvR] at h ⊢
    exact Rp.mono g h
theorem DvL.mono {C : CA} {F F' : Rg} {H H' : Hp} (g : Ge F H F' H') : ∀ {vs : List V} (ds : List Dv), DvL C F H vs ds → DvL C F' H' vs ds
  | [], [], _ => by simp [DvL]
  | v :: vs, d :: ds, h => by
    simp only [DvL] at h ⊢
    exact ⟨DvR.mono g d h.1, DvL.mono g ds h.2⟩
  | [], _ :: _, h => by simp [DvL] at h
  | _ :: _, [], h => by simp [DvL] at h
end
instance : Rp Dv := ⟨fun C F H v d => DvR C F H v d, fun g h => DvR.mono g _ h⟩
theorem DvL.rp {C : CA} {F : Rg} {H : Hp} : ∀ {vs : List V} {ds : List Dv}, DvL C F H vs ds ↔ RpL C F H vs ds
  | [], [] => by simp [DvL, RpL]
  | v :: vs, d :: ds => by
    simp only [DvL, RpL]
    exact and_congr Iff.rfl DvL.rp
  | [], _ :: _ => by simp [DvL, RpL]
  | _ :: _, [] => by simp [DvL, RpL]
/-- told as a thing -/
class Emb (X : Type) [Rp X] where
  emb : X → Dv
  ok : ∀ {C : CA} {F : Rg} {H : Hp} {v : V} {x : X}, Rp.rp C F H v x → DvR C F H v (emb x)
theorem Emb.list {X : Type} [Rp X] [Emb X] {C : CA} {F : Rg} {H : Hp} : ∀ {vs : List V} {xs : List X}, RpL C F H vs xs → DvL C F H vs (xs.map Emb.emb)
  | [], [], _ => by simp [DvL]
  | v :: vs, x :: xs, h => by
    simp only [List.map_cons, DvL]
    exact ⟨Emb.ok h.1, Emb.list h.2⟩
  | [], _ :: _, h => h.elim
  | _ :: _, [], h => h.elim
instance : Emb Int := ⟨.int, fun h => by simp only [DvR]; exact h⟩
instance : Emb Bool := ⟨.bl, fun h => by simp only [DvR]; exact h⟩
instance : Emb Str := ⟨.str, fun h => by simp only [DvR]; exact h⟩
instance : Emb Unit := ⟨fun _ => .non, fun h => by simp only [DvR]; exact h⟩
instance : Emb Dv := ⟨fun d => d, fun h => h⟩
instance : Emb Ev := ⟨.ev, fun h => by simp only [DvR]; exact h⟩
section
variable {X Y Z : Type} [Rp X] [Rp Y] [Rp Z] [Emb X] [Emb Y] [Emb Z]
instance : Emb (X × Y) := ⟨fun p => .tup [Emb.emb p.1, Emb.emb p.2], fun h => by
  obtain ⟨a, u, w, e, f, ha, h1, h2⟩ := h
  simp only [DvR, DvL]
  exact ⟨a, [u, w], e, f, ha, Emb.ok h1, Emb.ok h2, trivial⟩⟩
instance : Emb (T3 X Y Z) := ⟨fun p => .tup [Emb.emb p.a, Emb.emb p.b, Emb.emb p.c], fun h => by
  obtain ⟨a, u, w, z, e, f, ha, h1, h2, h3⟩ := h
  simp only [DvR, DvL]
  exact ⟨a, [u, w, z], e, f, ha, Emb.ok h1, Emb.ok h2, Emb.ok h3, trivial⟩⟩
instance : Emb (Tu X) := ⟨fun p => .tup (p.l.map Emb.emb), fun h => by
  obtain ⟨a, vs, e, f, ha, hl⟩ := h
  simp only [DvR]
  exact ⟨a, vs, e, f, ha, Emb.list hl⟩⟩
instance : Emb (List X) := ⟨fun p => .lst (p.map Emb.emb), fun h => by
  obtain ⟨a, vs, e, f, ha, hl⟩ := h
  simp only [DvR]
  exact ⟨a, vs, e, f, ha, Emb.list hl⟩⟩
end
section
variable {G : Gx} {sl : List Sl} {X Y : Type} [Rp X] [Rp Y] {K : PySem.W.Frag}
theorem re_emb [Emb X] {te : TE} {m : PT X} (h : RE G sl te m) : RE G sl te (fun Q => m fun x => Q (Emb.emb x)) := fun σ A F H Qp Q E hm k =>
  h σ A F H _ Q E hm fun x v F1 H1 q1 g1 E1 r1 => k _ v F1 H1 q1 g1 E1 (Emb.ok r1)
/-- what is known of a thing -/
theorem re_asTu {te : TE} {m : PT Dv} (h : RE G sl te m) : RE G sl te (fun Q => m fun d => ∃ l, d = .tup l ∧ Q (Tu.mk l)) := fun σ A F H Qp Q E hm k =>
  h σ A F H _ Q E hm fun x v F1 H1 ⟨l, e, q1⟩ g1 E1 r1 => by
    subst e
    have r1 : DvR G.C F1 H1 v (.tup l) := r1
    simp only [DvR] at r1
    obtain ⟨a, vs, e, f, ha, hl⟩ := r1
    exact k _ v F1 H1 q1 g1 E1 ⟨a, vs, e, f, ha, DvL.rp.mp hl⟩
theorem re_asLs {te : TE} {m : PT Dv} (h : RE G sl te m) : RE G sl te (fun Q => m fun d => ∃ l, d = .lst l ∧ Q l) := fun σ A F H Qp Q E hm k =>
  h σ A F H _ Q E hm fun x v F1 H1 ⟨l, e, q1⟩ g1 E1 r1 => by
    subst e
    have r1 : DvR G.C F1 H1 v (.lst l) := r1
    simp only [DvR] at r1
    obtain ⟨a, vs, e, f, ha, hl⟩ := r1
    exact k _ v F1 H1 q1 g1 E1 ⟨a, vs, e, f, ha, DvL.rp.mp hl⟩
theorem re_asInt {te : TE} {m : PT Dv} (h : RE G sl te m) : RE G sl te (fun Q => m fun d => ∃ i, d = .int i ∧ Q i) := fun σ A F H Qp Q E hm k =>
  h σ A F H _ Q E hm fun x v F1 H1 ⟨l, e, q1⟩ g1 E1 r1 => by
    subst e
    have r1 : DvR G.C F1 H1 v (.int l) := r1
    simp only [DvR] at r1
    exact k _ v F1 H1 q1 g1 E1 r1
theorem re_asBl {te : TE} {m : PT Dv} (h : RE G sl te m) : RE G sl te (fun Q => m fun d => ∃ i, d = .bl i ∧ Q i) := fun σ A F H Qp Q E hm k =>
  h σ A F H _ Q E hm fun x v F1 H1 ⟨l, e, q1⟩ g1 E1 r1 => by
    subst e
    have r1 : DvR G.C F1 H1 v (.bl l) := r1
    simp only [DvR] at r1
    exact k _ v F1 H1 q1 g1 E1 r1
theorem re_asStr {te : TE} {m : PT Dv} (h : RE G sl te m) : RE G sl te (fun Q => m fun d => ∃ i, d = .str i ∧ Q i) := fun σ A F H Qp Q E hm k =>
  h σ A F H _ Q E hm fun x v F1 H1 ⟨l, e, q1⟩ g1 E1 r1 => by
    subst e
    have r1 : DvR G.C F1 H1 v (.str l) := r1
    simp only [DvR] at r1
    exact k _ v F1 H1 q1 g1 E1 r1
end
/-! ### isinstance -/
/-- the built-in class of all X -/
class TyN (X : Type) [Rp X] where
  nm : String
  ty : ∀ {K : PySem.W.Frag} {C : CA} {F : Rg} {H : Hp} {v : V} {x : X}, Rp.rp C F H v x → TyX K H v (.type nm)
instance : TyN Int := ⟨"int", fun h => by rw [show _ = V.int _ from h]; exact .base (.int _)⟩
instance : TyN Bool := ⟨"bool", fun h => by rw [show _ = V.bl _ from h]; exact .base (.bl _)⟩
instance : TyN Str := ⟨"str", fun h => by rw [show _ = V.str _ from h.1]; exact .base (.str _)⟩
instance : TyN Unit := ⟨"NoneType", fun h => by rw [show _ = V.non from h]; exact .base .non⟩
section
variable {X Y Z : Type} [Rp X] [Rp Y] [Rp Z]
instance : TyN (X × Y) := ⟨"tuple", fun ⟨a, u, w, e, f, ha, _⟩ => by rw [e]; exact .base (.tup ha)⟩
instance : TyN (T3 X Y Z) := ⟨"tuple", fun ⟨a, u, w, z, e, f, ha, _⟩ => by rw [e]; exact .base (.tup ha)⟩
instance : TyN (Tu X) := ⟨"tuple", fun ⟨a, vs, e, f, ha, _⟩ => by rw [e]; exact .base (.tup ha)⟩
instance : TyN (List X) := ⟨"list", fun ⟨a, vs, e, f, ha, _⟩ => by rw [e]; exact .base (.lst ha)⟩
end
/-- the class of a thing, the own one told apart -/
def Dv.cls : Dv → Option String
  | .non => some "NoneType"
  | .bl _ => some "bool"
  | .int _ => some "int"
  | .str _ => some "str"
  | .tup _ => some "tuple"
  | .lst _ => some "list"
  | .dct => some "dict"
  | .ev _ => none
def Dv.isTup : Dv → Bool | .tup _ => true | _ => false
def Dv.isLst : Dv → Bool | .lst _ => true | _ => false
def Dv.isInt : Dv → Bool | .int _ => true | .bl _ => true | _ => false
def Dv.isBl : Dv → Bool | .bl _ => true | _ => false
def Dv.isStr : Dv → Bool | .str _ => true | _ => false
def Dv.isDct : Dv → Bool | .dct => true | _ => false
def Dv.isEv : Dv → Bool | .ev _ => true | _ => false
/-- what the program's text tells of the class Evening -/
structure EvIs (K : PySem.W.Frag) (C : CA) : Prop where
  cl : Cls K C.Evening
  ha : PySem.W.findIn K (.ref C.Evening) "__class__" = some (some (.builtin "object.__class__"))
  hn : PySem.W.specialIn K (.builtin "object.__class__") "__get__" = some (some (.builtin "getset_descriptor.__get__"))
  htk : PySem.W.takesIn K (.builtin "object.__class__") = some true
  hm : PySem.W.mroIn K C.Evening (.type "object") = some true
  tup : PySem.W.kitOne K (.ref C.Evening) (.type "tuple") = some false
  int : PySem.W.kitOne K (.ref C.Evening) (.type "int") = some false
  bool : PySem.W.kitOne K (.ref C.Evening) (.type "bool") = some false
  lst : PySem.W.kitOne K (.ref C.Evening) (.type "list") = some false
  dct : PySem.W.kitOne K (.ref C.Evening) (.type "dict") = some false
  str : PySem.W.kitOne K (.ref C.Evening) (.type "str") = some false
section
variable {G : Gx} {sl : List Sl} {X Y : Type} [Rp X] [Rp Y] {K : PySem.W.Frag}
theorem re_isi [TyN X] {te : TE} {m : PT X} {n : String} {b : Bool} (h : RE G sl te m) (hb : kitB (TyN.nm X) n = some b) : RE G sl (tCB (rIsi K) (tCons te (tCons (tC (.ty n)) tNil))) (fun Q => m fun _ => Q b) := fun σ A F H Qp Q E hm k =>
  h σ A F H _ _ E hm fun x v F1 H1 q1 g1 E1 r1 => i_isiB (TyN.ty r1) hb (k _ _ F1 H1 q1 g1 E1 rfl)
/-- isinstance of a thing, by the answers for each kind -/
theorem isiD {C : CA} {F : Rg} {H : Hp} {v : V} {d : Dv} {n : String} {f : Dv → Bool} {Q : VK} (T : EvIs K C) (r : DvR C F H v d) (h0 : kitB "NoneType" n = some (f .non)) (h1 : ∀ b, kitB "bool" n = some (f (.bl b))) (h2 : ∀ i, kitB "int" n = some (f (.int i))) (h3 : ∀ z, kitB "str" n = some (f (.str z)))
    (h4 : ∀ l, kitB "tuple" n = some (f (.tup l))) (h5 : ∀ l, kitB "list" n = some (f (.lst l))) (h6 : kitB "dict" n = some (f .dct)) (h7 : ∀ e, PySem.W.kitOne K (.ref C.Evening) (.type n) = some (f (.ev e))) (q : Q (.bl (f d)) H) : rIsi K [v, .ty n] H Q := by
  cases d with
  | non => simp only [DvR] at r; subst r; exact i_isiB (.base .non) h0 q
  | bl b => simp only [DvR] at r; subst r; exact i_isiB (.base (.bl _)) (h1 b) q
  | int i => simp only [DvR] at r; subst r; exact i_isiB (.base (.int _)) (h2 i) q
  | str z => simp only [DvR] at r; obtain ⟨rfl, _⟩ := r; exact i_isiB (.base (.str _)) (h3 z) q
  | tup l => simp only [DvR] at r; obtain ⟨a, vs, rfl, f, ha, hl⟩ := r; exact i_isiB (.base (.tup ha)) (h4 l) q
  | lst l => simp only [DvR] at r; obtain ⟨a, vs, rfl, f, ha, hl⟩ := r; exact i_isiB (.base (.lst ha)) (h5 l) q
  | dct => simp only [DvR] at r; obtain ⟨a, vs, rfl, f, ha⟩ := r; exact i_isiB (.base (.dK ha)) h6 q
  | ev e =>
    simp only [DvR] at r
    obtain ⟨a, dx, vo, vd, rfl, f, ha, _⟩ := r
    exact ⟨_, .ty n, .ref C.Evening, .type n, _, rfl, .ty n, .base (.ins ha T.cl T.ha T.hn T.htk T.hm), h7 e, q⟩
theorem re_isiTup {te : TE} {m : PT Dv} (T : EvIs K G.C) (h : RE G sl te m) : RE G sl (tCB (rIsi K) (tCons te (tCons (tC (.ty "tuple")) tNil))) (fun Q => m fun d => Q d.isTup) := fun σ A F H Qp Q E hm k =>
  h σ A F H _ _ E hm fun x v F1 H1 q1 g1 E1 r1 => isiD (f := Dv.isTup) T r1 kit_nt (fun _ => kit_bt) (fun _ => kit_it) (fun _ => kit_st) (fun _ => kit_tt) (fun _ => kit_lt) kit_dt (fun _ => T.tup) (k _ _ F1 H1 q1 g1 E1 rfl)
theorem re_isiInt {te : TE} {m : PT Dv} (T : EvIs K G.C) (h : RE G sl te m) : RE G sl (tCB (rIsi K) (tCons te (tCons (tC (.ty "int")) tNil))) (fun Q => m fun d => Q d.isInt) := fun σ A F H Qp Q E hm k =>
  h σ A F H _ _ E hm fun x v F1 H1 q1 g1 E1 r1 => isiD (f := Dv.isInt) T r1 kit_ni (fun _ => kit_bi) (fun _ => kit_ii) (fun _ => kit_si) (fun _ => kit_ti) (fun _ => kit_li) kit_di (fun _ => T.int) (k _ _ F1 H1 q1 g1 E1 rfl)
theorem re_isiBl {te : TE} {m : PT Dv} (T : EvIs K G.C) (h : RE G sl te m) : RE G sl (tCB (rIsi K) (tCons te (tCons (tC (.ty "bool")) tNil))) (fun Q => m fun d => Q d.isBl) := fun σ A F H Qp Q E hm k =>
  h σ A F H _ _ E hm fun x v F1 H1 q1 g1 E1 r1 => isiD (f := Dv.isBl) T r1 kit_nb (fun _ => kit_bb) (fun _ => kit_ib) (fun _ => kit_sb) (fun _ => kit_tb) (fun _ => kit_lb) kit_db (fun _ => T.bool) (k _ _ F1 H1 q1 g1 E1 rfl)
theorem kit_nl : kitB "NoneType" "list" = some false := by decide +kernel
theorem kit_bl' : kitB "bool" "list" = some false := by decide +kernel
theorem kit_il : kitB "int" "list" = some false := by decide +kernel
theorem kit_sl : kitB "str" "list" = some false := by decide +kernel
theorem kit_tl : kitB "tuple" "list" = some false := by decide +kernel
theorem kit_ll : kitB "list" "list" = some true := by decide +kernel
theorem kit_dl : kitB "dict" "list" = some false := by decide +kernel
theorem re_isiLst {te : TE} {m : PT Dv} (T : EvIs K G.C) (h : RE G sl te m) : RE G sl (tCB (rIsi K) (tCons te (tCons (tC (.ty "list")) tNil))) (fun Q => m fun d => Q d.isLst) := fun σ A F H Qp Q E hm k =>
  h σ A F H _ _ E hm fun x v F1 H1 q1 g1 E1 r1 => isiD (f := Dv.isLst) T r1 kit_nl (fun _ => kit_bl') (fun _ => kit_il) (fun _ => kit_sl) (fun _ => kit_tl) (fun _ => kit_ll) kit_dl (fun _ => T.lst) (k _ _ F1 H1 q1 g1 E1 rfl)
theorem kit_nd : kitB "NoneType" "dict" = some false := by decide +kernel
theorem kit_bd : kitB "bool" "dict" = some false := by decide +kernel
theorem kit_id : kitB "int" "dict" = some false := by decide +kernel
theorem kit_sd : kitB "str" "dict" = some false := by decide +kernel
theorem kit_td : kitB "tuple" "dict" = some false := by decide +kernel
theorem kit_ld : kitB "list" "dict" = some false := by decide +kernel
theorem kit_dd : kitB "dict" "dict" = some true := by decide +kernel
theorem re_isiDct {te : TE} {m : PT Dv} (T : EvIs K G.C) (h : RE G sl te m) : RE G sl (tCB (rIsi K) (tCons te (tCons (tC (.ty "dict")) tNil))) (fun Q => m fun d => Q d.isDct) := fun σ A F H Qp Q E hm k =>
  h σ A F H _ _ E hm fun x v F1 H1 q1 g1 E1 r1 => isiD (f := Dv.isDct) T r1 kit_nd (fun _ => kit_bd) (fun _ => kit_id) (fun _ => kit_sd) (fun _ => kit_td) (fun _ => kit_ld) kit_dd (fun _ => T.dct) (k _ _ F1 H1 q1 g1 E1 rfl)
/-- {} -/
theorem re_dct : RE G sl tDNewK (pR Dv.dct) := fun σ A F H Qp Q E hm k => fun p hp =>
  k _ _ _ _ hm (New.upd hp).gk (E.newk (New.upd hp)) (by show DvR _ _ _ _ _; simp only [DvR]; exact ⟨p, _, rfl, .inr rfl, upd_same⟩)
end
end QV

namespace QV
open PySem L2 QW
theorem mapI_get {ns : List Int} {i : Nat} (h : i < ns.length) : (ns.map V.int)[i]? = some (.int (ns.getD i 0)) := by
  rw [List.getElem?_map, List.getD_eq_getElem?_getD, List.getElem?_eq_getElem h]; rfl
/-! ### tallies -/
structure Tal where
  b : Int
  o : List Int
  d : List Int
instance : Ow Tal := ⟨fun C F H as v x => ∃ t dx a1 a2, v = .ref t ∧ as = [t, a1, a2] ∧ a1 ≠ a2 ∧ H t = some (.ins C.Tally dx [("bottom", .int x.b), ("owing", .ref a1), ("awaiting", .ref a2)]) ∧ H a1 = some (.lst (x.o.map V.int)) ∧ H a2 = some (.lst (x.d.map V.int)),
  fun g k ⟨t, dx, a1, a2, e, ea, n, h0, h1, h2⟩ => ⟨t, dx, a1, a2, e, ea, n, k t (by rw [ea]; simp) _ h0, k a1 (by rw [ea]; simp) _ h1, k a2 (by rw [ea]; simp) _ h2⟩,
  fun ⟨t, dx, a1, a2, e, ea, n, h0, h1, h2⟩ b hb => by
    rw [ea] at hb
    simp only [List.mem_cons, List.not_mem_nil, or_false] at hb
    rcases hb with rfl | rfl | rfl
    · rw [h0]; exact fun z => by cases z
    · rw [h1]; exact fun z => by cases z
    · rw [h2]; exact fun z => by cases z⟩
structure CTT (K : PySem.W.Frag) (C : CA) : Prop where
  cl : Cls K C.Tally
  nB : NoAttr K C.Tally "bottom"
  nO : NoAttr K C.Tally "owing"
  nA : NoAttr K C.Tally "awaiting"
section
variable {G : Gx} {sl : List Sl} {X Y R : Type} [Rp X] [Rp Y] [Rp R] {K : PySem.W.Frag} {D : Ends}
theorem Env.tal {σ : St} {A : Nat → List Addr} {F : Rg} {H : Hp} {i : Nat} {x : Tal} (E : Env G sl σ A F H) (hi : sl[i]? = some (.own x)) :
    ∃ t dx a1 a2, σ[i]? = some (some (.ref t)) ∧ A i = [t, a1, a2] ∧ a1 ≠ a2 ∧ H t = some (.ins G.C.Tally dx [("bottom", .int x.b), ("owing", .ref a1), ("awaiting", .ref a2)]) ∧ H a1 = some (.lst (x.o.map V.int)) ∧ H a2 = some (.lst (x.d.map V.int)) := by
  obtain ⟨v, h1, t, dx, a1, a2, rfl, ea, n, h2, h3, h4⟩ := E.own hi
  exact ⟨t, dx, a1, a2, h1, ea, n, h2, h3, h4⟩
theorem re_bottom {i : Nat} {x : Tal} (T : CTT K G.C) (hi : sl[i]? = some (.own x)) : RE G sl (tFld K (tVar i) "bottom") (pR x.b) := fun σ A F H Qp Q E hm k => by
  obtain ⟨t, dx, a1, a2, h1, ea, n, h2, h3, h4⟩ := E.tal hi
  exact ⟨_, h1, t, _, dx, _, _, rfl, h2, T.cl, T.nB, rfl, k _ _ _ _ hm Gk.refl E rfl⟩
theorem rv_owing {i : Nat} {x : Tal} (T : CTT K G.C) (hi : sl[i]? = some (.own x)) : RV G sl (tFld K (tVar i) "owing") (pR x.o) := fun σ A F H Qp Q E hm k => by
  obtain ⟨t, dx, a1, a2, h1, ea, n, h2, h3, h4⟩ := E.tal hi
  refine ⟨_, h1, t, _, dx, _, _, rfl, h2, T.cl, T.nO, rfl, k _ a1 _ _ hm Gk.refl E fun F2 H2 g2 E2 => ?_⟩
  obtain ⟨t', dx', a1', a2', h1', ea', n', h2', h3', h4'⟩ := E2.tal hi
  rw [ea] at ea'
  cases ea'
  exact ⟨_, h3', RpL.of_ints _⟩
theorem rv_awaiting {i : Nat} {x : Tal} (T : CTT K G.C) (hi : sl[i]? = some (.own x)) : RV G sl (tFld K (tVar i) "awaiting") (pR x.d) := fun σ A F H Qp Q E hm k => by
  obtain ⟨t, dx, a1, a2, h1, ea, n, h2, h3, h4⟩ := E.tal hi
  refine ⟨_, h1, t, _, dx, _, _, rfl, h2, T.cl, T.nA, rfl, k _ a2 _ _ hm Gk.refl E fun F2 H2 g2 E2 => ?_⟩
  obtain ⟨t', dx', a1', a2', h1', ea', n', h2', h3', h4'⟩ := E2.tal hi
  rw [ea] at ea'
  cases ea'
  exact ⟨_, h4', RpL.of_ints _⟩
theorem tal_turn {σ : St} {A : Nat → List Addr} {F : Rg} {H : Hp} {i : Nat} {x y : Tal} {a : Addr} {ns : List Int} (E : Env G sl σ A F H) (hi : sl[i]? = some (.own x)) (ha : a ∈ A i) (hl : ∃ xs, H a = some (.lst xs)) (hy : ∀ v, σ[i]? = some (some v) → Ow.ow G.C F (upd H a (.lst (ns.map V.int))) (A i) v y) :
    Env G (sl.set i (.own y)) σ A F (upd H a (.lst (ns.map V.int))) := by
  have hil : i < sl.length := (List.getElem?_eq_some_iff.mp hi).1
  obtain ⟨v, h1, _⟩ := E.own hi
  have na : ¬ F a := (E.fr i a ha).1
  have g : Ge F H F (upd H a (.lst (ns.map V.int))) := fun b o f e => ⟨f, by
    have nb : b ≠ a := fun z => na (by rw [← z]; exact f)
    rw [upd_ne nb]; exact e⟩
  refine E.turn hil h1 g (hy v h1) (fun b o hb e => ?_) (fun b f => .inl f) (fun b f => f) (fun b e => ?_) (fun b f => ?_)
  · have nb : b ≠ a := fun z => hb (by rw [z]; exact ha)
    rw [upd_ne nb]; exact e
  · by_cases nb : b = a
    · subst nb; rw [upd_same] at e; cases e
    · rw [upd_ne nb] at e; exact e
  · have nb : b ≠ a := fun z => na (by rw [← z]; exact f)
    rw [upd_ne nb]; exact E.ok.al b f
/-- tally.owing[i] op= e; tally.awaiting[i] op= e -/
theorem rb_augO {ti te : TE} {i : Nat} {x : Tal} {f : Int → Int → Int} {m n : PT Int} {w : Nat → Int → Prop} (T : CTT K G.C) (hi : sl[i]? = some (.own x)) (h : RE G sl ti n) (h' : RE G sl te m) (k : ∀ j y, RB G (sl.set i (.own (Tal.mk x.b (x.o.set j (f (x.o.getD j 0) y)) x.d))) D.nx (w j y)) :
    RB G sl (tAugS (tFld K (tVar i) "owing") ti te (rGetL K) (ipI f) rSetL D) (n fun z => (0 ≤ z ∧ z.toNat < x.o.length) ∧ m fun y => w z.toNat y) := fun σ A F H E hm => by
  obtain ⟨t, dx, a1, a2, h1, ea, nn, h2, h3, h4⟩ := E.tal hi
  refine ⟨_, h1, t, _, dx, _, _, rfl, h2, T.cl, T.nO, rfl, h σ A F H _ _ E hm fun z u F1 H1 q1 g1 E1 r1 => ?_⟩
  subst r1
  obtain ⟨t', dx', a1', a2', h1', ea', n', h2', h3', h4'⟩ := E1.tal hi
  rw [ea] at ea'
  cases ea'
  have e1 : (x.o.map V.int)[z.toNat]? = some (.int (x.o.getD z.toNat 0)) := mapI_get q1.1.2
  refine i_getL h3' q1.1.1 e1 (h' σ A F1 H1 _ _ E1 q1.2 fun y u F2 H2 q2 g2 E2 r2 => ?_)
  subst r2
  refine i_ipI ?_
  obtain ⟨t', dx', a1', a2', h1', ea', n', h2', h3', h4'⟩ := E2.tal hi
  rw [ea] at ea'
  cases ea'
  refine ⟨a1, x.o.map V.int, z, z.toNat, rfl, rfl, h3', ?_, ?_⟩
  · unfold ixN
    rw [if_pos q1.1.1, if_pos (by rw [List.length_map]; have := q1.1.2; omega)]
  · rw [show (x.o.map V.int).set z.toNat (V.int (f (x.o.getD z.toNat 0) y)) = (x.o.set z.toNat (f (x.o.getD z.toNat 0) y)).map V.int by rw [List.map_set]]
    refine k _ y σ A F2 _ (tal_turn E2 hi (by rw [ea]; simp) ⟨_, h3'⟩ fun v hv => ?_) q2
    have ev : V.ref t = v := by
      have : some (some (V.ref t)) = some (some v) := h1'.symm.trans hv
      exact Option.some.inj (Option.some.inj this)
    have n1 : t ≠ a1 := fun z => by rw [z, h3'] at h2'; cases h2'
    exact ⟨t, _, a1, a2, ev.symm, ea, nn, by rw [upd_ne n1]; exact h2', upd_same, by rw [upd_ne (Ne.symm nn)]; exact h4'⟩
theorem rb_augD {ti te : TE} {i : Nat} {x : Tal} {f : Int → Int → Int} {m n : PT Int} {w : Nat → Int → Prop} (T : CTT K G.C) (hi : sl[i]? = some (.own x)) (h : RE G sl ti n) (h' : RE G sl te m) (k : ∀ j y, RB G (sl.set i (.own (Tal.mk x.b x.o (x.d.set j (f (x.d.getD j 0) y))))) D.nx (w j y)) :
    RB G sl (tAugS (tFld K (tVar i) "awaiting") ti te (rGetL K) (ipI f) rSetL D) (n fun z => (0 ≤ z ∧ z.toNat < x.d.length) ∧ m fun y => w z.toNat y) := fun σ A F H E hm => by
  obtain ⟨t, dx, a1, a2, h1, ea, nn, h2, h3, h4⟩ := E.tal hi
  refine ⟨_, h1, t, _, dx, _, _, rfl, h2, T.cl, T.nA, rfl, h σ A F H _ _ E hm fun z u F1 H1 q1 g1 E1 r1 => ?_⟩
  subst r1
  obtain ⟨t', dx', a1', a2', h1', ea', n', h2', h3', h4'⟩ := E1.tal hi
  rw [ea] at ea'
  cases ea'
  have e1 : (x.d.map V.int)[z.toNat]? = some (.int (x.d.getD z.toNat 0)) := mapI_get q1.1.2
  refine i_getL h4' q1.1.1 e1 (h' σ A F1 H1 _ _ E1 q1.2 fun y u F2 H2 q2 g2 E2 r2 => ?_)
  subst r2
  refine i_ipI ?_
  obtain ⟨t', dx', a1', a2', h1', ea', n', h2', h3', h4'⟩ := E2.tal hi
  rw [ea] at ea'
  cases ea'
  refine ⟨a2, x.d.map V.int, z, z.toNat, rfl, rfl, h4', ?_, ?_⟩
  · unfold ixN
    rw [if_pos q1.1.1, if_pos (by rw [List.length_map]; have := q1.1.2; omega)]
  · rw [show (x.d.map V.int).set z.toNat (V.int (f (x.d.getD z.toNat 0) y)) = (x.d.set z.toNat (f (x.d.getD z.toNat 0) y)).map V.int by rw [List.map_set]]
    refine k _ y σ A F2 _ (tal_turn E2 hi (by rw [ea]; simp) ⟨_, h4'⟩ fun v hv => ?_) q2
    have ev : V.ref t = v := by
      have : some (some (V.ref t)) = some (some v) := h1'.symm.trans hv
      exact Option.some.inj (Option.some.inj this)
    have n1 : t ≠ a2 := fun z => by rw [z, h4'] at h2'; cases h2'
    exact ⟨t, _, a1, a2, ev.symm, ea, nn, by rw [upd_ne n1]; exact h2', by rw [upd_ne nn]; exact h3', upd_same⟩
/-! ### what turns within an expression -/
theorem rb_retG {te : TE} {B : Type} {sl' : B → List Sl} {val : B → R} {m : PT B} {k : R → Prop} (h : REG G sl te sl' val m) (hr : RtA G D.rt k) : RB G sl (tRet te D) (m fun b => k (val b)) := fun σ A F H E hw =>
  h σ A F H _ _ E hw fun b v F1 H1 q1 g1 E1 r1 => hr _ σ A F1 H1 _ v E1 r1 q1
theorem reg_isN {te tb : TE} {B : Type} {sl' : B → List Sl} [NoN X] {val : B → Option X} {m : PT B} (h : REG G sl te sl' val m) : REG G sl (tOp oIsN te (tC .non)) sl' (fun b => (val b).isNone) m := fun σ A F H Qp Q E hm k =>
  h σ A F H _ _ E hm fun b v F1 H1 q1 g1 E1 r1 => ⟨rfl, k b _ _ _ q1 g1 E1 (by rw [rp_non r1]; rfl)⟩
theorem reg_notN {te tb : TE} {B : Type} {sl' : B → List Sl} [NoN X] {val : B → Option X} {m : PT B} (h : REG G sl te sl' val m) : REG G sl (tOp oNotN te (tC .non)) sl' (fun b => !(val b).isNone) m := fun σ A F H Qp Q E hm k =>
  h σ A F H _ _ E hm fun b v F1 H1 q1 g1 E1 r1 => ⟨rfl, k b _ _ _ q1 g1 E1 (by rw [rp_non r1]; rfl)⟩
theorem reg_and {ta tb : TE} {B : Type} {sl' : B → List Sl} {val : B → Bool} {m : PT B} {n : B → PT Bool} (h : REG G sl ta sl' val m) (h' : ∀ b, RE G (sl' b) tb (n b)) : REG G sl (tAndV ta tb) (fun c : B × Bool => sl' c.1) (fun c => c.2) (fun Q => m fun b => if val b = true then n b (fun r => Q (b, r)) else Q (b, false)) := fun σ A F H Qp Q E hm k =>
  h σ A F H _ _ E hm fun b v F1 H1 q1 g1 E1 r1 => ⟨val b, r1, by
    cases e : val b with
    | true =>
      rw [e, if_pos rfl] at q1
      rw [if_pos rfl]
      exact h' b σ A F1 H1 _ _ E1 q1 fun y w F2 H2 q2 g2 E2 r2 => k (b, y) w F2 H2 q2 (g1.trans g2) E2 r2
    | false =>
      rw [e, if_neg Bool.false_ne_true] at q1
      rw [if_neg Bool.false_ne_true]
      exact k (b, false) _ F1 H1 q1 g1 E1 rfl⟩
theorem rb_ifG {ta : TE} {t u : TS} {B : Type} {sl' : B → List Sl} {val : B → Bool} {m : PT B} {a b : B → Prop} (h : REG G sl ta sl' val m) (ha : ∀ c, RB G (sl' c) (t D) (a c)) (hb : ∀ c, RB G (sl' c) (u D) (b c)) : RB G sl (tIfS (tTest ta) t u D) (m fun c => if val c = true then a c else b c) := fun σ A F H E hw =>
  h σ A F H _ _ E hw fun c v F1 H1 q1 g1 E1 r1 => ⟨val c, r1, by
    cases e : val c with
    | true => rw [e, if_pos rfl] at q1; rw [if_pos rfl]; exact ha c σ A F1 H1 E1 q1
    | false => rw [e, if_neg Bool.false_ne_true] at q1; rw [if_neg Bool.false_ne_true]; exact hb c σ A F1 H1 E1 q1⟩
theorem rb_ifGn {ta : TE} {t u : TS} {B : Type} {sl' : B → List Sl} {val : B → Bool} {m : PT B} {a b : B → Prop} (h : REG G sl ta sl' val m) (ha : ∀ c, RB G (sl' c) (t D) (a c)) (hb : ∀ c, RB G (sl' c) (u D) (b c)) : RB G sl (tIfS (tNot (tTest ta)) t u D) (m fun c => if val c = true then b c else a c) := fun σ A F H E hw =>
  h σ A F H _ _ E hw fun c v F1 H1 q1 g1 E1 r1 => ⟨val c, r1, by
    cases e : val c with
    | true => rw [e, if_pos rfl] at q1; show if (!true) = true then _ else _; rw [if_neg (by simp)]; exact hb c σ A F1 H1 E1 q1
    | false => rw [e, if_neg Bool.false_ne_true] at q1; show if (!false) = true then _ else _; rw [if_pos (by simp)]; exact ha c σ A F1 H1 E1 q1⟩
end
/-! ### an argument that is owned and only looked at -/
def SpR (C : CA) (j : Nat) {R : Type} [Rp R] {Y : Type} [Ow Y] (wa : List Sl → PT R) : Sp := fun vs H Q _ => ∃ args F as w Qp, ∃ y : Y, ArgsOk C F H args vs as ∧ vs[j]? = some w ∧ args[j]? = some (.own y) ∧ (∀ b, F b → H b ≠ none) ∧ (∀ a ∈ as, ¬ F a) ∧ wa args Qp ∧
  ∀ r v F' H', Qp r → Post H F (fun a => a ∈ as) F' H' → (∀ a ∈ as, ¬ F' a) → Ow.ow C F' H' as w y → Rp.rp C F' H' v r → Q v H'
def RtR (G : Gx) {R W : Type} [Rp R] [Ow W] (y : W) (rt : VK) (k : R → Prop) : Prop := ∀ sl σ A F H r v p, Env G sl σ A F H → G.pin = some p → sl[p.1]? = some (.own y) → Rp.rp G.C F H v r → k r → rt v H
section
variable {G : Gx} {sl : List Sl} {X Y R : Type} [Rp X] [Rp Y] [Rp R] {K : PySem.W.Frag} {D : Ends} {C : CA}
theorem RtR.lift {H1 : Hp} {F1 w1 : Rg} {W : Type} [Ow W] {y : W} {rt : VK} {k : R → Prop} (l : Lift (G.at H1 F1 w1) G) (h : RtR G y rt k) : RtR (G.at H1 F1 w1) y rt k := fun sl σ A F H r v p E => h sl σ A F H r v p (l.env _ _ _ _ _ E)
theorem RtR.rt {W : Type} [Ow W] {y : W} {rt rt' : VK} {k : R → Prop} (h : RtR G y rt k) (e : rt' = rt) : RtR G y rt' k := by subst e; exact h
theorem rb_retR {W : Type} [Ow W] {te : TE} {m : PT R} {i : Nat} {y : W} {k : R → Prop} (h : RE G sl te m) (hp : G.pin.map (·.1) = some i) (hy : sl[i]? = some (.own y)) (hr : RtR G y D.rt k) : RB G sl (tRet te D) (m k) := fun σ A F H E hw =>
  h σ A F H _ _ E hw fun b v F1 H1 q1 g1 E1 r1 => by
    cases e : G.pin with
    | none => rw [e] at hp; cases hp
    | some p =>
      rw [e] at hp
      have e2 : p.1 = i := Option.some.inj hp
      exact hr _ σ A F1 H1 b v p E1 e (by rw [e2]; exact hy) r1 q1
theorem def_R {R Y : Type} [Rp R] [Ow Y] {j : Nat} {wa : List Sl → PT R} {t : TS} {N : List Str} {vs : List V} {H : Hp} {Q : VK} {E : XK} (h : SpR C j (Y := Y) wa vs H Q E)
    (ok : ∀ args Qp (y : Y), args[j]? = some (.own y) → wa args Qp → nOwn args = 1 ∧ ∃ n, N.length = args.length + n ∧ ∃ W : Prop, W ∧ ∀ (H0 : Hp) (F0 : Rg) (w : V) (as : List Addr) (D : Ends), RtR ⟨C, H0, F0, fun a => a ∈ as, some (j, w, as)⟩ y D.rt Qp → RB ⟨C, H0, F0, fun a => a ∈ as, some (j, w, as)⟩ (args ++ unS n) (t D) W) :
    t { nx := fun _ H' => Q .non H', rt := Q } (L2.start N vs) H := by
  obtain ⟨args, F, as, w, Qp, y, ha, hw', hy, hl, hf, hw, k⟩ := h
  obtain ⟨no, n, hn, W, hW, hb⟩ := ok args Qp y hy hw
  have E0 := env_startO ha no hy rfl hw' hl hf hn
  refine hb H F w as { nx := fun _ H' => Q .non H', rt := Q } (fun sl σ A F' H' r v p E' hp hy rr hr => ?_) _ _ _ _ E0 hW
  cases hp
  obtain ⟨h1, h2, _⟩ := E'.pn _ rfl
  obtain ⟨u, h3, h4⟩ := E'.own hy
  have e1 : u = w := by
    have h1' : σ[j]? = some (some w) := h1
    have h3' : σ[j]? = some (some u) := h3
    rw [h3'] at h1'
    exact Option.some.inj (Option.some.inj h1')
  have e2 : A j = as := h2
  have h4' : Ow.ow C F' H' (A j) u y := h4
  rw [e1, e2] at h4'
  exact k r v F' H' hr E'.ok (fun a ha => (E'.fr j a (by rw [e2]; exact ha)).1) h4' rr
theorem args_at {F : Rg} {H : Hp} : ∀ {args : List Sl} {vs : List V} {as : List Addr} {j : Nat} {s : Sl}, ArgsOk C F H args vs as → args[j]? = some s → j < vs.length := fun h e => by
  rw [args_len h]; exact (List.getElem?_eq_some_iff.mp e).1
theorem re_callR {W : Type} [Ow W] {j : Nat} {wa : List Sl → PT R} {i : Nat} {y0 : W} {t : TA} {m : (List Sl → Prop) → Prop} {E0' : XK} (hi : sl[i]? = some (.own y0)) (h : RA G sl (some (i, j)) t m) (hj : ∀ Q, m Q → m fun args => args[j]? = some (.own y0) ∧ Q args) :
    RE G sl (tCall (SpR G.C j (Y := W) wa) [] E0' t) (fun Q => m fun args => wa args Q) := fun σ A F H Qp Q E hm k =>
  h σ A F H _ _ E (hj _ hm) fun args vs F1 H1 ⟨hy, q1⟩ g1 E1 r1 hw => by
    obtain ⟨w, hw1, hw2⟩ := hw _ rfl
    have hil : i < sl.length := (List.getElem?_eq_some_iff.mp hi).1
    refine ⟨args, F1, A i, w, _, y0, by rw [List.append_nil]; exact r1, by rw [List.append_nil]; exact hw2, hy, E1.ok.al, fun a ha => (E1.fr i a ha).1, q1, fun r v F2 H2 q2 p2 nf o2 r2 => ?_⟩
    have hn : ∀ b, F2 b → F1 b ∨ H1 b = none := fun b f => (p2.new b f).imp id fun z => z.elim id fun z => absurd f (nf b z)
    have g2 : Ge F1 H1 F2 H2 := fun b o f e => ⟨p2.sub b f, p2.keep b o (fun hb => (E1.fr i b hb).1 f) e⟩
    have E2 := E1.turn hil hw1 g2 o2 (fun b o hb e => p2.keep b o hb e) hn p2.sub p2.live p2.al
    rw [set_id hi] at E2
    exact k r v F2 H2 q2 (g1.trans ⟨g2, fun b o hb e => p2.keep b o (hb i) e, p2.live, hn⟩) E2 r2
/-- a method of what is owned is a call of its def with it ahead -/
theorem meth_of {σ : St} {A : Nat → List Addr} {F : Rg} {H : Hp} {i : Nat} {x : Tal} {m : Str} {sp : Sp} {t : TA} {E0' : XK} {Q : VK} (E : Env G sl σ A F H) (hi : sl[i]? = some (.own x)) (hm : ([("bottom", V.int x.b), ("owing", .non), ("awaiting", .non)] : List (Str × V)).lookup m = none) (hm' : ∀ u v : V, ([("bottom", V.int x.b), ("owing", u), ("awaiting", v)] : List (Str × V)).lookup m = none)
    (h : tCall sp [] E0' (tCons (tVar i) t) σ H Q) : tMeth G.C.Tally m sp [] E0' (tVar i) t σ H Q := by
  obtain ⟨t0, dx, a1, a2, h1, ea, nn, h2, h3, h4⟩ := E.tal hi
  obtain ⟨v, e1, h⟩ := h
  rw [h1] at e1
  cases e1
  exact ⟨_, h1, t0, dx, _, rfl, h2, hm' _ _, h⟩
theorem re_meth {i : Nat} {x : Tal} {m : Str} {sp : Sp} {t : TA} {E0' : XK} {mm : PT X} (hi : sl[i]? = some (.own x)) (h : RE G sl (tCall sp [] E0' (tCons (tVar i) t)) mm) (hm : ∀ u v w : V, ([("bottom", u), ("owing", v), ("awaiting", w)] : List (Str × V)).lookup m = none := by intros; rfl) : RE G sl (tMeth G.C.Tally m sp [] E0' (tVar i) t) mm := fun σ A F H Qp Q E hq k =>
  meth_of E hi (hm _ _ _) (fun u v => hm _ u v) (h σ A F H Qp Q E hq k)
theorem reg_meth {i : Nat} {x : Tal} {m : Str} {sp : Sp} {t : TA} {E0' : XK} {B : Type} {sl' : B → List Sl} {val : B → X} {mm : PT B} (hi : sl[i]? = some (.own x)) (h : REG G sl (tCall sp [] E0' (tCons (tVar i) t)) sl' val mm) (hm : ∀ u v w : V, ([("bottom", u), ("owing", v), ("awaiting", w)] : List (Str × V)).lookup m = none := by intros; rfl) : REG G sl (tMeth G.C.Tally m sp [] E0' (tVar i) t) sl' val mm := fun σ A F H Qp Q E hq k =>
  meth_of E hi (hm _ _ _) (fun u v => hm _ u v) (h σ A F H Qp Q E hq k)
theorem reg_imp {te : TE} {B : Type} {sl' : B → List Sl} {val : B → X} {m m' : PT B} (h : REG G sl te sl' val m) (i : ∀ Q, m' Q → m Q) : REG G sl te sl' val m' := fun σ A F H Qp Q E hm k => h σ A F H Qp Q E (i _ hm) k
/-- f(C(..), ..): a new thing that is turned and forgotten -/
theorem re_callT {W : Type} [Ow W] {wa : List Sl → (R → W → Prop) → Prop} {te : TE} {t : TA} {mw : PT W} {m : (List Sl → Prop) → Prop} {E0' : XK} (h0 : RO G sl te mw) (h : RA G sl none t m) :
    RE G sl (tCall (SpO G.C 0 wa) [] E0' (tCons te t)) (fun Q => mw fun y => m fun args => wa (.own y :: args) fun r _ => Q r) := fun σ A F H Qp Q E hm k =>
  h0 σ A F H _ _ E hm fun y v F1 H1 as q1 g1 E1 o1 f1 => h σ A F1 H1 _ _ E1 q1 fun args vs F2 H2 q2 g2 E2 r2 _ => by
    have hA : ∀ a ∈ as, ∀ i, a ∉ A i := fun a ha i hi => E.live hi (f1 a ha).2
    have hal : ∀ a ∈ as, H1 a ≠ none := fun a ha => Ow.live o1 a ha
    have nF2 : ∀ a ∈ as, ¬ F2 a := fun a ha f => by
      rcases g2.new a f with f | f
      · exact (f1 a ha).1 f
      · exact hal a ha f
    have o2 : Ow.ow G.C F2 H2 as v y := Ow.mono g2.ge (fun a ha o e => g2.kp a o (hA a ha) e) o1
    refine ⟨.own y :: args, F2, as, v, _, by rw [List.append_nil]; exact ⟨as, [], by simp, o2, r2⟩, rfl, E2.ok.al, nF2, q2, fun r y' u F3 H3 q3 p3 nf o3 r3 => ?_⟩
    have hn : ∀ b, F3 b → F2 b ∨ H2 b = none := fun b f => (p3.new b f).imp id fun z => z.elim id fun z => absurd f (nf b z)
    have g3 : Ge F2 H2 F3 H3 := fun b o f e => ⟨p3.sub b f, p3.keep b o (fun hb => nF2 b hb f) e⟩
    have h0' : ∀ a ∈ as, G.H0 a = none := fun a ha => E.ok.live a (f1 a ha).2
    have g12 := g1.trans g2
    have gk : Gk A F H F3 H3 := ⟨g12.ge.trans g3, fun b o hb e => p3.keep b o (fun z => by rw [(f1 b z).2] at e; cases e) (g12.kp b o hb e), fun b e => g12.fr b (p3.live b e), fun b f => (hn b f).elim (g12.new b) fun e => .inr (g12.fr b e)⟩
    refine k r u F3 H3 q3 gk ⟨E2.len, fun i s hs => ?_, E2.out, E2.dj, fun i a ha => ⟨fun f => ?_, (E2.fr i a ha).2⟩, E2.ok.trans p3 (fun x hx => .inr (h0' x hx)), E2.pn⟩ r3
    · obtain ⟨o, h1, h2⟩ := E2.sls i s hs
      exact ⟨o, h1, h2.mono g3 fun a ha o e => p3.keep a o (fun z => hA a z i ha) e⟩
    · rcases hn a f with f | f
      · exact (E2.fr i a ha).1 f
      · exact E2.live ha f
/-- behind a call that may turn what nobody here owns -/
theorem Env.postW {σ : St} {A : Nat → List Addr} {F F' : Rg} {H H' : Hp} {ws : Rg} (E : Env G sl σ A F H) (p : Post H F ws F' H') (h : ∀ a, ws a → G.H0 a = none ∧ ¬ F a ∧ (∀ i, a ∉ A i) ∧ ¬ F' a) : Env G sl σ A F' H' ∧ Ge F H F' H' := by
  have g : Ge F H F' H' := fun b o f e => ⟨p.sub b f, p.keep b o (fun hb => (h b hb).2.1 f) e⟩
  have hn : ∀ b, F' b → F b ∨ H b = none := fun b f => (p.new b f).imp id fun z => z.elim id fun z => absurd f (h b z).2.2.2
  refine ⟨⟨E.len, fun i s hs => ?_, E.out, E.dj, fun i a ha => ⟨fun f => ?_, (E.fr i a ha).2⟩, E.ok.trans p (fun x hx => .inr (h x hx).1), E.pn⟩, g⟩
  · obtain ⟨o, h1, h2⟩ := E.sls i s hs
    exact ⟨o, h1, h2.mono g fun a ha o e => p.keep a o (fun z => (h a z).2.2.1 i ha) e⟩
  · rcases hn a f with f | f
    · exact (E.fr i a ha).1 f
    · exact E.live ha f
end
/-! ### an evening under way -/
inductive EvI where
  | e
  | o (o : Tu Q2)
  | f (o d : Tu Q2)
def EvIR (C : CA) (F : Rg) (H : Hp) (x : Addr) : EvI → Prop
  | .e => ∃ dx, H x = some (.ins C.Evening dx [])
  | .o o => ∃ dx vo, H x = some (.ins C.Evening dx [("owed", vo)]) ∧ Rp.rp C F H vo o
  | .f o d => ∃ dx vo vd, H x = some (.ins C.Evening dx [("owed", vo), ("due", vd)]) ∧ Rp.rp C F H vo o ∧ Rp.rp C F H vd d
instance : Ow EvI := ⟨fun C F H as v y => ∃ x, v = .ref x ∧ as = [x] ∧ EvIR C F H x y, fun {C F F' H H' as v y} g k ⟨x, e, ea, h⟩ => ⟨x, e, ea, by
  have kx := k x (by rw [ea]; simp)
  cases y with
  | e => obtain ⟨dx, h⟩ := h; exact ⟨dx, kx _ h⟩
  | o o => obtain ⟨dx, vo, h, h1⟩ := h; exact ⟨dx, vo, kx _ h, Rp.mono g h1⟩
  | f o d => obtain ⟨dx, vo, vd, h, h1, h2⟩ := h; exact ⟨dx, vo, vd, kx _ h, Rp.mono g h1, Rp.mono g h2⟩⟩, fun {C F H as v y} ⟨x, e, ea, h⟩ b hb => by
  rw [ea] at hb
  have hb : b = x := by simpa using hb
  subst hb
  cases y with
  | e => obtain ⟨dx, h⟩ := h; rw [h]; exact fun z => by cases z
  | o o => obtain ⟨dx, vo, h, h1⟩ := h; rw [h]; exact fun z => by cases z
  | f o d => obtain ⟨dx, vo, vd, h, h1, h2⟩ := h; rw [h]; exact fun z => by cases z⟩
section
variable {G : Gx} {sl : List Sl} {X : Type} [Rp X] {K : PySem.W.Frag} {D : Ends}
/-- an owned instance is stored to -/
theorem ins_turn {Y : Type} [Ow Y] {σ : St} {A : Nat → List Addr} {F : Rg} {H : Hp} {i : Nat} {y : Y} {x : Addr} {v : V} {o : HO} {z : Y} (E : Env G sl σ A F H) (hi : sl[i]? = some (.own z)) (hv : σ[i]? = some (some v)) (hx : x ∈ A i) (hy : Ow.ow G.C F (upd H x o) (A i) v y) : Env G (sl.set i (.own y)) σ A F (upd H x o) := by
  have hil : i < sl.length := (List.getElem?_eq_some_iff.mp hi).1
  have na : ¬ F x := (E.fr i x hx).1
  have g : Ge F H F (upd H x o) := fun b u f e => ⟨f, by
    have nb : b ≠ x := fun z => na (by rw [← z]; exact f)
    rw [upd_ne nb]; exact e⟩
  refine E.turn hil hv g hy (fun b u hb e => ?_) (fun b f => .inl f) (fun b f => f) (fun b e => ?_) (fun b f => ?_)
  · have nb : b ≠ x := fun z => hb (by rw [z]; exact hx)
    rw [upd_ne nb]; exact e
  · by_cases nb : b = x
    · subst nb; rw [upd_same] at e; cases e
    · rw [upd_ne nb] at e; exact e
  · have nb : b ≠ x := fun z => na (by rw [← z]; exact f)
    rw [upd_ne nb]; exact E.ok.al b f
theorem upd_ge {F : Rg} {H : Hp} {x : Addr} {o : HO} (na : ¬ F x) : Ge F H F (upd H x o) := fun b u f e => ⟨f, by
    have nb : b ≠ x := fun z => na (by rw [← z]; exact f)
    rw [upd_ne nb]; exact e⟩
theorem rb_selfO {te : TE} {i : Nat} {m : PT (Tu Q2)} {w : Tu Q2 → Prop} (T : CT K G.C) (hi : sl[i]? = some (.own EvI.e)) (h : RE G sl te m) (k : ∀ x, RB G (sl.set i (.own (EvI.o x))) D.nx (w x)) : RB G sl (sFld K (tVar i) te "owed" D) (m w) := fun σ A F H E hw =>
  h σ A F H w _ E hw fun o v F1 H1 q1 g1 E1 r1 => by
    obtain ⟨u, h1, x, rfl, ea, dx, hx⟩ := E1.own hi
    have na : ¬ F1 x := (E1.fr i x (by rw [ea]; simp)).1
    exact ⟨_, h1, x, _, dx, _, rfl, hx, T.cl, T.nO, by decide, k o σ A F1 _ (ins_turn E1 hi h1 (by rw [ea]; simp) ⟨x, rfl, ea, dx, v, upd_same, Rp.mono (upd_ge na) r1⟩) q1⟩
theorem rb_selfD {te : TE} {i : Nat} {o : Tu Q2} {m : PT (Tu Q2)} {w : Tu Q2 → Prop} (T : CT K G.C) (hi : sl[i]? = some (.own (EvI.o o))) (h : RE G sl te m) (k : ∀ x, RB G (sl.set i (.own (EvI.f o x))) D.nx (w x)) : RB G sl (sFld K (tVar i) te "due" D) (m w) := fun σ A F H E hw =>
  h σ A F H w _ E hw fun d v F1 H1 q1 g1 E1 r1 => by
    obtain ⟨u, h1, x, rfl, ea, dx, vo, hx, ho⟩ := E1.own hi
    have na : ¬ F1 x := (E1.fr i x (by rw [ea]; simp)).1
    exact ⟨_, h1, x, _, dx, _, rfl, hx, T.cl, T.nD, by show 1 < 1000; decide, k d σ A F1 _ (ins_turn E1 hi h1 (by rw [ea]; simp) ⟨x, rfl, ea, dx, vo, v, upd_same, Rp.mono (upd_ge na) ho, Rp.mono (upd_ge na) r1⟩) q1⟩
/-- Evening(..) -/
theorem re_evening {ta tb : TE} {m n : PT (Tu Q2)} {wa : List Sl → (Unit → EvI → Prop) → Prop} {w : Tu Q2 → Tu Q2 → (EvI → Prop) → Prop} {E0' : XK} (hw : ∀ o d Q, w o d Q → wa [.own EvI.e, .dat (X := Tu Q2) o, .dat (X := Tu Q2) d] (fun _ y => Q y)) (ha : RE G sl ta m) (hb : RE G sl tb n) :
    RE G sl (tMake G.C.Evening (SpO G.C 0 wa) [] E0' (tCons ta (tCons tb tNil))) (fun Q => m fun o => n fun d => w o d fun y => ∃ o' d', y = EvI.f o' d' ∧ Q (Ev.mk o' d')) := fun σ A F H Qp Q E hm k =>
  ha σ A F H _ _ E hm fun o vo F1 H1 q1 g1 E1 r1 => hb σ A F1 H1 _ _ E1 q1 fun d vd F2 H2 q2 g2 E2 r2 => by
    intro x dx nx nd ne
    have s1 : Same H2 (upd (upd H2 dx (.own x)) x (.ins G.C.Evening dx [])) := fun b u hb => by rw [upd_ne (ne_of_none hb nx), upd_ne (ne_of_none hb nd)]; exact hb
    have n1 : New F2 H2 F2 _ := New.same' s1
    have E3 := E2.newk n1
    have g12 := g1.trans g2
    have nF : ¬ F2 x := fun f => E2.ok.al _ f nx
    refine ⟨[.own EvI.e, .dat (X := Tu Q2) o, .dat (X := Tu Q2) d], F2, [x], .ref x, _, ⟨[x], [], rfl, ⟨x, rfl, rfl, dx, upd_same⟩, Rp.mono (g2.ge.trans n1.ge) r1, Rp.mono n1.ge r2, rfl⟩, rfl, E3.ok.al, fun a ha => by
      have : a = x := by simpa using ha
      rw [this]; exact nF, hw o d _ q2, fun u y v F4 H4 ⟨o', d', ey, q4⟩ p4 nf o4 r4 => ⟨r4, ?_⟩⟩
    subst ey
    obtain ⟨x', ex, ea, dx', vo', vd', h4, ho, hd⟩ := o4
    cases ex
    have h0x : G.H0 x = none := E2.ok.live _ nx
    obtain ⟨E4, g4⟩ := E3.postW p4 (fun a ha => by
      have : a = x := by simpa using ha
      subst this
      exact ⟨h0x, nF, fun i hi => E2.live hi nx, nf _ ha⟩)
    obtain ⟨E5, g5⟩ := E4.freeze (a := x) (by rw [h4]; exact fun z => by cases z) h0x (fun i hi => E2.live hi nx)
    have hx0 : H x = none := g12.fr _ nx
    refine k (Ev.mk o' d') (.ref x) (fun b => F4 b ∨ b = x) H4 q4 ⟨((g12.ge.trans n1.ge).trans g4).trans g5, fun b u hb e => ?_, fun b e => g12.fr b (s1.free (p4.live b e)), fun b f => ?_⟩ E5 ⟨x, dx', vo', vd', rfl, .inr rfl, h4, Rp.mono g5 ho, Rp.mono g5 hd⟩
    · exact p4.keep b u (fun z => by
        have : b = x := by simpa using z
        rw [this, hx0] at e; cases e) (s1 _ _ (g12.kp b u hb e))
    · rcases f with f | rfl
      · rcases p4.new b f with f | f | f
        · exact g12.new b f
        · exact .inr (g12.fr b (s1.free f))
        · have : b = x := by simpa using f
          rw [this]; exact .inr hx0
      · exact .inr hx0
end
/-! ### a tally under way -/
structure TalI where
  dx : Addr
  fs : List (Str × V)
instance : Ow TalI := ⟨fun C F H as v y => ∃ x, v = .ref x ∧ as = [x] ∧ H x = some (.ins C.Tally y.dx y.fs), fun g k ⟨x, e, ea, h⟩ => ⟨x, e, ea, k x (by rw [ea]; simp) _ h⟩, fun ⟨x, e, ea, h⟩ b hb => by
  rw [ea] at hb
  have hb : b = x := by simpa using hb
  rw [hb, h]; exact fun z => by cases z⟩
section
variable {G : Gx} {sl : List Sl} {X : Type} [Rp X] {K : PySem.W.Frag} {D : Ends}
theorem re_fldI {i : Nat} {y : TalI} {f : Str} {b : Int} (cl : Cls K G.C.Tally) (n : NoAttr K G.C.Tally f) (hi : sl[i]? = some (.own y)) (hf : y.fs.lookup f = some (.int b)) : RE G sl (tFld K (tVar i) f) (pR b) := fun σ A F H Qp Q E hm k => by
  obtain ⟨v, h1, x, rfl, ea, hx⟩ := E.own hi
  exact ⟨_, h1, x, _, _, _, _, rfl, hx, cl, n, hf, k _ _ _ _ hm Gk.refl E rfl⟩
/-- Tally(..) -/
theorem ro_tally {ta : TE} {m : PT Ev} {w : Ev → (Tal → Prop) → Prop} {sp : Sp} {E0' : XK} (hsp : ∀ vs H Q, (∃ x dx ve e F Qp, vs = [.ref x, ve] ∧ H x = some (.ins G.C.Tally dx []) ∧ ¬ F x ∧ (∀ b, F b → H b ≠ none) ∧ Rp.rp G.C F H ve (e : Ev) ∧ w e Qp ∧
      ∀ y F' H' as, Qp y → Post H F (fun a => a = x) F' H' → ¬ F' x → Ow.ow G.C F' H' as (.ref x) y → (∀ a ∈ as, ¬ F' a ∧ (a = x ∨ H a = none)) → Q .non H') → sp vs H Q E0') (ha : RE G sl ta m) :
    RO G sl (tMake G.C.Tally sp [] E0' (tCons ta tNil)) (fun Q => m fun e => w e Q) := fun σ A F H Qp Q E hm k =>
  ha σ A F H _ _ E hm fun e ve F1 H1 q1 g1 E1 r1 => by
    intro x dx nx nd ne
    have s1 : Same H1 (upd (upd H1 dx (.own x)) x (.ins G.C.Tally dx [])) := fun b u hb => by rw [upd_ne (ne_of_none hb nx), upd_ne (ne_of_none hb nd)]; exact hb
    have n1 : New F1 H1 F1 _ := New.same' s1
    have E2 := E1.newk n1
    have nF : ¬ F1 x := fun f => E1.ok.al _ f nx
    have hx0 : H x = none := g1.fr _ nx
    refine hsp _ _ _ ⟨x, dx, ve, e, F1, Qp, by simp, upd_same, nF, E2.ok.al, Rp.mono n1.ge r1, q1, fun y F3 H3 as q3 p3 nx3 o3 f3 => ⟨rfl, ?_⟩⟩
    obtain ⟨E3, g3⟩ := E2.postW p3 (fun a ha => by
      have : a = x := ha
      subst this
      exact ⟨E1.ok.live _ nx, nF, fun i hi => E1.live hi nx, nx3⟩)
    refine k y (.ref x) F3 H3 as q3 ⟨(g1.ge.trans n1.ge).trans g3, fun b u hb e => ?_, fun b e => g1.fr b (s1.free (p3.live b e)), fun b f => ?_⟩ E3 o3 fun a ha => ⟨(f3 a ha).1, ?_⟩
    · exact p3.keep b u (fun z => by
        have : b = x := z
        rw [this, hx0] at e; cases e) (s1 _ _ (g1.kp b u hb e))
    · rcases p3.new b f with f | f | f
      · exact g1.new b f
      · exact .inr (g1.fr b (s1.free f))
      · have : b = x := f
        rw [this]; exact .inr hx0
    · rcases (f3 a ha).2 with rfl | h
      · exact hx0
      · exact g1.fr a (s1.free h)
end
end QV

namespace L2
open PySem PySem.Spec PyProof.Rows
/-- sorted(set(xs)), xs a list of tuples of ints -/
def tSortSetT (K : PySem.W.Frag) (ta : TE) : TE := fun σ H Q => ta σ H fun x H1 => ∃ (a : Addr) (ks : List (Addr × List Int)) (d : Nat) (B : Int), x = .ref a ∧ SqL K H1 a (ks.map fun p => V.ref p.1) ∧ (∀ p ∈ ks, SqT K H1 p.1 (p.2.map V.int)) ∧ ks.length < 64 ∧ 1 ≤ d ∧ (∀ p ∈ ks, p.2.length = d ∧ TS.Bd B p.2) ∧
  ∀ (L : List (Addr × List Int)) (p : Addr) (H' : Hp), (∀ q ∈ L, q ∈ ks) → (∀ q ∈ ks, q.2 ∈ L.map (·.2)) → (L.map (·.2)).Nodup → L.Pairwise (fun q r => TS.code B q.2 ≤ TS.code B r.2) → H1 p = none → (∀ b o, H1 b = some o → H' b = some o) → H' p = some (.lst (L.map fun q => V.ref q.1)) → Q (.ref p) H'
theorem pe_sortSetT {X : Cx} {a : Expr} {ta : TE} {p p2 q pos : Pos} (hc : X.calm = true) (hu : X.A.units + 64 < cLine) (hg : Gl X "sorted") (hm : X.mg "sorted" = none) (hg2 : Gl X "set") (hm2 : X.mg "set" = none) (ha : PE X a ta)
    (na : starEach [a] X.env = (false, eval a X.env) :: starEach [] X.env := by rfl) : PE X (.Call (.Name "sorted" p) [.Call (.Name "set" p2) [a] [] q] [] pos) (tSortSetT X.K ta) := by
  refine ⟨fun pins s σ H Q I h => ?_⟩
  refine Call_ (ld_blt I hg hm PyProof.Rows.boot_sorted ?_)
  refine PyProof.Rows.callWith_builtin1 (PyProof.Rows.args_cons ?_ rfl) rfl rfl
  refine Call_ (ld_blt I hg2 hm2 PyProof.Rows.boot_set ?_)
  refine PyProof.Rows.callWith_type1 (PyProof.Rows.args_cons (thn (ha.run pins s σ H _ I h) fun v s1 ⟨x, H1, I1, r1, q1⟩ => PyProof.Rows.args_nil ?_) na) na rfl
  obtain ⟨l, ks, d, B, rfl, hq, hk, h1, hd, hB, q1⟩ := q1
  refine thn (cr_setOfT (X := X) hc hu pins s1 σ H1 [.ref l] [v] (fun w H2 => ∃ p L, w = .ref p ∧ H1 p = none ∧ (∀ p ∈ L, p ∈ ks) ∧ (∀ p ∈ ks, p.2 ∈ L.map (·.2)) ∧ H2 = upd H1 p (SetTO X.prog X.w p L)) I1 (.cons r1 .nil) ⟨l, ks, rfl, hq, hk, h1, fun p L hp s1 s2 => ⟨p, L, rfl, hp, s1, s2, rfl⟩⟩) fun u s2 ⟨y, H2, I2, r2, b, L, ey, hb, m1, m2, eH⟩ => PyProof.Rows.args_nil ?_
  subst ey eH
  refine cr_sortedT hc pins s2 σ _ [.ref b] [u] Q I2 (.cons r2 .nil) ⟨b, L, d, B, rfl, upd_same, fun p hp => ?_, hd, fun p hp => hB p (m1 p hp), fun L' p pm nd hl pw hn' => ?_⟩
  · rcases hk p (m1 p hp) with r | r
    · refine .inl ?_
      rcases r with r | ⟨o, r⟩
      · exact .inl (by rw [upd_ne (ne_of_none r hb)]; exact r)
      · exact .inr ⟨o, by rw [upd_ne (ne_of_none r hb)]; exact r⟩
    · exact .inr r
  have hpb : p ≠ b := fun e => by rw [e, upd_same] at hn'; cases hn'
  have hp1 : H1 p = none := by rw [upd_ne hpb] at hn'; exact hn'
  refine q1 L' p _ (fun q hq => m1 q (pm.mem_iff.mp hq)) (fun q hq => (pm.map (·.2)).mem_iff.mpr (m2 q hq)) nd pw hp1 (fun c o e => ?_) upd_same
  rw [upd_ne (ne_of_none e hp1), upd_ne (ne_of_none e hb)]
  exact e
end L2

namespace QV
open PySem L2 QW
@[reducible] def pLex (p q : Int × Int) : Prop := p.1 < q.1 ∨ (p.1 = q.1 ∧ p.2 < q.2)
@[reducible] def pSortSetI (xs : List Int) : PT (List Int) := fun Q => xs.length < 64 ∧ ∀ ys, ys.Pairwise (· < ·) → (∀ k, k ∈ ys ↔ k ∈ xs) → Q ys
@[reducible] def pSortSetP (xs : List (Int × Int)) : PT (List (Int × Int)) := fun Q => xs.length < 64 ∧ (∀ p ∈ xs, 0 ≤ p.1 ∧ 0 ≤ p.2) ∧ ∀ ys, ys.Pairwise pLex → (∀ k, k ∈ ys ↔ k ∈ xs) → Q ys
section
variable {G : Gx} {sl : List Sl} {K : PySem.W.Frag} {C : CA}
theorem pairs_ks {F : Rg} {H : Hp} : ∀ {vs : List V} {xs : List (Int × Int)}, RpL C F H vs xs → ∃ ks : List (Addr × List Int), vs = ks.map (fun p => V.ref p.1) ∧ ks.map (·.2) = xs.map (fun p => [p.1, p.2]) ∧ ∀ p ∈ ks, F p.1 ∧ H p.1 = some (.tup (p.2.map V.int))
  | [], [], _ => ⟨[], rfl, rfl, fun _ h => by cases h⟩
  | v :: vs, x :: xs, h => by
    obtain ⟨ks, e1, e2, h3⟩ := pairs_ks h.2
    obtain ⟨a, u, w, rfl, f, ha, hu, hw⟩ := h.1
    have hu : u = .int x.1 := hu
    have hw : w = .int x.2 := hw
    subst hu hw
    refine ⟨(a, [x.1, x.2]) :: ks, by simp [e1], by simp [e2], fun p hp => ?_⟩
    rcases List.mem_cons.mp hp with rfl | hp
    · exact ⟨f, ha⟩
    · exact h3 p hp
  | [], _ :: _, h => h.elim
  | _ :: _, [], h => h.elim
theorem bound_of : ∀ (xs : List (Int × Int)), ∃ B : Int, ∀ p ∈ xs, p.1 < B ∧ p.2 < B
  | [] => ⟨0, fun _ h => by cases h⟩
  | x :: xs => by
    obtain ⟨B, h⟩ := bound_of xs
    refine ⟨max B (max (x.1 + 1) (x.2 + 1)), fun p hp => ?_⟩
    rcases List.mem_cons.mp hp with rfl | hp
    · omega
    · have := h p hp
      omega
theorem ro_sortSetI {te : TE} {m : PT (List Int)} (h : RV G sl te m) : RO G sl (tSortSet G.C.K te) (fun Q => m fun xs => pSortSetI xs Q) := fun σ A F H Qp Q E hm k =>
  h σ A F H _ _ E hm fun xs a F1 H1 q1 g1 E1 r1 => by
    obtain ⟨vs, ha, hl⟩ := r1 F1 H1 Ge.refl E1
    have e := hl.ints
    subst e
    refine ⟨a, xs, rfl, SqL.of ha, q1.1, fun ns' p H' hle pw hm' hn hk hp => ?_⟩
    have n : New F1 H1 F1 H' := New.same' hk
    refine k ns' (.ref p) F1 H' [p] (q1.2 ns' pw hm') (g1.trans n.gk) (E1.newk n) ⟨p, _, rfl, rfl, hp, RpL.of_ints ns'⟩ fun b hb => ?_
    have e : b = p := by simpa using hb
    subst e
    exact ⟨fun f => E1.ok.al _ f hn, g1.fr _ hn⟩
theorem ro_sortSetP {te : TE} {m : PT (List (Int × Int))} (h : RV G sl te m) : RO G sl (tSortSetT G.C.K te) (fun Q => m fun xs => pSortSetP xs Q) := fun σ A F H Qp Q E hm k =>
  h σ A F H _ _ E hm fun xs a F1 H1 q1 g1 E1 r1 => by
    obtain ⟨vs, ha, hl⟩ := r1 F1 H1 Ge.refl E1
    obtain ⟨ks, e1, e2, h3⟩ := pairs_ks hl
    obtain ⟨B, hB⟩ := bound_of xs
    have shape : ∀ p ∈ ks, ∃ x ∈ xs, p.2 = [x.1, x.2] := fun p hp => by
      have : p.2 ∈ ks.map (·.2) := List.mem_map.mpr ⟨p, hp, rfl⟩
      rw [e2] at this
      obtain ⟨x, hx, e⟩ := List.mem_map.mp this
      exact ⟨x, hx, e.symm⟩
    have bd : ∀ x ∈ xs, TS.Bd B [x.1, x.2] := fun x hx m hm => by
      have h1 := q1.2.1 x hx
      have h2 := hB x hx
      rcases List.mem_cons.mp hm with rfl | hm
      · exact ⟨h1.1, h2.1⟩
      · have e : m = x.2 := by simpa using hm
        subst e
        exact ⟨h1.2, h2.2⟩
    have hlen : ks.length = xs.length := by simpa using congrArg List.length e2
    refine ⟨a, ks, 2, B, rfl, SqL.of (by rw [ha, e1]), fun p hp => SqT.of (h3 p hp).2, by rw [hlen]; exact q1.1, by omega, fun p hp => ?_, fun L p H' m1 m2 nd pw hn hk hp => ?_⟩
    · obtain ⟨x, hx, e⟩ := shape p hp
      rw [e]
      exact ⟨rfl, bd x hx⟩
    have n : New F1 H1 F1 H' := New.same' hk
    have mk : ∀ L : List (Addr × List Int), (∀ q ∈ L, q ∈ ks) → ∃ ys : List (Int × Int), L.map (·.2) = ys.map (fun p => [p.1, p.2]) ∧ RpL G.C F1 H' (L.map fun q => V.ref q.1) ys ∧ ∀ y ∈ ys, y ∈ xs := by
      intro L
      induction L with
      | nil => exact fun _ => ⟨[], rfl, trivial, fun _ h => by cases h⟩
      | cons q L ih =>
        intro hL
        obtain ⟨ys, h1, h2, h4⟩ := ih fun r hr => hL r (List.mem_cons_of_mem _ hr)
        obtain ⟨x, hx, e⟩ := shape q (hL q List.mem_cons_self)
        obtain ⟨f, hq⟩ := h3 q (hL q List.mem_cons_self)
        rw [e] at hq
        refine ⟨x :: ys, by simp [h1, e], ⟨⟨q.1, .int x.1, .int x.2, rfl, f, hk _ _ hq, rfl, rfl⟩, h2⟩, fun y hy => ?_⟩
        rcases List.mem_cons.mp hy with rfl | hy
        · exact hx
        · exact h4 y hy
    obtain ⟨ys, y1, y2, y3⟩ := mk L m1
    have nd' : (ys.map fun p : Int × Int => [p.1, p.2]).Nodup := by rw [← y1]; exact nd
    have pw' : ys.Pairwise (fun p q => TS.code B [p.1, p.2] ≤ TS.code B [q.1, q.2]) := by
      have : (L.map (·.2)).Pairwise (fun q r => TS.code B q ≤ TS.code B r) := List.pairwise_map.mpr pw
      rw [y1] at this
      exact (List.pairwise_map (f := fun p : Int × Int => [p.1, p.2]) (R := fun q r => TS.code B q ≤ TS.code B r)).mp this
    have ne : ys.Pairwise (fun p q => [p.1, p.2] ≠ [q.1, q.2]) := List.pairwise_map.mp nd'
    have lex : ys.Pairwise pLex := by
      refine (List.Pairwise.and pw' ne).imp_of_mem fun {p q} hp hq h => ?_
      rcases L2.code_lex (bd p (y3 p hp)) (bd q (y3 q hq)) h.1 with z | ⟨z1, z2⟩
      · exact .inl z
      · refine .inr ⟨z1, ?_⟩
        rcases Int.lt_or_eq_of_le z2 with z | z
        · exact z
        · exact absurd (by rw [z1, z]) h.2
    refine k ys (.ref p) F1 H' [p] (q1.2.2 ys lex fun y => ⟨y3 y, fun hy => ?_⟩) (g1.trans n.gk) (E1.newk n) ⟨p, _, rfl, rfl, hp, y2⟩ fun b hb => ?_
    · have : [y.1, y.2] ∈ ks.map (·.2) := by rw [e2]; exact List.mem_map.mpr ⟨y, hy, rfl⟩
      obtain ⟨q, hq, e⟩ := List.mem_map.mp this
      have := m2 q hq
      rw [y1] at this
      obtain ⟨z, hz, e'⟩ := List.mem_map.mp this
      have e3 : [z.1, z.2] = [y.1, y.2] := e'.trans e
      have : z = y := by
        simp at e3
        exact Prod.ext e3.1 e3.2
      rw [← this]; exact hz
    · have e : b = p := by simpa using hb
      subst e
      exact ⟨fun f => E1.ok.al _ f hn, g1.fr _ hn⟩
/-! ### `<` of things -/
def rLtU (K : PySem.W.Frag) : R2 := fun x y H Q => oLt x y H Q ∨ rLtT K x y H Q
theorem op_ltU {X : Cx} (hu : X.A.units < cLine) : OpR X (compareOp .Lt) (rLtU X.K) := fun pins s σ H x y v u Q I rx ry h => by
  rcases h with h | h
  · exact op_lt pins s σ H x y v u Q I rx ry h
  · exact op_ltT hu pins s σ H x y v u Q I rx ry h
@[reducible] def pLtD (d e : Dv) : PT Bool := fun Q => (∃ i j, d = .int i ∧ e = .int j ∧ Q (decide (i < j))) ∨ (∃ ns ms, d = .tup (ns.map Dv.int) ∧ e = .tup (ms.map Dv.int) ∧ Q (HT.lexLt ns ms))
theorem DvL.ints {F : Rg} {H : Hp} : ∀ {vs : List V} {ns : List Int}, DvL C F H vs (ns.map Dv.int) → vs = ns.map V.int
  | [], [], _ => rfl
  | v :: vs, n :: ns, h => by
    simp only [List.map_cons, DvL, DvR] at h
    rw [h.1, DvL.ints h.2]
    rfl
  | [], _ :: _, h => by simp [DvL] at h
  | _ :: _, [], h => by simp [DvL] at h
theorem o_ltD : OP C (rLtU K) pLtD := fun F H v w x y Qp Q h1 h2 hq k => by
  have h1 : DvR C F H v x := h1
  have h2 : DvR C F H w y := h2
  rcases hq with ⟨i, j, rfl, rfl, q⟩ | ⟨ns, ms, rfl, rfl, q⟩
  · simp only [DvR] at h1 h2
    exact .inl (o_lt F H v w i j Qp Q h1 h2 q k)
  · simp only [DvR] at h1 h2
    obtain ⟨a, vs, rfl, f, ha, hl⟩ := h1
    obtain ⟨b, ws, rfl, f', hb, hl'⟩ := h2
    rw [hl.ints] at ha
    rw [hl'.ints] at hb
    exact .inr ⟨a, b, ns, ms, rfl, rfl, SqT.of ha, SqT.of hb, k _ _ F H q New.refl rfl⟩
theorem re_ltD {ta tb : TE} {m n : PT Dv} (ha : RE G sl ta m) (hb : RE G sl tb n) : RE G sl (tOp (rLtU G.C.K) ta tb) (fun Q => m fun a => n fun b => pLtD a b Q) := re_op o_ltD ha hb
theorem o_ltP : OP C (rLtT K) (fun (p q : Int × Int) => pR (HT.lexLt [p.1, p.2] [q.1, q.2])) := fun F H v w x y Qp Q h1 h2 hq k => by
  obtain ⟨a, u, u', rfl, f, ha, e1, e2⟩ := h1
  obtain ⟨b, z, z', rfl, f', hb, e3, e4⟩ := h2
  have e1 : u = .int x.1 := e1
  have e2 : u' = .int x.2 := e2
  have e3 : z = .int y.1 := e3
  have e4 : z' = .int y.2 := e4
  subst e1 e2 e3 e4
  exact ⟨a, b, [x.1, x.2], [y.1, y.2], rfl, rfl, SqT.of ha, SqT.of hb, k _ _ F H hq New.refl rfl⟩
theorem o_ltTu : OP C (rLtT K) (fun (p q : Tu Int) => pR (HT.lexLt p.l q.l)) := fun F H v w x y Qp Q h1 h2 hq k => by
  obtain ⟨a, vs, rfl, f, ha, hl⟩ := h1
  obtain ⟨b, ws, rfl, f', hb, hl'⟩ := h2
  rw [hl.ints] at ha
  rw [hl'.ints] at hb
  exact ⟨a, b, x.l, y.l, rfl, rfl, SqT.of ha, SqT.of hb, k _ _ F H hq New.refl rfl⟩
theorem re_embTu {X : Type} [Rp X] [Emb X] {te : TE} {m : PT (Tu X)} (h : RE G sl te m) : RE G sl te (fun Q => m fun x => Q (Tu.mk (x.l.map (Emb.emb (X := X))))) := fun σ A F H Qp Q E hm k =>
  h σ A F H _ Q E hm fun x v F1 H1 q1 g1 E1 r1 => by
    obtain ⟨a, vs, e, f, ha, hl⟩ := r1
    exact k _ v F1 H1 q1 g1 E1 ⟨a, vs, e, f, ha, DvL.rp.mp (Emb.list hl)⟩
theorem re_embLs {X : Type} [Rp X] [Emb X] {te : TE} {m : PT (List X)} (h : RE G sl te m) : RE G sl te (fun Q => m fun x => Q (x.map (Emb.emb (X := X)))) := fun σ A F H Qp Q E hm k =>
  h σ A F H _ Q E hm fun x v F1 H1 q1 g1 E1 r1 => by
    obtain ⟨a, vs, e, f, ha, hl⟩ := r1
    exact k _ v F1 H1 q1 g1 E1 ⟨a, vs, e, f, ha, DvL.rp.mp (Emb.list hl)⟩
end
theorem pe_callD0 {X : Cx} {x : Str} {p pos : Pos} {k : Nat} {ps : List Str} {sp : Sp} (Dd : Okd X.prog X.w X.K X.mg X.base k x ps sp) (hr : Room k X.A) (hg : Gl X x := by rfl) (hdb : (x == ("__debug__" : Str)) = false := by decide) : PE X (.Call (.Name x p) [] [] pos) (tCall sp [] E0 tNil) := by
  obtain ⟨f, fd, F, h1, h2, h3⟩ := Dd.ex
  exact pe_call0 F hr hg h1 h2 h3 .nil pass0 hdb
theorem kit_own {K : PySem.W.Frag} {C : Addr} {n : String} (hm : PySem.W.kitMeta n = true) (h : PySem.W.mroIn K C (.type n) = some false) : PySem.W.kitOne K (.ref C) (.type n) = some false := by
  unfold PySem.W.kitOne
  rw [if_neg (by simp)]
  show (if PySem.W.kitMeta n = true then PySem.W.subIn K (.ref C) (.type n) else none) = some false
  rw [if_pos hm]
  exact h
theorem kit_metas : PySem.W.kitMeta "tuple" = true ∧ PySem.W.kitMeta "int" = true ∧ PySem.W.kitMeta "bool" = true ∧ PySem.W.kitMeta "list" = true ∧ PySem.W.kitMeta "dict" = true ∧ PySem.W.kitMeta "str" = true := by decide +kernel
end QV

namespace QV
open PySem L2 QW
/-! ### the script -/
structure Scr where
  ns : List Int
instance : Rp Scr := ⟨fun C F H v x => ∃ a, v = .ref a ∧ x.ns.length ≤ 63 ∧ ((F a ∧ Rd H a (.lst (x.ns.map V.int))) ∨ ∀ H', SqL C.K H' a (x.ns.map V.int)), fun {C F F' H H' v x} g ⟨a, e, hl, h⟩ => ⟨a, e, hl, h.imp (fun ⟨f, h⟩ => by
  rcases h with h | ⟨o, h⟩
  · exact ⟨(g _ _ f h).1, .inl (g _ _ f h).2⟩
  · exact ⟨(g _ _ f h).1, .inr ⟨o, (g _ _ f h).2⟩⟩) id⟩⟩
theorem Scr.sq {C : CA} {F : Rg} {H : Hp} {v : V} {x : Scr} (h : Rp.rp C F H v x) : ∃ a, v = .ref a ∧ x.ns.length ≤ 63 ∧ SqL C.K H a (x.ns.map V.int) := by
  obtain ⟨a, e, hl, h | h⟩ := h
  · exact ⟨a, e, hl, .inl h.2⟩
  · exact ⟨a, e, hl, h H⟩
theorem ro_slScr {G : Gx} {sl : List Sl} {te : TE} {tl th : TO} {m : PT Scr} {l h : PT (Option Int)} (he : RE G sl te m) (hl : RPo G sl tl l) (hh : RPo G sl th h) : RO G sl (tSl (rSlL G.C.K) te tl th) (fun Q => m fun p => l fun a => h fun b => Q (cutL p.ns a b)) := fun σ A F H Qp Q E hm k =>
  he σ A F H _ _ E hm fun x v F1 H1 q1 g1 E1 r1 => hl σ A F1 H1 _ _ E1 q1 fun lo F2 H2 q2 g2 E2 => hh σ A F2 H2 _ _ E2 q2 fun hi F3 H3 q3 g3 E3 => by
    obtain ⟨a, rfl, hl, hs⟩ := Scr.sq (Rp.mono (g2.trans g3).ge r1)
    refine ⟨a, _, rfl, hs, ?_⟩
    exact ro_new E3 ((g1.trans g2).trans g3).fr (cutV_rel (RpL.of_ints x.ns)) fun v F4 H4 as g4 E4 o4 f4 => k _ _ _ _ _ q3 (((g1.trans g2).trans g3).trans g4) E4 o4 f4
theorem re_lenScr {G : Gx} {sl : List Sl} {te : TE} {m : PT Scr} (h : RE G sl te m) : RE G sl (tCB (cLen G.C.K) (tCons te tNil)) (fun Q => m fun s => Q (s.ns.length : Int)) := fun σ A F H Qp Q E hm k =>
  h σ A F H _ _ E hm fun x v F1 H1 q1 g1 E1 r1 => by
    obtain ⟨a, rfl, hl, hs⟩ := Scr.sq r1
    refine ⟨_, _, rfl, .inl ⟨_, hs, rfl⟩, k _ _ _ _ q1 g1 E1 ?_⟩
    show V.int _ = V.int _
    rw [List.length_map]
theorem re_ixScr {G : Gx} {sl : List Sl} {ta tb : TE} {m : PT Scr} {n : PT Int} (ha : RE G sl ta m) (hb : RE G sl tb n) : RE G sl (tOp (rIxL G.C.K) ta tb) (fun Q => m fun s => n fun i => pAt s.ns i Q) := fun σ A F H Qp Q E hm k =>
  ha σ A F H _ _ E hm fun x v F1 H1 q1 g1 E1 r1 => hb σ A F1 H1 _ _ E1 q1 fun y u F2 H2 q2 g2 E2 r2 => by
    obtain ⟨a, rfl, hl, hs⟩ := Scr.sq (Rp.mono g2.ge r1)
    obtain ⟨z, e, q⟩ := q2
    obtain ⟨w, h1, h2⟩ := atI_rel (C := G.C) (F := F2) (H := H2) (RpL.of_ints x.ns) e
    subst r2
    exact ⟨a, _, y, w, rfl, rfl, hs, h1, k z w F2 H2 q (g1.trans g2) E2 h2⟩
theorem rw_scr {G : Gx} {sl : List Sl} {te : TE} {m : PT Scr} (h : RE G sl te m) : RW G sl (iList G.C.K te) (fun Q => m fun s => Q s.ns) := fun σ A F H Qp R E hm k =>
  h σ A F H _ _ E hm fun x v F1 H1 q1 g1 E1 r1 => by
    have r1' := r1
    obtain ⟨a, e, hl, hs⟩ := Scr.sq r1
    subst e
    refine ⟨a, rfl, ⟨_, hs⟩, k x.ns F1 H1 _ q1 g1 E1 ⟨fun H => SqL G.C.K H a (x.ns.map V.int), YAt (x.ns.map V.int), ?_, fun F H p => ?_, fun i H z H' F p y => ?_⟩⟩
    · have := walk_list (K := G.C.K) (a := a) (xs := x.ns.map V.int)
      rw [List.length_map] at this
      exact this
    · obtain ⟨a', e, _, hs'⟩ := Scr.sq (Rp.mono p r1')
      cases e
      exact hs'
    · obtain ⟨rfl, y⟩ := y
      obtain ⟨z', h1, h2⟩ := (RpL.of_ints (C := G.C) (F := F) (H := H') x.ns).get y
      exact ⟨F, z', h1, New.refl, h2⟩
end QV

namespace QV
open PySem L2 QW
/-! ### the meanings: lemmas and steps -/
theorem big1 {i j : Int} (h : 0 ≤ j) (h2 : j < 18446744073709551616) : IntMulOk i j := IntMulOk.of_right (PySem.intBits_le_64 (by omega) (by omega))
theorem big2 {i j : Int} (h : 0 ≤ i) (h2 : i < 18446744073709551616) : IntMulOk i j := IntMulOk.of_left (PySem.intBits_le_64 (by omega) (by omega))
theorem cdiv {i j : Int} (h : 0 < j) (h2 : j < 18446744073709551616) : CDivW i j := ⟨h, by
  have : j.natAbs < 2 ^ 64 := by omega
  have := (Nat.log2_lt (by omega)).mpr this
  omega⟩
theorem log_small {n : Int} (h : 0 < n) (h2 : n < 18446744073709551616) : n.natAbs.log2 < 9000 := (cdiv (i := 0) h h2).2
theorem forP_inv {X S : Type} {b : X → S → (S → Prop) → (S → Prop) → Prop} {k : S → Prop} (I : List X → S → Prop) (hb : ∀ x xs s (kn : S → Prop), I (x :: xs) s → (∀ s', I xs s' → kn s') → b x s kn k) (hk : ∀ s, I [] s → k s) : ∀ (xs : List X) (s : S), I xs s → forP xs s b k
  | [], s, h => hk s h
  | x :: xs, s, h => hb x xs s _ h fun s' h' => forP_inv I hb hk xs s' h'
/-- with what is behind and the whole in view -/
theorem forP_inv2 {X S : Type} {b : X → S → (S → Prop) → (S → Prop) → Prop} {k : S → Prop} (I : List X → List X → S → Prop) (all : List X) (hb : ∀ x ys xs s (kn : S → Prop), ys ++ x :: xs = all → I ys (x :: xs) s → (∀ s', I (ys ++ [x]) xs s' → kn s') → b x s kn k) (hk : ∀ s, I all [] s → k s) (s : S) (h : I [] all s) : forP all s b k := by
  have : ∀ (xs ys : List X) (s : S), ys ++ xs = all → I ys xs s → forP xs s b k := by
    intro xs
    induction xs with
    | nil => intro ys s e h; rw [List.append_nil] at e; exact hk s (e ▸ h)
    | cons x xs ih => intro ys s e h; exact hb x ys xs s _ e h fun s' h' => ih (ys ++ [x]) s' (by rw [List.append_assoc]; exact e) h'
  exact this all [] s rfl h
theorem pAt_of {X : Type} {xs : List X} {i : Int} {Q : X → Prop} (h0 : 0 ≤ i) (h1 : i < xs.length) (h : ∀ x, xs[i.toNat]? = some x → Q x) : ∃ x, atI xs i = some x ∧ Q x := by
  have hi : i.toNat < xs.length := by omega
  refine ⟨xs[i.toNat], ?_, h _ (List.getElem?_eq_getElem hi)⟩
  unfold atI ixN
  rw [if_pos h0, if_pos h1]
  exact List.getElem?_eq_getElem hi
theorem pAt_mem {X : Type} {xs : List X} {i : Int} {Q : X → Prop} (h0 : 0 ≤ i) (h1 : i < xs.length) (h : ∀ x ∈ xs, Q x) : ∃ x, atI xs i = some x ∧ Q x := pAt_of h0 h1 fun x e => h x (List.mem_of_getElem? e)
theorem ixN_of {n : Nat} {i : Int} (h0 : 0 ≤ i) (h1 : i < n) : ixN n i = some i.toNat := by
  unfold ixN
  rw [if_pos h0, if_pos h1]
theorem setAt_of {n : Nat} {i : Int} {P : Nat → Prop} (h0 : 0 ≤ i) (h1 : i < n) (h : P i.toNat) : ∃ j, ixN n i = some j ∧ P j := ⟨_, ixN_of h0 h1, h⟩
theorem lcP_inv {A B : Type} {f : A → (Option B → Prop) → Prop} {Q : List B → Prop} (I : List A → List B → Prop) (hf : ∀ x xs r (kn : Option B → Prop), I (x :: xs) r → (∀ y, I xs (r ++ [y]) → kn (some y)) → (I xs r → kn none) → f x kn) (hk : ∀ r, I [] r → Q r) : ∀ (xs : List A) (r : List B), I xs r → lcP xs f (fun ys => Q (r ++ ys))
  | [], r, h => by
    show Q (r ++ [])
    rw [List.append_nil]; exact hk r h
  | x :: xs, r, h => by
    refine hf x xs r _ h (fun y hy => ?_) (fun hn => ?_)
    · have := lcP_inv I hf hk xs (r ++ [y]) hy
      simpa [List.append_assoc] using this
    · exact lcP_inv I hf hk xs r hn
theorem lcP_0 {A B : Type} {f : A → (Option B → Prop) → Prop} {Q : List B → Prop} (I : List A → List B → Prop) (hf : ∀ x xs r (kn : Option B → Prop), I (x :: xs) r → (∀ y, I xs (r ++ [y]) → kn (some y)) → (I xs r → kn none) → f x kn) (hk : ∀ r, I [] r → Q r) (xs : List A) (h : I xs []) : lcP xs f Q := lcP_inv I hf hk xs [] h
theorem rngI_nat {n : Int} : rngI 0 n = (List.range' 0 n.toNat).map fun i : Nat => (i : Int) := by
  unfold rngI
  rw [Int.sub_zero, List.range_eq_range']
  exact List.map_congr_left fun i _ => Int.zero_add _
theorem forP_rng {S : Type} {n : Int} {s : S} {b : Int → S → (S → Prop) → (S → Prop) → Prop} {k : S → Prop} (I : Nat → S → Prop) (h0 : I 0 s) (hb : ∀ (i : Nat) s (kn : S → Prop), (i : Int) < n → I i s → (∀ s', I (i + 1) s' → kn s') → b (i : Int) s kn k) (hk : ∀ s, I n.toNat s → k s) : forP (rngI 0 n) s b k := by
  rw [rngI_nat]
  refine forP_inv (fun xs s => ∃ i, xs = (List.range' i (n.toNat - i)).map (fun i : Nat => (i : Int)) ∧ i ≤ n.toNat ∧ I i s) (fun x xs s kn h hn => ?_) (fun s h => ?_) _ _ ⟨0, rfl, Nat.zero_le _, h0⟩
  · obtain ⟨i, e, hi, hI⟩ := h
    cases hm : n.toNat - i with
    | zero => rw [hm] at e; cases e
    | succ m =>
      rw [hm, List.range'_succ, List.map_cons] at e
      injection e with e1 e2
      subst e1
      refine hb i s kn (by omega) hI fun s' h' => hn s' ⟨i + 1, ?_, by omega, h'⟩
      rw [e2, show n.toNat - (i + 1) = m by omega]
  · obtain ⟨i, e, hi, hI⟩ := h
    have : n.toNat - i = 0 := by simpa using (congrArg List.length e).symm
    have : i = n.toNat := by omega
    subst this
    exact hk s hI
def All2 {A B : Type} (P : A → B → Prop) : List A → List B → Prop
  | [], [] => True
  | a :: as, b :: bs => P a b ∧ All2 P as bs
  | _, _ => False
theorem All2.len {A B : Type} {P : A → B → Prop} : ∀ {as : List A} {bs : List B}, All2 P as bs → bs.length = as.length
  | [], [], _ => rfl
  | a :: as, b :: bs, h => by simp [All2.len h.2]
  | [], _ :: _, h => h.elim
  | _ :: _, [], h => h.elim
theorem All2.all {A B : Type} {P : A → B → Prop} {R : B → Prop} (i : ∀ a b, P a b → R b) : ∀ {as : List A} {bs : List B}, All2 P as bs → ∀ b ∈ bs, R b
  | [], [], _, b, hb => by cases hb
  | a :: as, c :: bs, h, b, hb => by
    rcases List.mem_cons.mp hb with rfl | hb
    · exact i _ _ h.1
    · exact All2.all i h.2 b hb
  | [], _ :: _, h, _, _ => h.elim
  | _ :: _, [], h, _, _ => h.elim
theorem All2.map {A B : Type} {g : A → B} : ∀ {as : List A} {bs : List B}, All2 (fun a b => b = g a) as bs → bs = as.map g
  | [], [], _ => rfl
  | a :: as, b :: bs, h => by rw [List.map_cons, h.1, All2.map h.2]
  | [], _ :: _, h => h.elim
  | _ :: _, [], h => h.elim
theorem All2.snoc {A B : Type} {P : A → B → Prop} {a : A} {b : B} (p : P a b) : ∀ {as : List A} {bs : List B}, All2 P as bs → All2 P (as ++ [a]) (bs ++ [b])
  | [], [], _ => ⟨p, trivial⟩
  | a :: as, b :: bs, h => ⟨h.1, All2.snoc p h.2⟩
  | [], _ :: _, h => h.elim
  | _ :: _, [], h => h.elim
/-- each item gives one -/
theorem lcP_all {A B : Type} {f : A → (Option B → Prop) → Prop} {Q : List B → Prop} {P : A → B → Prop} : ∀ (xs : List A), (∀ x ∈ xs, ∀ kn : Option B → Prop, (∀ y, P x y → kn (some y)) → f x kn) → (∀ r, All2 P xs r → Q r) → lcP xs f Q
  | [], _, hk => hk [] trivial
  | x :: xs, hf, hk => hf x List.mem_cons_self _ fun y hy => lcP_all (Q := fun ys => Q (y :: ys)) xs (fun z hz => hf z (List.mem_cons_of_mem _ hz)) fun r hr => hk (y :: r) ⟨hy, hr⟩
theorem lcP_det {A B : Type} {f : A → (Option B → Prop) → Prop} {Q : List B → Prop} (g : A → B) (xs : List A) (hf : ∀ x ∈ xs, ∀ kn : Option B → Prop, kn (some (g x)) → f x kn) (hk : Q (xs.map g)) : lcP xs f Q :=
  lcP_all (P := fun a b => b = g a) xs (fun x hx kn h => hf x hx kn (h _ rfl)) fun r hr => by rw [All2.map hr]; exact hk
/-- some of the items -/
theorem lcP_some {A : Type} {f : A → (Option A → Prop) → Prop} {Q : List A → Prop} : ∀ (xs : List A), (∀ x ∈ xs, ∀ kn : Option A → Prop, kn (some x) → kn none → f x kn) → (∀ r, r.Sublist xs → Q r) → lcP xs f Q
  | [], _, hk => hk [] .slnil
  | x :: xs, hf, hk => hf x List.mem_cons_self _ (lcP_some (Q := fun ys => Q (x :: ys)) xs (fun z hz => hf z (List.mem_cons_of_mem _ hz)) fun r hr => hk (x :: r) (hr.cons₂ x)) (lcP_some (Q := Q) xs (fun z hz => hf z (List.mem_cons_of_mem _ hz)) fun r hr => hk r (hr.cons x))
theorem rgok {a : Int} (h : 0 ≤ a) (h2 : a ≤ 1000000) : RgOk 0 a := ⟨by omega, by omega, by omega, by omega, by omega⟩
theorem sz_of {n : Nat} (h : n ≤ 1000000) : Sz n := h
end QV

namespace L2
open PySem PySem.Spec PyProof.Rows PySem.W
section
variable {prog : Program} {w : World} {A : Around} {E : Value → Shared → Prop} {s : Shared}
/-- the items of a tuple, taken into a new list -/
theorem take_tuple {t : Addr} {us : List Value} {R : List Value → Shared → Prop} (tp : IsTup s.heap t us.toArray) (fits : us.length ≤ sizeLine)
    (go : R us { s with heap := (s.heap.push (seqObj "list" #[] 0)).update s.heap.objs.size (Obj.mapSeq (· ++ us.toArray)) }) :
    wpAny (model prog w) A (collect (.ref t)) R E s := by
  obtain ⟨ob, at0, kl, m, dt⟩ := id tp
  have at1 : (s.heap.push (seqObj "list" #[] 0)).get? t = some ob := Heap.get?_push_of_some _ at0
  have new1 : (s.heap.push (seqObj "list" #[] 0)).get? s.heap.objs.size = some (seqObj "list" #[] 0) := Heap.get?_push_size _ rfl
  unfold collect
  refine wpAny_bind (wpAny_runValue (codeAny_builtin entry_proto_collect' ?g1))
  case g1 =>
    show wpAny _ _ (do again (.builtin "list.__iadd__" ⟨[← newList [], .ref t], []⟩)) _ _ s
    refine wpAny_bind (wpAny_newList (wpAny_pure ⟨Code.quiet_builtin _ (by decide +kernel), codeAny_builtin entry_list_iadd' ?g2⟩))
    case g2 =>
      show wpAny _ _ (Builtin.List.listExtendWith (.ref s.heap.objs.size) (.ref t) (.ref s.heap.objs.size)) _ _ { s with heap := s.heap.push (seqObj "list" #[] 0) }
      unfold Builtin.List.listExtendWith
      refine wpAny_bind (wpAny_typeOf (T := "tuple") ⟨ob, at1, kl⟩ ?g3)
      case g3 =>
        have same : (Value.type "tuple" == Value.type "tuple") = true := by rfl
        rw [if_pos (by rw [same]; simp)]
        refine wpAny_bind (listItems_at at1 dt (wpAny_bind (listItems_at (xs := #[]) (n := 0) new1 rfl ?g4)))
        case g4 =>
          rw [if_neg (by simp)]
          refine wpAny_bind (listUpdate_at (xs := #[]) (n := 0) new1 rfl ?g5 (Nat.zero_le _) (by show (#[] ++ us.toArray).size ≤ sizeLine + 1; simp only [Array.size_append, List.size_toArray, List.length_nil]; omega))
          case g5 =>
            refine wpAny_pure ?g6
            case g6 =>
              show wpAny (model prog w) A (do
                  let o ← load s.heap.objs.size
                  match o.data with
                  | .seq xs _ => pure xs.toList
                  | _ => unsupported "internal:collect") R E { s with heap := (s.heap.push (seqObj "list" #[] 0)).update s.heap.objs.size (Obj.mapSeq (· ++ us.toArray)) }
              refine wpAny_bind (wpAny_load (get?_update_seq new1 _) ?g7)
              case g7 =>
                show wpAny _ _ (pure ((#[] : Array Value) ++ us.toArray).toList) R E _
                rw [show ((#[] : Array Value) ++ us.toArray).toList = us by simp]
                exact wpAny_pure go
/-- sorted(t) of a tuple, read as data -/
theorem sorted_tup {t : Addr} {us : List Value} {β : Type} {enc : β → PyData} {bs : List β} {R : Value → β → Prop} {Q : Value → Shared → Prop} (tp : IsTup s.heap t us.toArray) (e : EachIs R us bs) (er : EachIs (fun v b => ∃ as, Reads s.heap v (enc b) as) us bs)
    (hal : AllAlike (bs.map enc)) (hk : Sortable (bs.map enc)) (hL : bs.length ≤ sizeLine) (hu : ∀ b, b ∈ bs → A.units + 2 + (enc b).depth < cLine)
    (h : ∀ out, out.length = bs.length → EachIs R out (bs.mergeSort (dataLe false enc)) → Q (.ref (s.heap.objs.size + 1)) { s with heap := sortedAll s.heap us (List.toArray out) }) :
    wpAny (model prog w) A (call (.builtin "sorted") [.ref t]) Q E s := by
  have hL' : us.length ≤ sizeLine := by rw [e.length]; exact hL
  have er' : EachIs (fun v b => ∃ as, Reads (sortingHeap (copyHeap s.heap us) (s.heap.objs.size + 1) us) v (enc b) as) us bs := er.mono fun _ _ ⟨as, r⟩ => ⟨as, PyProof.Rows.Reads.keeps (fun _ _ => sorting_copy_old) r⟩
  have S : SortsAt prog w A.in1.in1 { s with heap := sortingHeap (copyHeap s.heap us) (s.heap.objs.size + 1) us } (dataKind (sortingHeap (copyHeap s.heap us) (s.heap.objs.size + 1) us) (bs.map enc)) us :=
    SortsAt.data (s := { s with heap := sortingHeap (copyHeap s.heap us) (s.heap.objs.size + 1) us }) (each_map (R := fun v d => ∃ as, Reads (sortingHeap (copyHeap s.heap us) (s.heap.objs.size + 1) us) v d as) enc er') hal hk (bound_map hu)
  refine call_function_entry_kw kind_sorted plain_sorted entry_sorted (args_sorted1 _) ?_
  unfold Builtin.«sorted»
  refine wpAny_bind (m := checkCount "sorted" 1 1 _) (wpAny_pure (wpAny_bind (take_tuple tp hL' (wpAny_bind (wpAny_newList ?k hL')))))
  case k =>
    have hsz : ((s.heap.push (seqObj "list" #[] 0)).update s.heap.objs.size (Obj.mapSeq (· ++ us.toArray))).objs.size = s.heap.objs.size + 1 := by rw [Heap.size_update, size_push']
    show wpAny _ _ _ _ _ { s with heap := copyHeap s.heap us }
    rw [hsz]
    refine wpAny_bind (wpAny_holding (wpAny_call_entry_kw slot_list_sort ⟨_, copyHeap_at s.heap us, rfl⟩ entry_list_sort ?b (args_list_sort _)))
    case b =>
      show wpAny (model prog w) A.in1.in1 (Builtin.«list.sort» ⟨[.ref (s.heap.objs.size + 1)], []⟩) _ _ _
      refine list_sort_vals (s := { s with heap := copyHeap s.heap us }) (copyHeap_at s.heap us) S hL' ⟨_, rfl, wpAny_pure ⟨_, rfl, ?_⟩⟩
      exact h _ (by rw [sortVals_length false rfl]; exact e.length) (sortVals_data false e er' hal)
end
/-- xs a tuple, each item with what it reads as -/
def rSortTD (K : PySem.W.Frag) : List V → Hp → VK → Prop := fun vs H Q => ∃ (a : Addr) (bs : List (V × PyData)), vs = [V.ref a] ∧ SqT K H a (bs.map Prod.fst) ∧ (∀ b ∈ bs, Dp K H b.1 b.2) ∧ PySem.W.AllAlike (bs.map Prod.snd) ∧ PySem.W.Sortable (bs.map Prod.snd) ∧ (∀ b ∈ bs, b.2.depth ≤ 8) ∧
  ∀ p, H p = none → Q (.ref p) (upd H p (.lst ((bs.mergeSort (PySem.W.dataLe false Prod.snd)).map Prod.fst)))
theorem cr_sortTD {X : Cx} (hu : X.A.units + 64 < cLine) : CallR X (.builtin "sorted") (rSortTD X.K) := by
  intro pins s σ H vs us Q I r h
  obtain ⟨a, bs, rfl, hs, hd, ha, hk, hdep, q⟩ := h
  obtain ⟨its, rv, hl, hz⟩ := I.tuple hs
  rw [Vals.ref1 r]
  have hz' : bs.length ≤ sizeLine := by rw [List.length_map] at hz; exact hz
  refine sorted_tup (enc := Prod.snd) hl (vals_each rv) (each_reads I rv hd) ha hk hz' (fun b hb => by have := hdep b hb; omega) fun out hlen he => ?_
  obtain ⟨ep, he'⟩ := PyProof.Rows.sortedAll_at s.heap its out.toArray
  refine ⟨.ref _, upd H (s.heap.objs.size + 1) (.lst _), I.laid (t' := s.toks) (fun _ _ => PyProof.Rows.sortedAll_old) (Nat.le_succ _) ⟨?_, out, ep, each_vals he, he'⟩, rfl, q _ (I.hok.fresh (Nat.le_succ _))⟩
  rw [List.length_map, List.length_mergeSort]
  exact hz'
end L2
namespace QV
open PySem L2 QW
/-- what can be compared -/
class Alk (X : Type) extends Dt X where
  alk : ∀ x y : X, PySem.W.alike (enc x) (enc y) = true
/-- what can be sorted -/
class So (X : Type) extends Alk X where
  srt : ∀ xs : List X, PySem.W.Sortable (xs.map enc)
  d8 : dep ≤ 8
def leV {X : Type} [So X] (x y : X) : Bool := PySem.W.dataLe false id (Dt.enc x) (Dt.enc y)
section
variable {G : Gx} {sl : List Sl} {K : PySem.W.Frag} {C : CA} {X : Type} [So X]
theorem zip_ps {F : Rg} {H : Hp} : ∀ {vs : List V} {xs : List X}, RpL C F H vs xs → ∃ ps : List (V × X), vs = ps.map (·.1) ∧ xs = ps.map (·.2) ∧ ∀ p ∈ ps, Rp.rp C F H p.1 p.2
  | [], [], _ => ⟨[], rfl, rfl, fun _ h => by cases h⟩
  | v :: vs, x :: xs, h => by
    obtain ⟨ps, e1, e2, h3⟩ := zip_ps h.2
    refine ⟨(v, x) :: ps, by simp [e1], by simp [e2], fun p hp => ?_⟩
    rcases List.mem_cons.mp hp with rfl | hp
    · exact h.1
    · exact h3 p hp
  | [], _ :: _, h => h.elim
  | _ :: _, [], h => h.elim
theorem rpl_ps {F : Rg} {H : Hp} : ∀ {ps : List (V × X)}, (∀ p ∈ ps, Rp.rp C F H p.1 p.2) → RpL C F H (ps.map (·.1)) (ps.map (·.2))
  | [], _ => trivial
  | p :: ps, h => ⟨h p List.mem_cons_self, rpl_ps fun q hq => h q (List.mem_cons_of_mem _ hq)⟩
/-- the sorted list, as what is told of it -/
theorem sorted_ps {F : Rg} {H : Hp} {vs : List V} {xs : List X} (h : RpL C F H vs xs) : ∃ bs : List (V × PyData), vs = bs.map Prod.fst ∧ (∀ b ∈ bs, Dp K H b.1 b.2) ∧ PySem.W.AllAlike (bs.map Prod.snd) ∧ PySem.W.Sortable (bs.map Prod.snd) ∧ (∀ b ∈ bs, b.2.depth ≤ 8) ∧ RpL C F H ((bs.mergeSort (PySem.W.dataLe false Prod.snd)).map Prod.fst) (xs.mergeSort leV) := by
  obtain ⟨ps, rfl, rfl, h3⟩ := zip_ps h
  have es : (ps.map fun p : V × X => (p.1, Dt.enc p.2)).map Prod.snd = (ps.map (·.2)).map Dt.enc := by rw [List.map_map, List.map_map]; rfl
  refine ⟨ps.map fun p => (p.1, Dt.enc p.2), by rw [List.map_map]; rfl, fun b hb => ?_, ?_, ?_, fun b hb => ?_, ?_⟩
  · obtain ⟨p, hp, rfl⟩ := List.mem_map.mp hb
    exact Dt.dp (h3 p hp)
  · rw [es]
    intro d hd d' hd'
    obtain ⟨x, _, rfl⟩ := List.mem_map.mp hd
    obtain ⟨y, _, rfl⟩ := List.mem_map.mp hd'
    exact Alk.alk x y
  · rw [es]; exact So.srt _
  · obtain ⟨p, hp, rfl⟩ := List.mem_map.mp hb
    exact Nat.le_trans (Dt.sh (h3 p hp)).2 So.d8
  · have m1 := List.map_mergeSort (r := fun a b : V × X => leV a.2 b.2) (s := PySem.W.dataLe false Prod.snd) (f := fun p : V × X => (p.1, Dt.enc p.2)) (l := ps) (fun _ _ _ _ => rfl)
    have m2 := List.map_mergeSort (r := fun a b : V × X => leV a.2 b.2) (s := leV) (f := fun p : V × X => p.2) (l := ps) (fun _ _ _ _ => rfl)
    rw [← m1, ← m2, List.map_map]
    exact rpl_ps fun p hp => h3 p ((List.mergeSort_perm _ _).mem_iff.mp hp)
theorem ro_sortL {te : TE} {m : PT (List X)} (h : RV G sl te m) : RO G sl (tCB (rSortedD K) (tCons te tNil)) (fun Q => m fun xs => Q (xs.mergeSort leV)) := fun σ A F H Qp Q E hm k =>
  h σ A F H _ _ E hm fun xs a F1 H1 q1 g1 E1 r1 => by
    obtain ⟨vs, ha, hl⟩ := r1 F1 H1 Ge.refl E1
    obtain ⟨bs, e, h1, h2, h3, h4, h5⟩ := sorted_ps (K := K) hl
    exact ⟨a, bs, rfl, SqL.of (by rw [ha, e]), h1, h2, h3, h4, ro_new E1 g1.fr h5 fun v F2 H2 as g2 E2 o2 f2 => k _ v F2 H2 as q1 (g1.trans g2) E2 o2 f2⟩
theorem ro_sortT {te : TE} {m : PT (Tu X)} (h : RE G sl te m) : RO G sl (tCB (rSortTD K) (tCons te tNil)) (fun Q => m fun xs => Q (xs.l.mergeSort leV)) := fun σ A F H Qp Q E hm k =>
  h σ A F H _ _ E hm fun xs v F1 H1 q1 g1 E1 r1 => by
    obtain ⟨a, vs, rfl, f, ha, hl⟩ := r1
    obtain ⟨bs, e, h1, h2, h3, h4, h5⟩ := sorted_ps (K := K) hl
    exact ⟨a, bs, rfl, SqT.of (by rw [ha, e]), h1, h2, h3, h4, ro_new E1 g1.fr h5 fun v F2 H2 as g2 E2 o2 f2 => k _ v F2 H2 as q1 (g1.trans g2) E2 o2 f2⟩
end
instance : Alk Int := ⟨fun _ _ => rfl⟩
instance {X Y : Type} [Alk X] [Alk Y] : Alk (X × Y) := ⟨fun x y => by
  show (PySem.W.alike (Dt.enc x.1) (Dt.enc y.1) && (PySem.W.alike (Dt.enc x.2) (Dt.enc y.2) && true)) = true
  rw [Alk.alk, Alk.alk]; rfl⟩
theorem alk_all {X : Type} [Alk X] : ∀ l r : List X, PySem.W.alikeAll (l.map Dt.enc) (r.map Dt.enc) = true
  | [], _ => by simp [PySem.W.alikeAll]
  | _ :: _, [] => by simp [PySem.W.alikeAll]
  | x :: l, y :: r => by
    show (PySem.W.alike (Dt.enc x) (Dt.enc y) && PySem.W.alikeAll (l.map Dt.enc) (r.map Dt.enc)) = true
    rw [Alk.alk, alk_all l r]; rfl
instance {X : Type} [Alk X] : Alk (Tu X) := ⟨fun x y => by
  show PySem.W.alike (.tuple (x.l.map Dt.enc)) (.tuple (y.l.map Dt.enc)) = true
  simp only [PySem.W.alike]
  exact alk_all x.l y.l⟩
instance : So Int where
  srt := fun xs => .inr fun d hd => by
    obtain ⟨x, _, rfl⟩ := List.mem_map.mp hd
    exact ⟨fun z => (by cases z), fun ys z => (by cases z)⟩
  d8 := by decide
instance : So (Int × Int) where
  srt := fun xs => .inl fun d hd => by
    obtain ⟨x, _, rfl⟩ := List.mem_map.mp hd
    exact ⟨_, _, rfl⟩
  d8 := by decide
instance : So (Tu Int × Tu Int) where
  srt := fun xs => .inl fun d hd => by
    obtain ⟨x, _, rfl⟩ := List.mem_map.mp hd
    exact ⟨_, _, rfl⟩
  d8 := by decide
end QV

namespace QV
open PySem L2 QW
/-! ### comprehensions by whose items what is owned turns -/
def lcS {X S B Y : Type} (val : B → Y) (st : B → S) : List X → S → (X → S → PT B) → (List Y × S → Prop) → Prop
  | [], s, _, k => k ([], s)
  | x :: xs, s, f, k => f x s fun b => lcS val st xs (st b) f fun p => k (val b :: p.1, p.2)
/-- a new thing of one's own, by which what is owned turns -/
def ROG (G : Gx) (sl : List Sl) (te : TE) {B : Type} (sl' : B → List Sl) {X : Type} [Ow X] (val : B → X) (m : PT B) : Prop := ∀ (σ : St) (A : Nat → List Addr) (F : Rg) (H : Hp) (Qp : B → Prop) (Q : VK), Env G sl σ A F H → m Qp →
  (∀ b v F' H' as, Qp b → Gk A F H F' H' → Env G (sl' b) σ A F' H' → Ow.ow G.C F' H' as v (val b) → (∀ a ∈ as, ¬ F' a ∧ H a = none) → Q v H') → te σ H Q
section
variable {G : Gx} {sl : List Sl} {σ τ : St} {A : Nat → List Addr} {F : Rg} {H : Hp} {K : PySem.W.Frag}
theorem env_un {t : Sl} {v : Nat} {o : Option V} (E : Env G (sl.set v t) (τ.set v o) A F H) (nt : t.isOwn = false) (hv : sl[v]? = some .un) : Env G sl τ A F H := by
  have hl : v < sl.length := (List.getElem?_eq_some_iff.mp hv).1
  have len : τ.length = sl.length := by simpa using E.len
  have Av : A v = [] := by
    obtain ⟨o', _, h⟩ := E.sls v t (by rw [List.getElem?_set_self hl])
    exact h.notOwn nt
  refine ⟨len, fun i s e => ?_, fun i hi => E.out i (by rw [List.length_set]; exact hi), E.dj, E.fr, E.ok, fun p hp => ?_⟩
  · by_cases hi : v = i
    · subst hi
      rw [hv] at e
      cases e
      exact ⟨_, List.getElem?_eq_getElem (by omega), Av⟩
    · obtain ⟨o', h1, h2⟩ := E.sls i s (by rw [List.getElem?_set_ne hi]; exact e)
      rw [List.getElem?_set_ne hi] at h1
      exact ⟨o', h1, h2⟩
  · obtain ⟨h1, h2, s, h3, h4⟩ := E.pn p hp
    have hne : v ≠ p.1 := fun e => by
      rw [← e, List.getElem?_set_self hl] at h3
      cases h3
      rw [nt] at h4; cases h4
    rw [List.getElem?_set_ne hne] at h1 h3
    exact ⟨h1, h2, s, h3, h4⟩
theorem set_un {v : Nat} (hv : sl[v]? = some .un) : sl.set v .un = sl := set_id hv
theorem rog_lcS {X Y S B : Type} [Rp X] [Rp Y] {wi : TI} {te : TE} {m : PT (List X)} {iv : Nat} {f : X → S → PT B} (val : B → Y) (st : B → S) (slS : S → List Sl) (s0 : S) (hs0 : sl = slS s0) (hun : ∀ s, (slS s)[iv]? = some .un) (hw : RW G sl wi m)
    (he : ∀ x s, REG G ((slS s).set iv (.dat x)) te (fun b => (slS (st b)).set iv (.dat x)) val (f x s)) :
    ROG G sl (tLc wi (gName iv) tYes te [iv]) (fun p : List Y × S => slS p.2) (fun p => p.1) (fun Q => m fun xs => Sz xs.length ∧ lcS val st xs s0 f Q) := fun σ A F H Qp Q E hm k =>
  hw σ A F H _ _ E hm fun xs F1 H1 J q1 g1 E1 w => by
    subst hs0
    obtain ⟨hz, q1⟩ := q1
    intro D hD
    obtain ⟨Gd, Y', hW, hP, hY⟩ := w.ex
    have hDA : ∀ i, D ∉ A i := fun i hi => E1.live hi hD
    have hD0 : G.H0 D = none := E1.ok.live _ hD
    have hDF : ¬ F1 D := fun f => E1.ok.al _ f hD
    refine lc_it hW (fun i H2 => ∃ s F2 acc ws, Gk A F1 H1 F2 H2 ∧ Env G (slS s) σ A F2 H2 ∧ ¬ F2 D ∧ H2 D = some (.lst ws) ∧ RpL G.C F2 H2 ws acc ∧ ws.length ≤ i ∧ i ≤ xs.length ∧ lcS val st (xs.drop i) s f (fun p => Qp (acc ++ p.1, p.2))) ?_ ?_ ?_ ?_
    · have n : New F1 H1 F1 (upd H1 D (.lst [])) := New.same' (same_upd hD)
      exact ⟨s0, F1, [], [], n.gk, E1.newk n, hDF, upd_same, trivial, Nat.le_refl _, Nat.zero_le _, by simpa using q1⟩
    · rintro i H2 hi ⟨s, F2, acc, ws, g2, E2, _⟩
      exact hP F2 H2 g2.ge
    · rintro i x H2 H3 hi ⟨s, F2, acc, ws, g2, E2, nD, eD, rl, hl, hi2, q⟩ hy
      obtain ⟨F3, y, ey, n3, r3⟩ := hY i H2 x H3 F2 g2.ge hy
      have E3 := E2.newk n3
      have g3 : Gk A F1 H1 F3 H3 := g2.trans n3.gk
      have nD3 : ¬ F3 D := fun f => by
        rcases n3.new D f with f | f
        · exact nD f
        · rw [eD] at f; cases f
      have eD3 : H3 D = some (.lst ws) := n3.same _ _ eD
      have ed : xs.drop i = y :: xs.drop (i + 1) := by
        obtain ⟨hlt, rfl⟩ := List.getElem?_eq_some_iff.mp ey
        exact List.drop_eq_getElem_cons hlt
      rw [ed] at q
      have ivl : iv < (slS s).length := (List.getElem?_eq_some_iff.mp (hun s)).1
      have nown : NotOwn (slS s) iv := fun t e => by rw [hun s] at e; cases e; rfl
      have Ew : Env G (slS s) (wipe σ [iv]) A F3 H3 := by
        have := E3.put (s := .un) (o := none) (i := iv) rfl nown
        rw [set_un (hun s)] at this
        exact this
      refine ⟨?_, ?_⟩
      · show wipe ((wipe σ [iv]).set iv (some x)) [iv] = wipe σ [iv]
        rw [wipe_set (by simp), wipe_wipe [iv] fun _ h => h]
      · show te ((wipe σ [iv]).set iv (some x)) H3 _
        have Et : Env G ((slS s).set iv (.dat y)) ((wipe σ [iv]).set iv (some x)) A F3 H3 := Ew.put (s := .dat y) ⟨rfl, x, rfl, r3⟩ nown
        refine he y s _ A F3 H3 _ _ Et q fun b u F4 H4 q4 g4 E4 r4 => ?_
        have E4' : Env G (slS (st b)) σ A F4 H4 := by
          have h1 := env_un E4 rfl (hun (st b))
          have h2 : Env G ((slS (st b)).set iv .un) (σ.set iv none) A F4 H4 := by
            rw [set_un (hun (st b))]; exact h1
          exact env_un h2 rfl (hun (st b))
        have eD4 : H4 D = some (.lst ws) := g4.kp _ _ hDA eD3
        have nD4 : ¬ F4 D := fun f => by
          rcases g4.new D f with f | f
          · exact nD3 f
          · rw [eD3] at f; cases f
        obtain ⟨E5, g5⟩ := E4'.loc (o := .lst (ws ++ [u])) hDA nD4 (.inr hD0)
        refine ⟨ws, eD4, ?_, st b, F4, acc ++ [val b], ws ++ [u], ?_, E5, nD4, upd_same, RpL.append (RpL.mono ((n3.ge.trans g4.ge).trans g5) rl) ⟨Rp.mono g5 r4, trivial⟩, by rw [List.length_append]; show ws.length + 1 ≤ i + 1; omega, by omega, ?_⟩
        · have := hz.lt
          omega
        · exact (g3.trans g4).loc hD nD4
        · simpa [List.append_assoc] using q4
    · rintro H2 ⟨s, F2, acc, ws, g2, E2, nD, eD, rl, hl, hi2, q⟩
      rw [List.drop_length] at q
      have q : Qp (acc ++ [], s) := q
      rw [List.append_nil] at q
      exact k (acc, s) (.ref D) F2 H2 [D] q (g1.trans g2) E2 ⟨D, ws, rfl, rfl, eD, rl⟩ fun a ha => by
        have : a = D := by simpa using ha
        subst this
        exact ⟨nD, g1.fr _ hD⟩
end
end QV
namespace L2
theorem Room.units65 {k : Nat} {A : PySem.Around} (r : Room k A) : A.units + 65 < PySem.cLine := by
  have := r.un
  omega
end L2
namespace QV
open PySem L2 QW
section
variable {G : Gx} {sl : List Sl} {X : Type} [Rp X]
/-- a pair, a triple of one kind, as a tuple -/
theorem re_tuP {te : TE} {m : PT (X × X)} (h : RE G sl te m) : RE G sl te (fun Q => m fun p => Q (Tu.mk [p.1, p.2])) := fun σ A F H Qp Q E hm k =>
  h σ A F H _ Q E hm fun x v F1 H1 q1 g1 E1 r1 => by
    obtain ⟨a, u, w, e, f, ha, h1, h2⟩ := r1
    exact k _ v F1 H1 q1 g1 E1 ⟨a, [u, w], e, f, ha, h1, h2, trivial⟩
theorem re_tuT {te : TE} {m : PT (T3 X X X)} (h : RE G sl te m) : RE G sl te (fun Q => m fun p => Q (Tu.mk [p.a, p.b, p.c])) := fun σ A F H Qp Q E hm k =>
  h σ A F H _ Q E hm fun x v F1 H1 q1 g1 E1 r1 => by
    obtain ⟨a, u, w, z, e, f, ha, h1, h2, h3⟩ := r1
    exact k _ v F1 H1 q1 g1 E1 ⟨a, [u, w, z], e, f, ha, h1, h2, h3, trivial⟩
end
/-! ### in -/
theorem inV_ints (i : Int) : ∀ xs : List Int, inV (.int i) (xs.map V.int) = decide (i ∈ xs)
  | [] => by simp [inV]
  | x :: xs => by
    have ih := inV_ints i xs
    unfold inV at ih ⊢
    rw [List.map_cons, List.any_cons, ih]
    by_cases h : x = i
    · subst h
      simp [eqV]
    · have : ¬ i = x := fun e => h e.symm
      simp [eqV, h, this]
theorem flat_ints : ∀ xs : List Int, (xs.map V.int).all flatV = true
  | [] => rfl
  | x :: xs => by rw [List.map_cons, List.all_cons, flat_ints xs]; rfl
section
variable {G : Gx} {sl : List Sl} {K : PySem.W.Frag}
theorem re_inL {ta tb : TE} {m : PT Int} {n : PT (List Int)} (ha : RE G sl ta m) (hb : RV G sl tb n) : RE G sl (tOp (rIn K false) ta tb) (fun Q => m fun i => n fun l => Q (decide (i ∈ l))) := fun σ A F H Qp Q E hm k =>
  ha σ A F H _ _ E hm fun i v F1 H1 q1 g1 E1 r1 => hb σ A F1 H1 _ _ E1 q1 fun l a F2 H2 q2 g2 E2 r2 => by
    obtain ⟨vs, h1, h2⟩ := r2 F2 H2 Ge.refl E2
    have e := h2.ints
    subst e
    subst r1
    exact ⟨a, _, rfl, .inl (SqL.of h1), rfl, flat_ints l, k _ _ F2 H2 q2 (g1.trans g2) E2 (by show V.bl _ = V.bl _; rw [inV_ints]; rfl)⟩
theorem re_ninL {ta tb : TE} {m : PT Int} {n : PT (List Int)} (ha : RE G sl ta m) (hb : RV G sl tb n) : RE G sl (tOp (rIn K true) ta tb) (fun Q => m fun i => n fun l => Q (!decide (i ∈ l))) := fun σ A F H Qp Q E hm k =>
  ha σ A F H _ _ E hm fun i v F1 H1 q1 g1 E1 r1 => hb σ A F1 H1 _ _ E1 q1 fun l a F2 H2 q2 g2 E2 r2 => by
    obtain ⟨vs, h1, h2⟩ := r2 F2 H2 Ge.refl E2
    have e := h2.ints
    subst e
    subst r1
    exact ⟨a, _, rfl, .inl (SqL.of h1), rfl, flat_ints l, k _ _ F2 H2 q2 (g1.trans g2) E2 (by show V.bl _ = V.bl _; rw [inV_ints]; rfl)⟩
theorem re_inT {ta tb : TE} {m : PT Int} {n : PT (Tu Int)} (ha : RE G sl ta m) (hb : RE G sl tb n) : RE G sl (tOp (rIn K false) ta tb) (fun Q => m fun i => n fun l => Q (decide (i ∈ l.l))) := fun σ A F H Qp Q E hm k =>
  ha σ A F H _ _ E hm fun i v F1 H1 q1 g1 E1 r1 => hb σ A F1 H1 _ _ E1 q1 fun l u F2 H2 q2 g2 E2 r2 => by
    obtain ⟨a, vs, rfl, f, h1, h2⟩ := r2
    have e := h2.ints
    subst e
    subst r1
    exact ⟨a, _, rfl, .inr (SqT.of h1), rfl, flat_ints l.l, k _ _ F2 H2 q2 (g1.trans g2) E2 (by show V.bl _ = V.bl _; rw [inV_ints]; rfl)⟩
theorem re_ninT {ta tb : TE} {m : PT Int} {n : PT (Tu Int)} (ha : RE G sl ta m) (hb : RE G sl tb n) : RE G sl (tOp (rIn K true) ta tb) (fun Q => m fun i => n fun l => Q (!decide (i ∈ l.l))) := fun σ A F H Qp Q E hm k =>
  ha σ A F H _ _ E hm fun i v F1 H1 q1 g1 E1 r1 => hb σ A F1 H1 _ _ E1 q1 fun l u F2 H2 q2 g2 E2 r2 => by
    obtain ⟨a, vs, rfl, f, h1, h2⟩ := r2
    have e := h2.ints
    subst e
    subst r1
    exact ⟨a, _, rfl, .inr (SqT.of h1), rfl, flat_ints l.l, k _ _ F2 H2 q2 (g1.trans g2) E2 (by show V.bl _ = V.bl _; rw [inV_ints]; rfl)⟩
/-- of a list of data -/
theorem re_inD {X : Type} [Dt X] {ta tb : TE} {m : PT X} {n : PT (List X)} (ha : RE G sl ta m) (hb : RV G sl tb n) (hd : Dt.dep (List X) < 64 := by decide) : RE G sl (tOp (rInD K) ta tb) (fun Q => m fun x => n fun l => Q (decide (x ∈ l))) := fun σ A F H Qp Q E hm k =>
  ha σ A F H _ _ E hm fun x v F1 H1 q1 g1 E1 r1 => hb σ A F1 H1 _ _ E1 q1 fun l a F2 H2 q2 g2 E2 r2 => by
    have r1 := Rp.mono g2.ge r1
    have L := r2 F2 H2 Ge.refl E2
    have hd0 : Dt.dep X < 64 := Nat.lt_of_succ_lt hd
    refine ⟨_, _, Dt.dp r1, L.dp, sh_of hd0 r1, L.sh hd, k _ _ F2 H2 q2 (g1.trans g2) E2 ?_⟩
    show V.bl _ = V.bl _
    congr 1
    have : ∀ l : List X, ((l.map Dt.enc).any fun z => PyData.eqv z (Dt.enc x)) = decide (x ∈ l) := by
      intro l
      induction l with
      | nil => simp
      | cons y l ih =>
        rw [List.map_cons, List.any_cons, ih, Dt.eqv]
        by_cases h : y = x
        · subst h; simp
        · have : ¬ x = y := fun e => h e.symm
          simp [h, this]
    exact this l
theorem re_ninD {X : Type} [Dt X] {ta tb : TE} {m : PT X} {n : PT (List X)} (ha : RE G sl ta m) (hb : RV G sl tb n) (hd : Dt.dep (List X) < 64 := by decide) : RE G sl (tOp (rNotInD K) ta tb) (fun Q => m fun x => n fun l => Q (!decide (x ∈ l))) := fun σ A F H Qp Q E hm k =>
  ha σ A F H _ _ E hm fun x v F1 H1 q1 g1 E1 r1 => hb σ A F1 H1 _ _ E1 q1 fun l a F2 H2 q2 g2 E2 r2 => by
    have r1 := Rp.mono g2.ge r1
    have L := r2 F2 H2 Ge.refl E2
    have hd0 : Dt.dep X < 64 := Nat.lt_of_succ_lt hd
    refine ⟨_, _, Dt.dp r1, L.dp, sh_of hd0 r1, L.sh hd, k _ _ F2 H2 q2 (g1.trans g2) E2 ?_⟩
    show V.bl (!_) = V.bl (!_)
    congr 2
    have : ∀ l : List X, ((l.map Dt.enc).any fun z => PyData.eqv z (Dt.enc x)) = decide (x ∈ l) := by
      intro l
      induction l with
      | nil => simp
      | cons y l ih =>
        rw [List.map_cons, List.any_cons, ih, Dt.eqv]
        by_cases h : y = x
        · subst h; simp
        · have : ¬ x = y := fun e => h e.symm
          simp [h, this]
    exact this l
end
end QV

namespace L2
open PySem PySem.Spec PyProof.Rows PyProof.V
theorem sum_rawT {prog : Program} {w : World} {A : Around} {E : Value → Shared → Prop} {s : Shared} {l : Addr} {its : List Value} {ns : List Int} {Q : Value → Shared → Prop} (hh : A.handled = none) (hl : IsTup s.heap l its.toArray) (hi : IntsAre its ns)
    (h : ∀ h' tk t', (∀ b o, s.heap.get? b = some o → h'.get? b = some o) → Q (.int ns.sum t') { s with heap := h', toks := tk }) : wpAny (model prog w) A (call (.builtin "sum") [.ref l]) Q E s := by
  obtain ⟨xs, e⟩ := hi.allInts.items
  have hn : numsOf (intItems xs).toList = ns := by rw [← e]; exact hi.numsOf
  rw [nums_intItems] at hn
  rw [e] at hl
  refine PySem.W.ktm_sumG hh hl fun h' tk t' hk => ?_
  have := h h' tk t' hk
  rw [preSum_eq, List.take_of_length_le (by simp), hn]; exact this
def rSumT (K : PySem.W.Frag) : List V → Hp → VK → Prop := fun vs H Q => ∃ (a : Addr) (ns : List Int), vs = [V.ref a] ∧ SqT K H a (ns.map V.int) ∧ Q (.int ns.sum) H
theorem cr_sumT {X : Cx} (hc : X.calm = true) : CallR X (.builtin "sum") (rSumT X.K) := by
  intro pins s σ H vs us Q I r h
  obtain ⟨a, ns, rfl, hs, q⟩ := h
  obtain ⟨its, rv, hl, _⟩ := I.tuple hs
  rw [Vals.ref1 r]
  exact sum_rawT (I.ok.hd hc) hl rv.ints fun h' tk t' hk => ⟨.int _, H, I.kept hk, ⟨_, rfl⟩, q⟩
end L2
namespace QV
open PySem L2 QW
section
variable {G : Gx} {sl : List Sl} {K : PySem.W.Frag} {D : Ends} {X Y Z : Type} [Rp X] [Rp Y] [Rp Z]
/-! ### int(a flag) -/
theorem c_intB {C : CA} : OC1 C cInt1 (fun (b : Bool) => pR (if b = true then (1 : Int) else 0)) := fun F H v x Qp Q h1 hq k => by
  subst h1
  refine Or.inr ⟨x, rfl, k _ _ F H hq New.refl ?_⟩
  show V.int _ = V.int _
  cases x <;> rfl
/-! ### a new thing stored over any but the pinned -/
theorem rb_asgO2 {W : Type} [Ow W] {te : TE} {i : Nat} {m : PT W} {w : W → Prop} (h : RO G sl te m) (hp : ∀ p, G.pin = some p → p.1 ≠ i) (hi : i < sl.length) (k : ∀ x, RB G (sl.set i (.own x)) D.nx (w x)) : RB G sl (tAsg te (gName i) D) (m w) := fun σ A F H E hw =>
  h σ A F H w _ E hw fun x v F1 H1 as q1 g1 E1 r1 f1 => k x _ _ F1 H1 (E1.store (s := .own x) ⟨v, rfl, r1⟩ hi (fun a ha => ⟨(f1 a ha).1, .inr (E.ok.live a (f1 a ha).2), fun j _ hj => E.live hj (f1 a ha).2⟩) hp) q1
theorem rb_asg2 {te : TE} {i : Nat} {m : PT X} {w : X → Prop} (h : RE G sl te m) (hp : ∀ p, G.pin = some p → p.1 ≠ i) (hi : i < sl.length) (k : ∀ x, RB G (sl.set i (.dat x)) D.nx (w x)) : RB G sl (tAsg te (gName i) D) (m w) := fun σ A F H E hw =>
  h σ A F H w _ E hw fun x v F1 H1 q1 g1 E1 r1 => k x _ _ F1 H1 (E1.store (s := .dat x) ⟨rfl, v, rfl, r1⟩ hi (as := []) (fun a ha => by cases ha) hp) q1
/-! ### lists of lists of one's own -/
structure LL (X : Type) where
  l : List (List X)
def LLAt (C : CA) (F : Rg) (H : Hp) : List Addr → List (List X) → Prop
  | [], [] => True
  | b :: bs, x :: xs => (∃ vs, H b = some (.lst vs) ∧ RpL C F H vs x) ∧ LLAt C F H bs xs
  | _, _ => False
theorem LLAt.length {C : CA} {F : Rg} {H : Hp} : ∀ {bs : List Addr} {xs : List (List X)}, LLAt C F H bs xs → bs.length = xs.length
  | [], [], _ => rfl
  | b :: bs, x :: xs, h => by simp [LLAt.length h.2]
  | [], _ :: _, h => h.elim
  | _ :: _, [], h => h.elim
theorem LLAt.mono {C : CA} {F F' : Rg} {H H' : Hp} (g : Ge F H F' H') : ∀ {bs : List Addr} {xs : List (List X)}, (∀ a ∈ bs, ∀ o, H a = some o → H' a = some o) → LLAt C F H bs xs → LLAt C F' H' bs xs
  | [], [], _, _ => trivial
  | b :: bs, x :: xs, k, ⟨⟨vs, h1, h2⟩, h3⟩ => ⟨⟨vs, k b List.mem_cons_self _ h1, RpL.mono g h2⟩, LLAt.mono g (fun a ha => k a (List.mem_cons_of_mem _ ha)) h3⟩
  | [], _ :: _, _, h => h.elim
  | _ :: _, [], _, h => h.elim
theorem LLAt.live {C : CA} {F : Rg} {H : Hp} : ∀ {bs : List Addr} {xs : List (List X)}, LLAt C F H bs xs → ∀ a ∈ bs, ∃ vs, H a = some (.lst vs)
  | [], [], _, a, ha => by cases ha
  | b :: bs, x :: xs, ⟨⟨vs, h1, h2⟩, h3⟩, a, ha => by
    rcases List.mem_cons.mp ha with rfl | ha
    · exact ⟨vs, h1⟩
    · exact LLAt.live h3 a ha
  | [], _ :: _, h, _, _ => h.elim
  | _ :: _, [], h, _, _ => h.elim
theorem LLAt.get {C : CA} {F : Rg} {H : Hp} : ∀ {bs : List Addr} {xs : List (List X)} {j : Nat}, LLAt C F H bs xs → j < xs.length → ∃ b x vs, bs[j]? = some b ∧ xs[j]? = some x ∧ H b = some (.lst vs) ∧ RpL C F H vs x
  | [], [], j, _, h => by simp at h
  | b :: bs, x :: xs, 0, ⟨⟨vs, h1, h2⟩, h3⟩, _ => ⟨b, x, vs, rfl, rfl, h1, h2⟩
  | b :: bs, x :: xs, j + 1, ⟨_, h3⟩, h => by
    obtain ⟨b', x', vs, h4, h5, h6⟩ := LLAt.get (j := j) h3 (by simpa using h)
    exact ⟨b', x', vs, by simpa using h4, by simpa using h5, h6⟩
  | [], _ :: _, _, h, _ => h.elim
  | _ :: _, [], _, h, _ => h.elim
/-- one of them is turned -/
theorem LLAt.set {C : CA} {F : Rg} {H : Hp} {b : Addr} {ws : List V} {y : List X} (g : Ge F H F (upd H b (.lst ws))) (hy : RpL C F (upd H b (.lst ws)) ws y) : ∀ {bs : List Addr} {xs : List (List X)} {j : Nat}, LLAt C F H bs xs → bs.Nodup → bs[j]? = some b → LLAt C F (upd H b (.lst ws)) bs (xs.set j y)
  | [], [], j, _, _, h => by simp at h
  | c :: bs, x :: xs, 0, ⟨_, h3⟩, nd, h => by
    have e : c = b := by simpa using h
    subst e
    have nd := List.nodup_cons.mp nd
    exact ⟨⟨ws, upd_same, hy⟩, LLAt.mono g (fun a ha o e => by
      have : a ≠ c := fun z => nd.1 (z ▸ ha)
      rw [upd_ne this]; exact e) h3⟩
  | c :: bs, x :: xs, j + 1, ⟨⟨vs, h1, h2⟩, h3⟩, nd, h => by
    have nd := List.nodup_cons.mp nd
    have hj : bs[j]? = some b := by simpa using h
    have : c ≠ b := fun z => nd.1 (z ▸ List.mem_of_getElem? hj)
    exact ⟨⟨vs, by rw [upd_ne this]; exact h1, RpL.mono g h2⟩, LLAt.set g hy h3 nd.2 hj⟩
  | [], _ :: _, _, h, _, _ => h.elim
  | _ :: _, [], _, h, _, _ => h.elim
theorem LLAt.snoc {C : CA} {F : Rg} {H : Hp} {b : Addr} {vs : List V} {x : List X} (h1 : H b = some (.lst vs)) (h2 : RpL C F H vs x) : ∀ {bs : List Addr} {xs : List (List X)}, LLAt C F H bs xs → LLAt C F H (bs ++ [b]) (xs ++ [x])
  | [], [], _ => ⟨⟨vs, h1, h2⟩, trivial⟩
  | c :: bs, y :: xs, ⟨h3, h4⟩ => ⟨h3, LLAt.snoc h1 h2 h4⟩
  | [], _ :: _, h => h.elim
  | _ :: _, [], h => h.elim
instance : Ow (LL X) := ⟨fun C F H as v x => ∃ a bs, v = .ref a ∧ as = a :: bs ∧ (a :: bs).Nodup ∧ H a = some (.lst (bs.map V.ref)) ∧ LLAt C F H bs x.l,
  fun g k ⟨a, bs, e, f, nd, h, h1⟩ => ⟨a, bs, e, f, nd, k a (by rw [f]; simp) _ h, LLAt.mono g (fun b hb => k b (by rw [f]; exact List.mem_cons_of_mem _ hb)) h1⟩,
  fun ⟨a, bs, e, f, nd, h, h1⟩ b hb => by
    rw [f] at hb
    rcases List.mem_cons.mp hb with rfl | hb
    · rw [h]; exact fun z => by cases z
    · obtain ⟨vs, h2⟩ := h1.live b hb
      rw [h2]; exact fun z => by cases z⟩
theorem Env.ownLL {σ : St} {A : Nat → List Addr} {F : Rg} {H : Hp} {i : Nat} {l : LL X} (E : Env G sl σ A F H) (hi : sl[i]? = some (.own l)) : ∃ a bs, σ[i]? = some (some (.ref a)) ∧ A i = a :: bs ∧ (a :: bs).Nodup ∧ H a = some (.lst (bs.map V.ref)) ∧ LLAt G.C F H bs l.l := by
  obtain ⟨v, h1, a, bs, rfl, h2, h3, h4, h5⟩ := E.own hi
  exact ⟨a, bs, h1, h2, h3, h4, h5⟩
theorem atI_map {α β : Type} {f : α → β} {xs : List α} {z : Int} {j : Nat} (h : ixN xs.length z = some j) : atI (xs.map f) z = (xs[j]?).map f := by
  unfold atI
  rw [List.length_map, h]
  simp
theorem ixN_lt {n : Nat} {z : Int} {j : Nat} (h : ixN n z = some j) : j < n := (ixN_seq h).2.1
/-- t[z], one of them looked at -/
theorem rv_ixLL {ti : TE} {i : Nat} {l : LL X} {n : PT Int} (hi : sl[i]? = some (.own l)) (h : RE G sl ti n) : RV G sl (tOp (rIxL K) (tVar i) ti) (fun Q => n fun z => pAt l.l z Q) := fun σ A F H Qp Q E hm k => by
  obtain ⟨a, bs, h1, h2, h3, h4, h5⟩ := E.ownLL hi
  refine ⟨_, h1, h σ A F H _ _ E hm fun z u F1 H1 q1 g1 E1 r1 => ?_⟩
  subst r1
  obtain ⟨a', bs', h1', h2', h3', h4', h5'⟩ := E1.ownLL hi
  rw [h1] at h1'
  cases h1'
  obtain ⟨y, e, q⟩ := q1
  unfold atI at e
  cases ez : ixN l.l.length z with
  | none => rw [ez] at e; cases e
  | some j =>
    rw [ez] at e
    have e : l.l[j]? = some y := by simpa using e
    obtain ⟨b, x, vs, e1, e2, e3, e4⟩ := h5'.get (j := j) (ixN_lt ez)
    rw [e] at e2
    cases e2
    refine i_ixL h4' (v := .ref b) (by rw [atI_map (j := j) (by rw [h5'.length]; exact ez), e1]; rfl) (k y b F1 H1 q g1 E1 fun F2 H2 g2 E2 => ?_)
    obtain ⟨a2, bs2, h12, h22, h32, h42, h52⟩ := E2.ownLL hi
    have hb : bs2 = bs' := by rw [h2'] at h22; cases h22; rfl
    subst hb
    obtain ⟨b2, x2, vs2, e12, e22, e32, e42⟩ := h52.get (j := j) (ixN_lt ez)
    rw [e1] at e12; cases e12
    rw [e] at e22; cases e22
    exact ⟨vs2, e32, e42⟩
theorem own_turnLL {σ : St} {A : Nat → List Addr} {F : Rg} {H : Hp} {i j : Nat} {l : LL X} {a b : Addr} {bs : List Addr} {y : List X} {ws : List V} (E : Env G sl σ A F H) (hi : sl[i]? = some (.own l)) (hv : σ[i]? = some (some (.ref a))) (hA : A i = a :: bs) (nd : (a :: bs).Nodup) (ha : H a = some (.lst (bs.map V.ref))) (hl : LLAt G.C F H bs l.l) (hj : bs[j]? = some b) (hy : RpL G.C F H ws y) :
    Env G (sl.set i (.own (LL.mk (l.l.set j y)))) σ A F (upd H b (.lst ws)) ∧ Gk A F H F (upd H b (.lst ws)) := by
  have hil : i < sl.length := (List.getElem?_eq_some_iff.mp hi).1
  have hbs : b ∈ bs := List.mem_of_getElem? hj
  have hbA : b ∈ A i := by rw [hA]; exact List.mem_cons_of_mem _ hbs
  have nb' : ¬ F b := (E.fr i b hbA).1
  have nd' := List.nodup_cons.mp nd
  have nab : a ≠ b := fun z => nd'.1 (z ▸ hbs)
  have hbn : H b ≠ none := E.live hbA
  have g : Ge F H F (upd H b (.lst ws)) := fun c o f e => ⟨f, by
    have nb : c ≠ b := fun z => nb' (by rw [← z]; exact f)
    rw [upd_ne nb]; exact e⟩
  refine ⟨E.turn hil hv g ⟨a, bs, rfl, hA, nd, by rw [upd_ne nab]; exact ha, LLAt.set g (RpL.mono g hy) hl nd'.2 hj⟩ (fun c o hc e => ?_) (fun b f => .inl f) (fun b f => f) (fun c e => ?_) (fun c f => ?_), g, fun c o hc e => ?_, fun c e => ?_, fun b f => .inl f⟩
  · have nb : c ≠ b := fun z => hc (z ▸ hbA)
    rw [upd_ne nb]; exact e
  · by_cases nb : c = b
    · subst nb; rw [upd_same] at e; cases e
    · rw [upd_ne nb] at e; exact e
  · have nb : c ≠ b := fun z => nb' (by rw [← z]; exact f)
    rw [upd_ne nb]; exact E.ok.al c f
  · have nb : c ≠ b := fun z => hc i (z ▸ hbA)
    rw [upd_ne nb]; exact e
  · by_cases nb : c = b
    · subst nb; rw [upd_same] at e; cases e
    · rw [upd_ne nb] at e; exact e
/-- t[z].append(e) -/
theorem reg_appendLL {te ti : TE} {i : Nat} {l : LL X} {m : PT X} {n : PT Int} (hi : sl[i]? = some (.own l)) (h' : RE G sl ti n) (h : RE G sl te m) : REG G sl (tBM K "list" rAppend (tOp (rIxL K) (tVar i) ti) (tCons te tNil)) (fun p : Nat × X => sl.set i (.own (LL.mk (l.l.set p.1 (l.l.getD p.1 [] ++ [p.2]))))) (fun _ => ()) (fun Q => n fun z => ∃ j, ixN l.l.length z = some j ∧ m fun y => Sz ((l.l.getD j []).length + 1) ∧ Q (j, y)) := fun σ A F H Qp Q E hm k => by
  obtain ⟨a, bs, h1, h2, h3, h4, h5⟩ := E.ownLL hi
  refine ⟨_, h1, h' σ A F H _ _ E hm fun z u F1 H1 q1 g1 E1 r1 => ?_⟩
  subst r1
  obtain ⟨j, ez, q1⟩ := q1
  obtain ⟨a1, bs1, h11, h21, h31, h41, h51⟩ := E1.ownLL hi
  rw [h1] at h11
  cases h11
  obtain ⟨b, x, vs, e1, e2, e3, e4⟩ := h51.get (j := j) (ixN_lt ez)
  refine i_ixL h41 (v := .ref b) (by rw [atI_map (j := j) (by rw [h51.length]; exact ez), e1]; rfl) ?_
  refine ⟨.inl ⟨rfl, _, SqL.of e3⟩, h σ A F1 H1 _ _ E1 q1 fun y w F2 H2 q2 g2 E2 r2 => ?_⟩
  obtain ⟨a2, bs2, h12, h22, h32, h42, h52⟩ := E2.ownLL hi
  rw [h1] at h12
  cases h12
  have hb : bs2 = bs1 := by rw [h21] at h22; cases h22; rfl
  subst hb
  obtain ⟨b2, x2, vs2, e12, e22, e32, e42⟩ := h52.get (j := j) (ixN_lt ez)
  rw [e1] at e12; cases e12
  have ed : l.l.getD j [] = x2 := by rw [List.getD_eq_getElem?_getD, e22]; rfl
  rw [ed] at q2
  obtain ⟨E3, g3⟩ := own_turnLL E2 hi h1 h22 h32 h42 h52 e1 (RpL.append e42 ⟨r2, trivial⟩ : RpL G.C F2 H2 (vs2 ++ [w]) (x2 ++ [y]))
  refine ⟨b, vs2, w, rfl, rfl, e32, by rw [e42.length]; have := q2.1.lt; omega, k (j, y) _ _ _ q2.2 ((g1.trans g2).trans g3) ?_ rfl⟩
  show Env G (sl.set i (.own (LL.mk (l.l.set j (l.l.getD j [] ++ [y]))))) σ A _ _
  rw [ed]
  exact E3
/-- what is owned is from now on only looked at -/
theorem rb_freezeG {W : Type} [Ow W] {i : Nat} {l : W} {x : X} {p : St → Hp → Prop} {w : Prop} (conv : ∀ F H as v, Ow.ow G.C F H as v l → Rp.rp G.C (fun b => F b ∨ b ∈ as) H v x) (hi : sl[i]? = some (.own l)) (hp : ∀ q, G.pin = some q → q.1 ≠ i) (k : RB G (sl.set i (.dat x)) p w) : RB G sl p w := fun σ A F H E hw => by
  obtain ⟨v, h1, h2⟩ := E.own hi
  have hil : i < sl.length := (List.getElem?_eq_some_iff.mp hi).1
  have lv : ∀ a ∈ A i, H a ≠ none := fun a ha => E.live ha
  have g : Ge F H (fun b => F b ∨ b ∈ A i) H := fun b o f e => ⟨.inl f, e⟩
  refine k σ (upA A i []) (fun b => F b ∨ b ∈ A i) H ⟨by rw [List.length_set]; exact E.len, fun j t ht => ?_, fun j hj => ?_, fun j l hjl b h5 h6 => ?_, fun j b h5 => ?_, ⟨fun b f => .inl (E.ok.sub b f), fun b f => ?_, E.ok.keep, E.ok.live, fun b f => ?_⟩, fun q e => ?_⟩ hw
  · by_cases hj : i = j
    · subst hj
      rw [List.getElem?_set_self hil] at ht
      cases ht
      exact ⟨_, h1, by rw [upA_same]; exact ⟨rfl, _, rfl, conv _ _ _ _ h2⟩⟩
    · rw [List.getElem?_set_ne hj] at ht
      rw [upA_ne (Ne.symm hj)]
      obtain ⟨o, h5, h6⟩ := E.sls j t ht
      exact ⟨o, h5, h6.mono g fun _ _ _ e => e⟩
  · rw [List.length_set] at hj
    rw [upA_ne (by omega)]
    exact E.out j hj
  · by_cases e1 : j = i
    · subst e1; rw [upA_same] at h5; cases h5
    · rw [upA_ne e1] at h5
      by_cases e2 : l = i
      · subst e2; rw [upA_same] at h6; cases h6
      · rw [upA_ne e2] at h6; exact E.dj j l hjl b h5 h6
  · by_cases e1 : j = i
    · subst e1; rw [upA_same] at h5; cases h5
    · rw [upA_ne e1] at h5
      refine ⟨fun f => ?_, (E.fr j b h5).2⟩
      rcases f with f | f
      · exact (E.fr j b h5).1 f
      · exact E.dj j i e1 b h5 f
  · rcases f with f | f
    · exact E.ok.new b f
    · exact .inr ((E.fr i b f).2.symm)
  · rcases f with f | f
    · exact E.ok.al b f
    · exact lv b f
  · obtain ⟨h5, h6, s, h7, h8⟩ := E.pn q e
    have n := hp q e
    rw [upA_ne n, List.getElem?_set_ne (Ne.symm n)]
    exact ⟨h5, h6, s, h7, h8⟩
theorem LLAt.rp {C : CA} {F : Rg} {H : Hp} {F' : Rg} (g : Ge F H F' H) : ∀ {bs : List Addr} {xs : List (List X)}, (∀ b ∈ bs, F' b) → LLAt C F H bs xs → RpL C F' H (bs.map V.ref) xs
  | [], [], _, _ => trivial
  | b :: bs, x :: xs, k, ⟨⟨vs, h1, h2⟩, h3⟩ => ⟨⟨b, vs, rfl, k b List.mem_cons_self, h1, RpL.mono g h2⟩, LLAt.rp g (fun b hb => k b (List.mem_cons_of_mem _ hb)) h3⟩
  | [], _ :: _, _, h => h.elim
  | _ :: _, [], _, h => h.elim
theorem conv_LL {C : CA} {l : LL X} : ∀ F H as v, Ow.ow C F H as v l → Rp.rp C (fun b => F b ∨ b ∈ as) H v l.l := fun F H as v ⟨a, bs, e, f, nd, h, h1⟩ => by
  subst e f
  exact ⟨a, bs.map V.ref, rfl, .inr List.mem_cons_self, h, LLAt.rp (fun b o f e => ⟨.inl f, e⟩) (fun b hb => .inr (List.mem_cons_of_mem _ hb)) h1⟩
theorem rb_freezeLL {i : Nat} {l : LL X} {p : St → Hp → Prop} {w : Prop} (hi : sl[i]? = some (.own l)) (hp : ∀ q, G.pin = some q → q.1 ≠ i) (k : RB G (sl.set i (.dat l.l)) p w) : RB G sl p w := rb_freezeG conv_LL hi hp k
theorem re_lenLL {i : Nat} {l : LL X} (hi : sl[i]? = some (.own l)) : RE G sl (tCB (cLen K) (tCons (tVar i) tNil)) (fun Q => Q ((l.l.length : Nat) : Int)) := fun σ A F H Qp Q E hm k => by
  obtain ⟨a, bs, h1, h2, h3, h4, h5⟩ := E.ownLL hi
  exact ⟨_, h1, i_len h4 (k _ _ _ _ hm Gk.refl E (by rw [List.length_map, h5.length]; rfl))⟩
/-! ### a comprehension of new lists -/
def RLcO (G : Gx) (sl : List Sl) (vs : List Nat) (g : TG) (te : TE) {X Y : Type} [Rp X] [Rp Y] (x : X) (n : PT (List Y)) : Prop := ∀ (σ : St) (A : Nat → List Addr) (F : Rg) (H : Hp) (v : V) (Qp : List Y → Prop) (Qy : VK) (Qn : Hp → Prop), Env G sl σ A F H → Rp.rp G.C F H v x → n Qp →
  (∀ y u F' H' as, Qp y → Gk A F H F' H' → Env G sl σ A F' H' → Ow.ow G.C F' H' as u y → (∀ a ∈ as, ¬ F' a ∧ H a = none) → Qy u H') →
  g v σ H fun σ2 H2 => wipe σ2 vs = wipe σ vs ∧ tYes σ2 H2 fun b H3 => if b = true then te σ2 H3 Qy else Qn H3
theorem rl_own {vs : List Nat} {g : TG} {te : TE} {x : X} {B : Type} {sl' : B → List Sl} {n : PT B} {e : B → PT (List Y)} (ht : RT G sl vs g x sl' n) (he : ∀ b, RO G (sl' b) te (e b)) : RLcO G sl vs g te x (fun Q => n fun b => e b Q) := fun σ A F H v Qp Qy Qn E r hq ky =>
  ht σ A F H v _ _ E r hq fun b σ' q1 E1 b1 w1 => ⟨w1, by
    show if true = true then te σ' H Qy else Qn H
    rw [if_pos rfl]
    exact he b σ' A F H _ _ E1 q1 fun y u F2 H2 as q2 g2 E2 r2 f2 => ky y u F2 H2 as q2 g2 (b1 F2 H2 g2.ge E2) r2 f2⟩
theorem ro_lcLL {vs : List Nat} {wi : TI} {g : TG} {te : TE} {m : PT (List X)} {f : X → PT (List Y)} (hw : RWo G sl wi m) (hv : ∀ v ∈ vs, NotOwn sl v) (he : ∀ x, RLcO G (wipeS sl vs) vs g te x (f x)) :
    RO G sl (tLc wi g tYes te vs) (fun Q => m fun xs => Sz xs.length ∧ lcP xs (fun x Q => f x fun y => Q (some y)) fun l => Q (LL.mk l)) := fun σ A F H Qp Q E hm k =>
  hw σ A F H _ _ E hm fun xs F1 H1 J q1 g1 E1 w => by
    obtain ⟨hz, q1⟩ := q1
    intro D hD
    obtain ⟨Gd, Y', hW, hP, hY⟩ := w.ex
    have hDA : ∀ i, D ∉ A i := fun i hi => E1.live hi hD
    have hD0 : G.H0 D = none := E1.ok.live _ hD
    have hDF : ¬ F1 D := fun f => E1.ok.al _ f hD
    let Pv : Nat → Hp → Prop := fun i H2 => ∃ F2 acc bs, Gk A F1 H1 F2 H2 ∧ Env G sl σ A F2 H2 ∧ ¬ F2 D ∧ H2 D = some (.lst (bs.map V.ref)) ∧ (D :: bs).Nodup ∧ (∀ b ∈ bs, ¬ F2 b ∧ H1 b = none ∧ ∀ i, b ∉ A i) ∧ LLAt G.C F2 H2 bs acc ∧ bs.length ≤ i ∧ i ≤ xs.length ∧ lcP (xs.drop i) (fun x Q => f x fun y => Q (some y)) (fun zs => Qp (LL.mk (acc ++ zs)))
    refine lc_it hW Pv ?_ ?_ ?_ ?_
    · have n : New F1 H1 F1 (upd H1 D (.lst [])) := New.same' (same_upd hD)
      exact ⟨F1, [], [], n.gk, E1.newk n, hDF, upd_same, by simp, (fun b hb => by cases hb), trivial, Nat.le_refl _, Nat.zero_le _, by simpa using q1⟩
    · rintro i H2 hi ⟨F2, acc, bs, g2, E2, _⟩
      exact hP F2 H2 ⟨g2.ge, E2⟩
    · rintro i x H2 H3 hi ⟨F2, acc, bs, g2, E2, nD, eD, nd, hb, ll, hl, hi2, q⟩ hy
      obtain ⟨F3, y, ey, n3, r3⟩ := hY i H2 x H3 F2 ⟨g2.ge, E2⟩ hy
      have E3 := E2.newk n3
      have g3 : Gk A F1 H1 F3 H3 := g2.trans n3.gk
      have out3 : ∀ b o, ¬ F2 b → H2 b = some o → ¬ F3 b := fun b o h1 h2 f => by
        rcases n3.new b f with f | f
        · exact h1 f
        · rw [h2] at f; cases f
      have nD3 : ¬ F3 D := out3 _ _ nD eD
      have eD3 : H3 D = some (.lst (bs.map V.ref)) := n3.same _ _ eD
      have ed : xs.drop i = y :: xs.drop (i + 1) := by
        obtain ⟨hlt, rfl⟩ := List.getElem?_eq_some_iff.mp ey
        exact List.drop_eq_getElem_cons hlt
      rw [ed] at q
      obtain ⟨Ew, bw⟩ := E3.wiped hv
      have h := he y (wipe σ vs) A F3 H3 x (fun o => lcP (xs.drop (i + 1)) (fun x Q => f x fun y => Q (some y)) fun ys => Qp (LL.mk (acc ++ o :: ys))) (fun y H4 => ∃ acc, H4 D = some (.lst acc) ∧ acc.length < sizeLine ∧ Pv (i + 1) (upd H4 D (.lst (acc ++ [y])))) (Pv (i + 1)) Ew r3 q (fun z u F4 H4 as q4 g4 E4 r4 f4 => ?_)
      · rw [wipe_wipe vs fun _ h => h] at h
        exact h
      · have E4' := bw F4 H4 g4.ge E4
        have eD4 : H4 D = some (.lst (bs.map V.ref)) := g4.kp _ _ hDA eD3
        have out4 : ∀ b o, ¬ F3 b → H3 b = some o → ¬ F4 b := fun b o h1 h2 f => by
          rcases g4.new b f with f | f
          · exact h1 f
          · rw [h2] at f; cases f
        have nD4 : ¬ F4 D := out4 _ _ nD3 eD3
        obtain ⟨E5, g5⟩ := E4'.loc (o := .lst (bs.map V.ref ++ [u])) hDA nD4 (.inr hD0)
        obtain ⟨c, ws, rfl, rfl, hc, hcl⟩ := r4
        obtain ⟨nc, fc⟩ := f4 c (by simp)
        have cD : c ≠ D := fun z => by rw [z, eD3] at fc; cases fc
        have cb : c ∉ bs := fun z => by
          obtain ⟨vs2, e2⟩ := ll.live c z
          rw [n3.same _ _ e2] at fc; cases fc
        have nd' := List.nodup_cons.mp nd
        have ll5 : LLAt G.C F4 (upd H4 D (.lst (bs.map V.ref ++ [V.ref c]))) bs acc := LLAt.mono ((n3.ge.trans g4.ge).trans g5) (fun b hbb o e => by
          have : b ≠ D := fun z => nd'.1 (z ▸ hbb)
          rw [upd_ne this]
          exact g4.kp _ _ (hb b hbb).2.2 (n3.same _ _ e)) ll
        refine ⟨bs.map V.ref, eD4, ?_, F4, acc ++ [z], bs ++ [c], ?_, E5, nD4, ?_, ?_, ?_, ?_, by rw [List.length_append]; show bs.length + 1 ≤ i + 1; omega, by omega, ?_⟩
        · have := hz.lt
          rw [List.length_map]; omega
        · exact (g3.trans g4).loc hD nD4
        · rw [upd_same, List.map_append]; rfl
        · rw [← List.cons_append]
          refine List.nodup_append.mpr ⟨nd, by simp, fun a ha b hb2 e => ?_⟩
          have e2 : b = c := by simpa using hb2
          subst e2 e
          rcases List.mem_cons.mp ha with e3 | e3
          · exact cD e3
          · exact cb e3
        · intro b hbb
          rcases List.mem_append.mp hbb with hbb | hbb
          · obtain ⟨vs2, e2⟩ := ll.live b hbb
            exact ⟨out4 _ _ (out3 _ _ (hb b hbb).1 e2) (n3.same _ _ e2), (hb b hbb).2⟩
          · have e2 : b = c := by simpa using hbb
            subst e2
            exact ⟨nc, g3.fr _ fc, fun i hi => E3.live hi fc⟩
        · exact LLAt.snoc (by rw [upd_ne cD]; exact hc) (RpL.mono g5 hcl) ll5
        · simpa [List.append_assoc] using q4
    · rintro H2 ⟨F2, acc, bs, g2, E2, nD, eD, nd, hb, ll, hl, hi2, q⟩
      rw [List.drop_length] at q
      have q : Qp (LL.mk (acc ++ [])) := q
      rw [List.append_nil] at q
      exact k (LL.mk acc) (.ref D) F2 H2 (D :: bs) q (g1.trans g2) E2 ⟨D, bs, rfl, rfl, nd, eD, ll⟩ fun a ha => by
        rcases List.mem_cons.mp ha with rfl | ha
        · exact ⟨nD, g1.fr _ hD⟩
        · exact ⟨(hb a ha).1, g1.fr _ (hb a ha).2.1⟩
/-! ### a comprehension of two clauses -/
def lc2P {X Y Z : Type} : Nat → List X → (X → PT (Option (List Y))) → (X → Y → PT (Option Z)) → PT (List Z)
  | _, [], _, _, k => k []
  | n, x :: xs, c, f, k => c x fun o => match o with
    | none => lc2P n xs c f k
    | some ys => Sz (n + ys.length) ∧ lcP ys (f x) fun zs => lc2P (n + zs.length) xs c f fun rs => k (zs ++ rs)
theorem rc_yes : RC G sl tYes (pR true) := fun σ A F H Qp Q E hm k => k true F H hm Gk.refl E
theorem ro_lc2 {vs vs1 : List Nat} {wi wi1 : TI} {g g1 : TG} {tt tt1 : TT} {te : TE} {m : PT (List X)} {B : X → Type} {sl1 : (x : X) → B x → List Sl} {n : (x : X) → PT (B x)} {c : X → PT Bool} {m1 : X → PT (List Y)} {f : X → Y → PT (Option Z)} (hw : RWo G sl wi m) (hv : ∀ v ∈ vs, NotOwn sl v)
    (ht : ∀ x, RT G (wipeS sl vs) vs g x (sl1 x) (n x)) (hc : ∀ x b, RC G (sl1 x b) tt (c x)) (hw1 : ∀ x b, RWo G (sl1 x b) wi1 (m1 x)) (hv1 : ∀ x b, ∀ v ∈ vs1, NotOwn (sl1 x b) v) (he : ∀ x b y, RLc G (wipeS (sl1 x b) vs1) vs1 g1 tt1 te y (f x y)) :
    RO G sl (tLc2 wi g tt wi1 g1 tt1 te vs vs1) (fun Q => m fun xs => lc2P 0 xs (fun x Q => n x fun _ => c x fun t => if t = true then m1 x (fun ys => Q (some ys)) else Q none) f Q) := fun σ A F H Qp Q E hm k =>
  hw σ A F H _ _ E hm fun xs F1 H1 J q1 g1' E1 w => by
    intro D hD
    obtain ⟨Gd, Y', hW, hP, hY⟩ := w.ex
    have hDA : ∀ i, D ∉ A i := fun i hi => E1.live hi hD
    have hD0 : G.H0 D = none := E1.ok.live _ hD
    have hDF : ¬ F1 D := fun f => E1.ok.al _ f hD
    let cc : X → PT (Option (List Y)) := fun x Q => n x fun _ => c x fun t => if t = true then m1 x (fun ys => Q (some ys)) else Q none
    let Pv : Nat → Hp → Prop := fun i H2 => ∃ F2 acc ws, Gk A F1 H1 F2 H2 ∧ Env G sl σ A F2 H2 ∧ ¬ F2 D ∧ H2 D = some (.lst ws) ∧ RpL G.C F2 H2 ws acc ∧ i ≤ xs.length ∧ lc2P acc.length (xs.drop i) cc f (fun zs => Qp (acc ++ zs))
    refine ⟨fun i m H => m = xs.length - i ∧ i ≤ xs.length ∧ Pv i H, ⟨_, rfl, Nat.zero_le _, ?_⟩, ?_⟩
    · have n : New F1 H1 F1 (upd H1 D (.lst [])) := New.same' (same_upd hD)
      exact ⟨F1, [], [], n.gk, E1.newk n, hDF, upd_same, trivial, Nat.zero_le _, by simpa using q1⟩
    · rintro i mm H2 ⟨rfl, hi, F2, acc, ws, g2, E2, nD, eD, rl, hi2, q⟩
      have gd := hP F2 H2 ⟨g2.ge, E2⟩
      by_cases hlt : i < xs.length
      · refine .inr ⟨hW.goes i H2 hlt gd, Pv (i + 1), fun H' p' => ⟨_, by omega, rfl, hlt, p'⟩, fun x H3 hy => ?_⟩
        obtain ⟨F3, y, ey, n3, r3⟩ := hY i H2 x H3 F2 ⟨g2.ge, E2⟩ (hW.yields i H2 x H3 hlt gd hy)
        have E3 := E2.newk n3
        have g3 : Gk A F1 H1 F3 H3 := g2.trans n3.gk
        have nD3 : ¬ F3 D := fun f => by
          rcases n3.new D f with f | f
          · exact nD f
          · rw [eD] at f; cases f
        have eD3 : H3 D = some (.lst ws) := n3.same _ _ eD
        have ed : xs.drop i = y :: xs.drop (i + 1) := by
          obtain ⟨hlt, rfl⟩ := List.getElem?_eq_some_iff.mp ey
          exact List.drop_eq_getElem_cons hlt
        rw [ed] at q
        obtain ⟨Ew, bw⟩ := E3.wiped hv
        have q : n y fun _ => c y fun t => if t = true then m1 y (fun ys => Sz (acc.length + ys.length) ∧ lcP ys (f y) fun zs => lc2P (acc.length + zs.length) (xs.drop (i + 1)) cc f fun rs => Qp (acc ++ (zs ++ rs))) else lc2P acc.length (xs.drop (i + 1)) cc f (fun zs => Qp (acc ++ zs)) := q
        refine ht y (wipe σ vs) A F3 H3 x _ _ Ew r3 q fun b σ2 q4 E4 b1 w1 => ?_
        refine ⟨by rw [w1]; exact wipe_wipe vs fun _ h => h, hc y b σ2 A F3 H3 _ _ E4 q4 fun t F5 H5 q5 g5 E5 => ?_⟩
        have nD5 : ¬ F5 D := fun f => by
          rcases g5.new D f with f | f
          · exact nD3 f
          · rw [eD3] at f; cases f
        have eD5 : H5 D = some (.lst ws) := g5.kp _ _ hDA eD3
        cases t with
        | false =>
          rw [if_neg Bool.false_ne_true] at q5 ⊢
          exact ⟨F5, acc, ws, g3.trans g5, bw F5 H5 g5.ge (b1 F5 H5 g5.ge E5), nD5, eD5, RpL.mono (n3.ge.trans g5.ge) rl, hlt, q5⟩
        | true =>
          rw [if_pos rfl] at q5 ⊢
          refine hw1 y b σ2 A F5 H5 _ _ E5 q5 fun ys F6 H6 J1 q6 g6 E6 w6 => ?_
          obtain ⟨hz, q6⟩ := q6
          obtain ⟨Gd1, Y1, hW1, hP1, hY1⟩ := w6.ex
          have nD6 : ¬ F6 D := fun f => by
            rcases g6.new D f with f | f
            · exact nD5 f
            · rw [eD5] at f; cases f
          have eD6 : H6 D = some (.lst ws) := g6.kp _ _ hDA eD5
          have rl6 : RpL G.C F6 H6 ws acc := RpL.mono ((n3.ge.trans g5.ge).trans g6.ge) rl
          let Pw : Nat → Hp → Prop := fun j H7 => ∃ F7 ia ws', (Gk A F1 H1 F7 H7 ∧ Ge F6 H6 F7 H7) ∧ Env G (sl1 y b) σ2 A F7 H7 ∧ ¬ F7 D ∧ H7 D = some (.lst ws') ∧ RpL G.C F7 H7 ws' (acc ++ ia) ∧ ia.length ≤ j ∧ j ≤ ys.length ∧ lcP (ys.drop j) (f y) (fun zs => lc2P (acc.length + (ia ++ zs).length) (xs.drop (i + 1)) cc f fun rs => Qp (acc ++ ((ia ++ zs) ++ rs)))
          refine ⟨fun j m H => m = ys.length - j ∧ j ≤ ys.length ∧ Pw j H, ⟨_, rfl, Nat.zero_le _, F6, [], ws, ⟨(g3.trans g5).trans g6, Ge.refl⟩, E6, nD6, eD6, by rw [List.append_nil]; exact rl6, Nat.le_refl _, Nat.zero_le _, by simpa using q6⟩, ?_⟩
          rintro j mm H7 ⟨rfl, hj, F7, ia, ws', ⟨gk7, g7⟩, E7, nD7, eD7, rl7, hl7, hj2, q7⟩
          have gd1 := hP1 F7 H7 ⟨g7, E7⟩
          by_cases hlt1 : j < ys.length
          · refine .inr ⟨hW1.goes j H7 hlt1 gd1, Pw (j + 1), fun H' p' => ⟨_, by omega, rfl, hlt1, p'⟩, fun x1 H8 hy1 => ?_⟩
            obtain ⟨F8, y1, ey1, n8, r8⟩ := hY1 j H7 x1 H8 F7 ⟨g7, E7⟩ (hW1.yields j H7 x1 H8 hlt1 gd1 hy1)
            have E8 := E7.newk n8
            have gk8 : Gk A F1 H1 F8 H8 := gk7.trans n8.gk
            have g8 : Ge F6 H6 F8 H8 := g7.trans n8.ge
            have nD8 : ¬ F8 D := fun f => by
              rcases n8.new D f with f | f
              · exact nD7 f
              · rw [eD7] at f; cases f
            have eD8 : H8 D = some (.lst ws') := n8.same _ _ eD7
            have ed1 : ys.drop j = y1 :: ys.drop (j + 1) := by
              obtain ⟨hlt, rfl⟩ := List.getElem?_eq_some_iff.mp ey1
              exact List.drop_eq_getElem_cons hlt
            rw [ed1] at q7
            obtain ⟨Ew1, bw1⟩ := E8.wiped (hv1 y b)
            have h := he y b y1 (wipe σ2 vs1) A F8 H8 x1 (fun o => lcP (ys.drop (j + 1)) (f y) fun zs => lc2P (acc.length + (ia ++ (match o with | none => zs | some z => z :: zs)).length) (xs.drop (i + 1)) cc f fun rs => Qp (acc ++ ((ia ++ (match o with | none => zs | some z => z :: zs)) ++ rs)))
              (fun y H4 => ∃ acc, H4 D = some (.lst acc) ∧ acc.length < sizeLine ∧ Pw (j + 1) (upd H4 D (.lst (acc ++ [y])))) (Pw (j + 1)) Ew1 r8 q7 (fun F9 H9 q9 g9 E9 => ?_) (fun z u F9 H9 q9 g9 E9 r9 => ?_)
            · rw [wipe_wipe vs1 fun _ h => h] at h
              exact h
            · have eD9 : H9 D = some (.lst ws') := g9.kp _ _ hDA eD8
              have nD9 : ¬ F9 D := fun f => by
                rcases g9.new D f with f | f
                · exact nD8 f
                · rw [eD8] at f; cases f
              exact ⟨F9, ia, ws', ⟨gk8.trans g9, g8.trans g9.ge⟩, bw1 F9 H9 g9.ge E9, nD9, eD9, RpL.mono (n8.ge.trans g9.ge) rl7, by omega, hlt1, q9⟩
            · have eD9 : H9 D = some (.lst ws') := g9.kp _ _ hDA eD8
              have nD9 : ¬ F9 D := fun f => by
                rcases g9.new D f with f | f
                · exact nD8 f
                · rw [eD8] at f; cases f
              obtain ⟨E10, g10⟩ := (bw1 F9 H9 g9.ge E9).loc (o := .lst (ws' ++ [u])) hDA nD9 (.inr hD0)
              refine ⟨ws', eD9, ?_, F9, ia ++ [z], ws' ++ [u], ?_, E10, nD9, upd_same, ?_, by rw [List.length_append]; show ia.length + 1 ≤ j + 1; omega, hlt1, ?_⟩
              · have := hz.lt
                rw [rl7.length, List.length_append]
                omega
              · exact ⟨(gk8.trans g9).loc hD nD9, (g8.trans g9.ge).trans g10⟩
              · rw [← List.append_assoc]
                exact RpL.append (RpL.mono ((n8.ge.trans g9.ge).trans g10) rl7) ⟨Rp.mono g10 r9, trivial⟩
              · simpa [List.append_assoc] using q9
          · have e : j = ys.length := by omega
            subst e
            refine .inl ⟨hW1.stops H7 gd1, ?_⟩
            rw [List.drop_length] at q7
            have q7 : lc2P (acc.length + (ia ++ []).length) (xs.drop (i + 1)) cc f fun rs => Qp (acc ++ ((ia ++ []) ++ rs)) := q7
            rw [List.append_nil, ← List.length_append] at q7
            have gg : Ge F3 H3 F7 H7 := (g5.ge.trans g6.ge).trans g7
            exact ⟨F7, acc ++ ia, ws', gk7, bw F7 H7 gg (b1 F7 H7 gg E7), nD7, eD7, rl7, hlt, by simpa [List.append_assoc] using q7⟩
      · have e : i = xs.length := by omega
        subst e
        refine .inl ⟨hW.stops H2 gd, ?_⟩
        rw [List.drop_length] at q
        have q : Qp (acc ++ []) := q
        rw [List.append_nil] at q
        exact k acc (.ref D) F2 H2 [D] q (g1'.trans g2) E2 ⟨D, ws, rfl, rfl, eD, rl⟩ fun a ha => by
          have : a = D := by simpa using ha
          subst this
          exact ⟨nD, g1'.fr _ hD⟩
theorem ro_lc2y {vs vs1 : List Nat} {wi wi1 : TI} {g g1 : TG} {tt1 : TT} {te : TE} {m : PT (List X)} {B : X → Type} {sl1 : (x : X) → B x → List Sl} {n : (x : X) → PT (B x)} {m1 : X → PT (List Y)} {f : X → Y → PT (Option Z)} (hw : RWo G sl wi m) (hv : ∀ v ∈ vs, NotOwn sl v)
    (ht : ∀ x, RT G (wipeS sl vs) vs g x (sl1 x) (n x)) (hw1 : ∀ x b, RWo G (sl1 x b) wi1 (m1 x)) (hv1 : ∀ x b, ∀ v ∈ vs1, NotOwn (sl1 x b) v) (he : ∀ x b y, RLc G (wipeS (sl1 x b) vs1) vs1 g1 tt1 te y (f x y)) :
    RO G sl (tLc2 wi g tYes wi1 g1 tt1 te vs vs1) (fun Q => m fun xs => lc2P 0 xs (fun x Q => n x fun _ => m1 x (fun ys => Q (some ys))) f Q) := ro_lc2 (c := fun _ => pR true) hw hv ht (fun _ _ => rc_yes) hw1 hv1 he
/-- a thing that is a tuple of ints -/
theorem re_asTuI {te : TE} {m : PT Dv} (h : RE G sl te m) : RE G sl te (fun Q => m fun d => ∃ ns : List Int, d = .tup (ns.map Dv.int) ∧ Q (Tu.mk ns)) := fun σ A F H Qp Q E hm k =>
  h σ A F H _ Q E hm fun x v F1 H1 ⟨l, e, q1⟩ g1 E1 r1 => by
    subst e
    have r1 : DvR G.C F1 H1 v (.tup (l.map Dv.int)) := r1
    simp only [DvR] at r1
    obtain ⟨a, vs, e, f, ha, hl⟩ := r1
    exact k _ v F1 H1 q1 g1 E1 ⟨a, vs, e, f, ha, by rw [DvL.ints hl]; exact RpL.of_ints l⟩
end
theorem ro_evening {G : Gx} {sl : List Sl} {ta tb : TE} {m n : PT (Tu Q2)} {wa : List Sl → (Unit → EvI → Prop) → Prop} {w : Tu Q2 → Tu Q2 → (EvI → Prop) → Prop} {E0' : XK} (hw : ∀ o d Q, w o d Q → wa [.own EvI.e, .dat (X := Tu Q2) o, .dat (X := Tu Q2) d] (fun _ y => Q y)) (ha : RE G sl ta m) (hb : RE G sl tb n) :
    RO G sl (tMake G.C.Evening (SpO G.C 0 wa) [] E0' (tCons ta (tCons tb tNil))) (fun Q => m fun o => n fun d => w o d fun y => Q y) := fun σ A F H Qp Q E hm k =>
  ha σ A F H _ _ E hm fun o vo F1 H1 q1 g1 E1 r1 => hb σ A F1 H1 _ _ E1 q1 fun d vd F2 H2 q2 g2 E2 r2 => by
    intro x dx nx nd ne
    have s1 : Same H2 (upd (upd H2 dx (.own x)) x (.ins G.C.Evening dx [])) := fun b u hb => by rw [upd_ne (ne_of_none hb nx), upd_ne (ne_of_none hb nd)]; exact hb
    have n1 : New F2 H2 F2 _ := New.same' s1
    have E3 := E2.newk n1
    have g12 := g1.trans g2
    have nF : ¬ F2 x := fun f => E2.ok.al _ f nx
    refine ⟨[.own EvI.e, .dat (X := Tu Q2) o, .dat (X := Tu Q2) d], F2, [x], .ref x, _, ⟨[x], [], rfl, ⟨x, rfl, rfl, dx, upd_same⟩, Rp.mono (g2.ge.trans n1.ge) r1, Rp.mono n1.ge r2, rfl⟩, rfl, E3.ok.al, fun a ha => by
      have : a = x := by simpa using ha
      rw [this]; exact nF, hw o d _ q2, fun u y v F4 H4 q4 p4 nf o4 r4 => ⟨r4, ?_⟩⟩
    have h0x : G.H0 x = none := E2.ok.live _ nx
    obtain ⟨E4, g4⟩ := E3.postW p4 (fun a ha => by
      have : a = x := by simpa using ha
      subst this
      exact ⟨h0x, nF, fun i hi => E2.live hi nx, nf _ ha⟩)
    have hx0 : H x = none := g12.fr _ nx
    obtain ⟨x', ex, ea, o4⟩ := o4
    cases ex
    refine k y (.ref x) F4 H4 [x] q4 ⟨(g12.ge.trans n1.ge).trans g4, fun b u hb e => ?_, fun b e => g12.fr b (s1.free (p4.live b e)), fun b f => ?_⟩ E4 ⟨x, rfl, rfl, o4⟩ fun a ha => by
      have : a = x := by simpa using ha
      subst this
      exact ⟨nf _ (by simp), hx0⟩
    · exact p4.keep b u (fun z => by
        have : b = x := by simpa using z
        rw [this, hx0] at e; cases e) (s1 _ _ (g12.kp b u hb e))
    · rcases p4.new b f with f | f | f
      · exact g12.new b f
      · exact .inr (g12.fr b (s1.free f))
      · have : b = x := by simpa using f
        rw [this]; exact .inr hx0
section
variable {G : Gx} {sl : List Sl} {K : PySem.W.Frag} {D : Ends} {X : Type} [Rp X]
theorem rb_setO {te : TE} {i : Nat} {o d : Tu Q2} {m : PT (Tu Q2)} {w : Tu Q2 → Prop} (T : CT K G.C) (hi : sl[i]? = some (.own (EvI.f o d))) (h : RE G sl te m) (k : ∀ x, RB G (sl.set i (.own (EvI.f x d))) D.nx (w x)) : RB G sl (sFld K (tVar i) te "owed" D) (m w) := fun σ A F H E hw =>
  h σ A F H w _ E hw fun o v F1 H1 q1 g1 E1 r1 => by
    obtain ⟨u, h1, x, rfl, ea, dx, vo, vd, hx, ho, hd⟩ := E1.own hi
    have na : ¬ F1 x := (E1.fr i x (by rw [ea]; simp)).1
    exact ⟨_, h1, x, _, dx, _, rfl, hx, T.cl, T.nO, by show 2 < 1000; decide, k o σ A F1 _ (ins_turn E1 hi h1 (by rw [ea]; simp) ⟨x, rfl, ea, dx, v, vd, upd_same, Rp.mono (upd_ge na) r1, Rp.mono (upd_ge na) hd⟩) q1⟩
theorem rb_setD {te : TE} {i : Nat} {o d : Tu Q2} {m : PT (Tu Q2)} {w : Tu Q2 → Prop} (T : CT K G.C) (hi : sl[i]? = some (.own (EvI.f o d))) (h : RE G sl te m) (k : ∀ x, RB G (sl.set i (.own (EvI.f o x))) D.nx (w x)) : RB G sl (sFld K (tVar i) te "due" D) (m w) := fun σ A F H E hw =>
  h σ A F H w _ E hw fun o v F1 H1 q1 g1 E1 r1 => by
    obtain ⟨u, h1, x, rfl, ea, dx, vo, vd, hx, ho, hd⟩ := E1.own hi
    have na : ¬ F1 x := (E1.fr i x (by rw [ea]; simp)).1
    exact ⟨_, h1, x, _, dx, _, rfl, hx, T.cl, T.nD, by show 2 < 1000; decide, k o σ A F1 _ (ins_turn E1 hi h1 (by rw [ea]; simp) ⟨x, rfl, ea, dx, vo, v, upd_same, Rp.mono (upd_ge na) ho, Rp.mono (upd_ge na) r1⟩) q1⟩
theorem conv_Ev {C : CA} {o d : Tu Q2} : ∀ F H as v, Ow.ow C F H as v (EvI.f o d) → Rp.rp C (fun b => F b ∨ b ∈ as) H v (Ev.mk o d) := fun F H as v ⟨x, e, ea, dx, vo, vd, h, ho, hd⟩ => by
  subst e ea
  have g : Ge F H (fun b => F b ∨ b ∈ [x]) H := fun b o f e => ⟨.inl f, e⟩
  exact ⟨x, dx, vo, vd, rfl, .inr (by simp), h, Rp.mono g ho, Rp.mono g hd⟩
theorem rb_freezeEv {i : Nat} {o d : Tu Q2} {p : St → Hp → Prop} {w : Prop} (hi : sl[i]? = some (.own (EvI.f o d))) (hp : ∀ q, G.pin = some q → q.1 ≠ i) (k : RB G (sl.set i (.dat (Ev.mk o d))) p w) : RB G sl p w := rb_freezeG conv_Ev hi hp k
/-- an own thing made and stored, told by a form of it -/
theorem rb_asgEv {te : TE} {i : Nat} {m : PT EvI} {w : Tu Q2 → Tu Q2 → Prop} (h : RO G sl te m) (n : NotOwn sl i) (hi : i < sl.length) (k : ∀ o d, RB G (sl.set i (.own (EvI.f o d))) D.nx (w o d)) : RB G sl (tAsg te (gName i) D) (m fun y => ∃ o d, y = EvI.f o d ∧ w o d) :=
  rb_asgO h n hi fun x σ A F H E ⟨o, d, e, hw⟩ => by subst e; exact k o d σ A F H E hw
/-- x is None where x is never None -/
theorem re_isNno [NoN X] {ta tb : TE} {m : PT X} (ha : RE G sl ta m) : RE G sl (tOp oIsN ta (tC .non)) (fun Q => m fun _ => Q false) := re_imp (re_isN (tb := tC .non) (re_some ha)) (fun _ h => h)
theorem re_isNun {ta : TE} {m : PT Unit} (ha : RE G sl ta m) : RE G sl (tOp oIsN ta (tC .non)) (fun Q => m fun _ => Q true) := fun σ A F H Qp Q E hm k =>
  ha σ A F H _ _ E hm fun x v F1 H1 q1 g1 E1 r1 => ⟨rfl, k true _ F1 H1 q1 g1 E1 (by show V.bl _ = V.bl _; rw [show v = .non from r1]; rfl)⟩
theorem pe_neverE {X : Cx} {e : Expr} : PE X e (fun _ _ _ => False) := ⟨fun _ _ _ _ _ _ h => h.elim⟩
def Dv.isNon : Dv → Bool | .non => true | _ => false
theorem dv_non {C : CA} {F : Rg} {H : Hp} {v : V} {d : Dv} (h : Rp.rp C F H v d) : decide (v = .non) = d.isNon := by
  have h : DvR C F H v d := h
  cases d with
  | non => simp only [DvR] at h; subst h; rfl
  | bl b => simp only [DvR] at h; subst h; rfl
  | int i => simp only [DvR] at h; subst h; rfl
  | str s => simp only [DvR] at h; obtain ⟨rfl, _⟩ := h; rfl
  | tup l => simp only [DvR] at h; obtain ⟨a, vs, rfl, _⟩ := h; rfl
  | lst l => simp only [DvR] at h; obtain ⟨a, vs, rfl, _⟩ := h; rfl
  | dct => simp only [DvR] at h; obtain ⟨a, vs, rfl, _⟩ := h; rfl
  | ev e => simp only [DvR] at h; obtain ⟨a, dx, vo, vd, rfl, _⟩ := h; rfl
theorem re_isNth {ta tb : TE} {m : PT Dv} (ha : RE G sl ta m) : RE G sl (tOp oIsN ta (tC .non)) (fun Q => m fun a => Q a.isNon) := fun σ A F H Qp Q E hm k =>
  ha σ A F H _ _ E hm fun x v F1 H1 q1 g1 E1 r1 => ⟨rfl, k _ _ _ _ q1 g1 E1 (by rw [dv_non r1]; rfl)⟩
theorem re_notNth {ta tb : TE} {m : PT Dv} (ha : RE G sl ta m) : RE G sl (tOp oNotN ta (tC .non)) (fun Q => m fun a => Q (!a.isNon)) := fun σ A F H Qp Q E hm k =>
  ha σ A F H _ _ E hm fun x v F1 H1 q1 g1 E1 r1 => ⟨rfl, k _ _ _ _ q1 g1 E1 (by rw [dv_non r1]; rfl)⟩
end
section
variable {G : Gx} {sl : List Sl} {K : PySem.W.Frag} {X : Type} [Rp X]
theorem kit_any2 {t : Value} {n1 n2 : String} {b1 b2 : Bool} (h1 : PySem.W.kitOne K t (.type n1) = some b1) (h2 : PySem.W.kitOne K t (.type n2) = some b2) : PySem.W.kitAny K t [.type n1, .type n2] = some (b1 || b2) := by
  unfold PySem.W.kitAny
  rw [h1]
  cases b1 with
  | true => rfl
  | false =>
    unfold PySem.W.kitAny
    rw [h2]
    cases b2 <;> rfl
/-- isinstance(x, (n1, n2)) -/
theorem i_isi2 {H : Hp} {Q : VK} {x : V} {t : Value} {n1 n2 : String} {b1 b2 : Bool} {tp : Addr} (ty : TyX K H x t) (ht : H tp = some (.tup [.ty n1, .ty n2])) (h1 : PySem.W.kitOne K t (.type n1) = some b1) (h2 : PySem.W.kitOne K t (.type n2) = some b2) (q : Q (.bl (b1 || b2)) H) : rIsiT K [x, .ref tp] H Q :=
  ⟨x, tp, _, t, _, _, rfl, ht, .cons (.ty n1) (.cons (.ty n2) .nil), ty, kit_any2 h1 h2, q⟩
theorem two_new {H : Hp} {a b : V} : ∀ {Q : VK}, (∀ p, H p = none → Q (.ref p) (upd H p (.tup [a, b]))) → ∀ p, H p = none → Q (.ref p) (upd H p (.tup [a, b])) := fun h => h
theorem re_isi2 [TyN X] {te : TE} {m : PT X} {n1 n2 : String} {b1 b2 : Bool} (h : RE G sl te m) (h1 : kitB (TyN.nm X) n1 = some b1) (h2 : kitB (TyN.nm X) n2 = some b2) : RE G sl (tCB (rIsiT K) (tCons te (tCons (tTup (tCons (tC (.ty n1)) (tCons (tC (.ty n2)) tNil))) tNil))) (fun Q => m fun _ => Q (b1 || b2)) := fun σ A F H Qp Q E hm k =>
  h σ A F H _ _ E hm fun x v F1 H1 q1 g1 E1 r1 => ⟨Nat.le_trans (show 2 ≤ 1000 by decide) (Sz.le (n := 1000) (by decide)), fun p hp => by
    have n : New F1 H1 F1 (upd H1 p (.tup [.ty n1, .ty n2])) := New.same' (same_upd hp)
    exact i_isi2 (TyN.ty (Rp.mono n.ge r1)) upd_same (kit_ty h1) (kit_ty h2) (k _ _ F1 _ q1 (g1.trans n.gk) (E1.newk n) rfl)⟩
theorem re_isiLT {te : TE} {m : PT Dv} (T : EvIs K G.C) (h : RE G sl te m) : RE G sl (tCB (rIsiT K) (tCons te (tCons (tTup (tCons (tC (.ty "list")) (tCons (tC (.ty "tuple")) tNil))) tNil))) (fun Q => m fun d => Q (d.isLst || d.isTup)) := fun σ A F H Qp Q E hm k =>
  h σ A F H _ _ E hm fun x v F1 H1 q1 g1 E1 r1 => ⟨Nat.le_trans (show 2 ≤ 1000 by decide) (Sz.le (n := 1000) (by decide)), fun p hp => by
    have n : New F1 H1 F1 (upd H1 p (.tup [.ty "list", .ty "tuple"])) := New.same' (same_upd hp)
    have q2 : Q (.bl (x.isLst || x.isTup)) (upd H1 p (.tup [.ty "list", .ty "tuple"])) := k _ _ F1 _ q1 (g1.trans n.gk) (E1.newk n) rfl
    have r2 : DvR G.C F1 (upd H1 p (.tup [.ty "list", .ty "tuple"])) v x := Rp.mono (X := Dv) n.ge r1
    have fin : ∀ {t : String}, TyX K (upd H1 p (.tup [.ty "list", .ty "tuple"])) v (.type t) → kitB t "list" = some x.isLst → kitB t "tuple" = some x.isTup → rIsiT K [v, .ref p] (upd H1 p (.tup [.ty "list", .ty "tuple"])) Q := fun ty h1 h2 => i_isi2 ty upd_same (kit_ty h1) (kit_ty h2) q2
    cases x with
    | non => simp only [DvR] at r2; subst r2; exact fin (.base .non) (by decide +kernel) (by decide +kernel)
    | bl b => simp only [DvR] at r2; subst r2; exact fin (.base (.bl _)) (show kitB "bool" "list" = some false by decide +kernel) (show kitB "bool" "tuple" = some false by decide +kernel)
    | int i => simp only [DvR] at r2; subst r2; exact fin (.base (.int _)) (show kitB "int" "list" = some false by decide +kernel) (show kitB "int" "tuple" = some false by decide +kernel)
    | str z => simp only [DvR] at r2; obtain ⟨rfl, _⟩ := r2; exact fin (.base (.str _)) (show kitB "str" "list" = some false by decide +kernel) (show kitB "str" "tuple" = some false by decide +kernel)
    | tup l => simp only [DvR] at r2; obtain ⟨a, vs, rfl, f, ha, hl⟩ := r2; exact fin (.base (.tup ha)) (show kitB "tuple" "list" = some false by decide +kernel) (show kitB "tuple" "tuple" = some true by decide +kernel)
    | lst l => simp only [DvR] at r2; obtain ⟨a, vs, rfl, f, ha, hl⟩ := r2; exact fin (.base (.lst ha)) (show kitB "list" "list" = some true by decide +kernel) (show kitB "list" "tuple" = some false by decide +kernel)
    | dct => simp only [DvR] at r2; obtain ⟨a, vs, rfl, f, ha⟩ := r2; exact fin (.base (.dK ha)) (by decide +kernel) (by decide +kernel)
    | ev e =>
      simp only [DvR] at r2
      obtain ⟨a, dx, vo, vd, rfl, f, ha, _⟩ := r2
      exact i_isi2 (b1 := false) (b2 := false) (.base (.ins ha T.cl T.ha T.hn T.htk T.hm)) upd_same T.lst T.tup q2⟩
end
section
variable {G : Gx} {sl : List Sl} {K : PySem.W.Frag} {X Y : Type} [Rp X] [Rp Y]
theorem walk_zipT {n : Nat} {xs ys : List V} {a b : Addr} (hn : n = min xs.length ys.length) : Walk (RZ.ItzT K a b) n (fun H => SqT K H a xs ∧ SqT K H b ys) (YPair (fun i => xs[i]?) (fun i => ys[i]?)) := by
  subst hn
  refine ⟨fun i _ hi q => ?_, fun _ q => ⟨xs, ys, q.1, q.2, by omega⟩, fun i H v H' _ q y => ?_⟩
  · have h1 : i < xs.length := by omega
    have h2 : i < ys.length := by omega
    exact ⟨xs, ys, xs[i], ys[i], q.1, q.2, by simp [h1], by simp [h2]⟩
  · obtain ⟨T, x, z, h1, h2, h3, h4, h5⟩ := y
    exact ⟨T, x, z, h1, h2, h3, h4 xs q.1, h5 ys q.2⟩
theorem rw_zipT {ta tb : TE} {m : PT (Tu X)} {n : PT (Tu Y)} (h : RE G sl ta m) (h' : RE G sl tb n) : RW G sl (RZ.iZipA K (tCons ta (tCons tb tNil))) (fun Q => m fun xs => n fun ys => Q (xs.l.zip ys.l)) := fun σ A F H Qp R E hm k =>
  h σ A F H _ _ E hm fun xs v F1 H1 q1 g1 E1 r1 => h' σ A F1 H1 _ _ E1 q1 fun ys w F2 H2 q2 g2 E2 r2 => by
    obtain ⟨a, vs, rfl, f, ha, hl⟩ := Rp.mono g2.ge r1
    obtain ⟨b, ws, rfl, f', hb, hk⟩ := r2
    refine ⟨a, b, vs, ws, rfl, .inr ⟨SqT.of ha, SqT.of hb, k _ F2 H2 _ q2 (g1.trans g2) E2 ⟨fun H => H a = some (.tup vs) ∧ H b = some (.tup ws), YPair (fun i => vs[i]?) (fun i => ws[i]?), ?_, fun F H p => ⟨(p _ _ f ha).2, (p _ _ f' hb).2⟩, fun i H x H' F p y => ?_⟩⟩⟩
    · have := walk_zipT (K := K) (a := a) (b := b) (xs := vs) (ys := ws) rfl
      rw [hl.length, hk.length] at this
      rw [List.length_zip]
      exact this.mono (fun H h => ⟨SqT.of h.1, SqT.of h.2⟩) fun i H x H' _ _ y => y
    · obtain ⟨T, u, w, rfl, hT, rfl, e1, e2⟩ := y
      obtain ⟨z, h1, h2⟩ := hl.get e1
      obtain ⟨z', h1', h2'⟩ := hk.get e2
      obtain ⟨n, r⟩ := pair_new (C := G.C) hT (Rp.mono p h2) (Rp.mono p h2')
      exact ⟨_, _, by rw [List.getElem?_zip_eq_some]; exact ⟨h1, h1'⟩, n, r⟩
end
section
variable {G : Gx} {sl : List Sl} {K : PySem.W.Frag}
theorem re_sumT {te : TE} {m : PT (Tu Int)} (h : RE G sl te m) : RE G sl (tCB (rSumT K) (tCons te tNil)) (fun Q => m fun p => Q p.l.sum) := fun σ A F H Qp Q E hm k =>
  h σ A F H _ _ E hm fun x v F1 H1 q1 g1 E1 r1 => by
    obtain ⟨a, vs, rfl, f, ha, hl⟩ := r1
    have e := hl.ints
    subst e
    exact ⟨a, x.l, rfl, SqT.of ha, k _ _ F1 H1 q1 g1 E1 rfl⟩
end
end QV

namespace QV
open PySem L2 QW
section
variable {G : Gx} {sl : List Sl} {K : PySem.W.Frag} {D : Ends} {S : Type}
theorem rb_whileN {pin : Option Nat} {tt : TT} {tb : TS} {slS : S → List Sl} {s0 : S} {c : S → PT Bool} {wb : S → (S → Prop) → (S → Prop) → Prop} {w : S → Prop} (hp : G.pin.map (·.1) = pin) (hl : LeSl pin 0 sl (slS s0))
    (hc : ∀ s, RC G (slS s) tt (c s)) (hb : ∀ s (D' : Ends) (kn kb : S → Prop), (∀ s', RB G (slS s') D'.nx (kn s')) → (∀ s', RB G (slS s') D'.ct (kn s')) → (∀ s', RB G (slS s') D'.bk (kb s')) → D'.rt = D.rt → RB G (slS s) (tb D') (wb s kn kb))
    (hd : ∀ s, RB G (slS s) D.nx (w s)) : RB G sl (tWhile tt tb D) (whP c wb s0 w) := rb_while slS s0 hp hl hc hb hd
theorem rb_seqC {X : Type} [Rp X] {te : TE} {i : Nat} {x : X} {m : PT X} {u : TS} {w : Prop} (h : RE G sl te m) (n : NotOwn sl i) (k : RB G (sl.set i (.dat x)) (u D) w) (im : ∀ Q : X → Prop, Q x → m Q := by exact fun _ h => h) : RB G sl (tSeq (tAsg te (gName i)) u D) w := rb_seq (rb_asg_v (D := { D with nx := u D }) h n k im)
end
def inB {X : Type} [Dt X] (x : X) (l : List X) : Bool := decide (x ∈ l)
theorem inB_iff {X : Type} [Dt X] {x : X} {l : List X} : inB x l = true ↔ x ∈ l := by unfold inB; exact decide_eq_true_iff
section
variable {G : Gx} {sl : List Sl} {K : PySem.W.Frag} {X : Type} [Dt X]
theorem re_inB {ta tb : TE} {m : PT X} {n : PT (List X)} (ha : RE G sl ta m) (hb : RV G sl tb n) (hd : Dt.dep (List X) < 64 := by decide) : RE G sl (tOp (rInD K) ta tb) (fun Q => m fun x => n fun l => Q (inB x l)) := re_inD ha hb hd
theorem re_ninB {ta tb : TE} {m : PT X} {n : PT (List X)} (ha : RE G sl ta m) (hb : RV G sl tb n) (hd : Dt.dep (List X) < 64 := by decide) : RE G sl (tOp (rNotInD K) ta tb) (fun Q => m fun x => n fun l => Q (!inB x l)) := re_ninD ha hb hd
end
/-! ### pure helpers -/
theorem sIx_pos {n d : Nat} {v : Int} (h : 0 ≤ v) : HT.sIx n d (some v) = min v.toNat n := by
  show (if v < 0 then (v + (n : Int)).toNat else min v.toNat n) = _
  rw [if_neg (by omega)]
theorem cut_lo {α : Type} (xs : List α) (i : Int) (h0 : 0 ≤ i) : cutL xs none (some i) = xs.take i.toNat := by
  unfold cutL
  rw [sIx_pos h0]
  show (xs.drop 0).take (min i.toNat xs.length - 0) = _
  rw [List.drop_zero, Nat.sub_zero]
  by_cases h : i.toNat ≤ xs.length
  · rw [Nat.min_eq_left h]
  · rw [Nat.min_eq_right (by omega), List.take_length, List.take_of_length_le (by omega)]
theorem cut_hi {α : Type} (xs : List α) (i : Int) (h0 : 0 ≤ i) : cutL xs (some i) none = xs.drop i.toNat := by
  unfold cutL
  rw [sIx_pos h0]
  show (xs.drop (min i.toNat xs.length)).take (xs.length - min i.toNat xs.length) = _
  rw [List.take_of_length_le (by rw [List.length_drop]; omega)]
  by_cases h : i.toNat ≤ xs.length
  · rw [Nat.min_eq_left h]
  · rw [Nat.min_eq_right (by omega), List.drop_length, List.drop_eq_nil_of_le (by omega)]
theorem pAt_last {X : Type} {xs : List X} {y : X} {Q : X → Prop} (h : Q y) : ∃ x, atI (xs ++ [y]) (-1) = some x ∧ Q x := by
  refine ⟨y, ?_, h⟩
  unfold atI ixN
  rw [if_neg (by decide), List.length_append, List.length_singleton]
  rw [if_pos (by omega)]
  show (xs ++ [y])[_]? = _
  rw [show (-1 + ((xs.length + 1 : Nat) : Int)).toNat = xs.length by omega]
  simp
theorem pAt_some {X : Type} {xs : List X} {i : Int} {x : X} {Q : X → Prop} (h0 : 0 ≤ i) (h1 : xs[i.toNat]? = some x) (h : Q x) : pAt xs i Q := by
  have hi : i.toNat < xs.length := (List.getElem?_eq_some_iff.mp h1).1
  exact pAt_of h0 (by omega) fun y hy => by rw [h1] at hy; cases hy; exact h
theorem set_parts {l : List Int} {i : Nat} {v : Int} (h : i < l.length) : l.take i ++ [v] ++ l.drop (i + 1) = l.set i v := by
  rw [List.set_eq_take_append_cons_drop, if_pos h]; simp
/-! ### a thing taken as what it is -/
class EmbI (X : Type) [Rp X] [Emb X] : Prop where
  inv : ∀ {C : CA} {F : Rg} {H : Hp} {v : V} {x : X}, DvR C F H v (Emb.emb x) → Rp.rp C F H v x
theorem EmbI.list {X : Type} [Rp X] [Emb X] [EmbI X] {C : CA} {F : Rg} {H : Hp} : ∀ {vs : List V} {xs : List X}, DvL C F H vs (xs.map Emb.emb) → RpL C F H vs xs
  | [], [], _ => trivial
  | v :: vs, x :: xs, h => by
    simp only [List.map_cons, DvL] at h
    exact ⟨EmbI.inv h.1, EmbI.list h.2⟩
  | [], _ :: _, h => by simp [DvL] at h
  | _ :: _, [], h => by simp [DvL] at h
instance : EmbI Int := ⟨fun h => by simp only [Emb.emb, DvR] at h; exact h⟩
instance : EmbI Bool := ⟨fun h => by simp only [Emb.emb, DvR] at h; exact h⟩
instance : EmbI Str := ⟨fun h => by simp only [Emb.emb, DvR] at h; exact h⟩
instance : EmbI Dv := ⟨fun h => h⟩
section
variable {X Y : Type} [Rp X] [Rp Y] [Emb X] [Emb Y] [EmbI X] [EmbI Y]
instance : EmbI (X × Y) := ⟨fun {C F H v x} h => by
  have h : DvR C F H v (.tup [Emb.emb x.1, Emb.emb x.2]) := h
  simp only [DvR] at h
  obtain ⟨a, vs, e, f, ha, hl⟩ := h
  match vs, hl with
  | [u, w], hl =>
    simp only [DvL] at hl
    exact ⟨a, u, w, e, f, ha, EmbI.inv hl.1, EmbI.inv hl.2.1⟩
  | [], hl => simp [DvL] at hl
  | [_], hl => simp [DvL] at hl
  | _ :: _ :: _ :: _, hl => simp [DvL] at hl⟩
instance : EmbI (Tu X) := ⟨fun {C F H v x} h => by
  have h : DvR C F H v (.tup (x.l.map Emb.emb)) := h
  simp only [DvR] at h
  obtain ⟨a, vs, e, f, ha, hl⟩ := h
  exact ⟨a, vs, e, f, ha, EmbI.list hl⟩⟩
theorem re_cast {G : Gx} {sl : List Sl} {te : TE} {m : PT Dv} (h : RE G sl te m) : RE G sl te (fun Q => m fun d => ∃ x : X, d = Emb.emb x ∧ Q x) := fun σ A F H Qp Q E hm k =>
  h σ A F H _ Q E hm fun x v F1 H1 ⟨l, e, q1⟩ g1 E1 r1 => by
    subst e
    exact k _ v F1 H1 q1 g1 E1 (EmbI.inv r1)
theorem rt_tu2n {G : Gx} {sl : List Sl} {vs : List Nat} {K : PySem.W.Frag} {i j : Nat} {p : Tu X} (n1 : NotOwn sl i) (n2 : ∀ x : X, NotOwn (sl.set i (.dat x)) j) (hi : i ∈ vs) (hj : j ∈ vs) :
    RT G sl vs (gTup K 2 (gCons (gName i) (gCons (gName j) gNil))) p (fun b : X × X => (sl.set i (.dat b.1)).set j (.dat b.2)) (fun Q => ∃ x y, p.l = [x, y] ∧ Q (x, y)) := fun σ A F H v Qp Q E r hq k => by
  obtain ⟨x, y, e, hq⟩ := hq
  exact rt_tu2 (fun x => rt_name n1 hi) (fun x y _ => rt_name (n2 x) hj) σ A F H v (fun b => Qp (b.1, b.2.1)) Q E r ⟨x, y, e, hq⟩ fun b σ' q E' b1 w1 => k (b.1, b.2.1) σ' q E' b1 w1
theorem rb_asgT2 {G : Gx} {sl : List Sl} {D : Ends} {te : TE} {vs : List Nat} {g : TG} {m : PT (Tu X)} {sl' : X × X → List Sl} {w : X → X → Prop} (h : RE G sl te m) (ht : ∀ p : Tu X, RT G sl vs g p sl' (fun Q => ∃ x y, p.l = [x, y] ∧ Q (x, y))) (k : ∀ u v, RB G (sl' (u, v)) D.nx (w u v)) :
    RB G sl (tAsg te g D) (m fun p => ∃ u v, p.l = [u, v] ∧ w u v) := rb_asgT (n := fun p Q => ∃ x y, p.l = [x, y] ∧ Q (x, y)) (w := fun _ b => w b.1 b.2) h ht (fun _ b => k b.1 b.2)
end
/-! ### lists of one's own that are lent -/
class NoL (X : Type) [Rp X] : Prop where
  dr : ∀ {C : CA} {F F' : Rg} {H : Hp} {v : V} {x : X}, Rp.rp C F H v x → (∀ b, F b → F' b ∨ ∃ l, H b = some (.lst l)) → Rp.rp C F' H v x
theorem NoL.list {X : Type} [Rp X] [NoL X] {C : CA} {F F' : Rg} {H : Hp} : ∀ {vs : List V} {xs : List X}, RpL C F H vs xs → (∀ b, F b → F' b ∨ ∃ l, H b = some (.lst l)) → RpL C F' H vs xs
  | [], [], _, _ => trivial
  | _ :: _, _ :: _, h, d => ⟨NoL.dr h.1 d, NoL.list h.2 d⟩
  | [], _ :: _, h, _ => h.elim
  | _ :: _, [], h, _ => h.elim
instance : NoL Int := ⟨fun h _ => h⟩
instance : NoL Bool := ⟨fun h _ => h⟩
instance : NoL Str := ⟨fun h _ => h⟩
section
variable {X Y W : Type} [Rp X] [Rp Y] [Rp W] [NoL X] [NoL Y] [NoL W]
instance : NoL (X × Y) := ⟨fun {C F F' H v x} ⟨a, u, w, e, f, ha, h1, h2⟩ d => ⟨a, u, w, e, (d a f).elim id (fun ⟨l, z⟩ => by rw [ha] at z; cases z), ha, NoL.dr h1 d, NoL.dr h2 d⟩⟩
instance : NoL (Tu X) := ⟨fun {C F F' H v x} ⟨a, vs, e, f, ha, hl⟩ d => ⟨a, vs, e, (d a f).elim id (fun ⟨l, z⟩ => by rw [ha] at z; cases z), ha, NoL.list hl d⟩⟩
theorem ro_lend2 {G : Gx} {sl : List Sl} {wa : List Sl → PT (List W)} {i j : Nat} {xs : List X} {ys : List Y} {E0' : XK} (hi : sl[i]? = some (.own xs)) (hj : sl[j]? = some (.own ys)) :
    RO G sl (tCall (SpN G.C wa) [] E0' (tCons (tVar i) (tCons (tVar j) tNil))) (fun Q => wa [.dat xs, .dat ys] Q) := fun σ A F H Qp Q E hm k => by
  obtain ⟨v1, s1, a1, us1, rfl, e1, h1, l1⟩ := E.own hi
  obtain ⟨v2, s2, a2, us2, rfl, e2, h2, l2⟩ := E.own hj
  have g1 : Ge F H (fun b => F b ∨ b = a1 ∨ b = a2) H := fun b o f e => ⟨.inl f, e⟩
  have n1 : ¬ F a1 := (E.fr i a1 (by rw [e1]; simp)).1
  have n2 : ¬ F a2 := (E.fr j a2 (by rw [e2]; simp)).1
  refine ⟨.ref a1, s1, .ref a2, s2, [.dat xs, .dat ys], (fun b => F b ∨ b = a1 ∨ b = a2), Qp, ?_, fun b f => ?_, hm, fun r v F2 H2 as q2 p2 o2 f2 => ?_⟩
  · exact ⟨⟨a1, us1, rfl, .inr (.inl rfl), h1, RpL.mono g1 l1⟩, ⟨a2, us2, rfl, .inr (.inr rfl), h2, RpL.mono g1 l2⟩, rfl⟩
  · rcases f with f | rfl | rfl
    · exact E.ok.al b f
    · rw [h1]; exact fun z => by cases z
    · rw [h2]; exact fun z => by cases z
  · have k1 : H2 a1 = some (.lst us1) := p2.keep a1 _ (fun z => z) h1
    have k2 : H2 a2 = some (.lst us2) := p2.keep a2 _ (fun z => z) h2
    have nw : New F H (fun b => F2 b ∧ b ≠ a1 ∧ b ≠ a2) H2 := by
      refine ⟨fun b o e => p2.keep b o (fun z => z) e, fun b f => ⟨p2.sub b (.inl f), fun z => n1 (z ▸ f), fun z => n2 (z ▸ f)⟩, fun b f => ?_, fun b f => .inr (p2.al b f.1)⟩
      rcases p2.new b f.1 with z | z | z
      · rcases z with z | z | z
        · exact .inl z
        · exact absurd z f.2.1
        · exact absurd z f.2.2
      · exact .inr z
      · exact z.elim
    obtain ⟨a, vs, ea, eb, ha, hl⟩ := o2
    refine k r v _ H2 as q2 nw.gk (E.newk nw) ⟨a, vs, ea, eb, ha, NoL.list hl fun b f => ?_⟩ fun b hb => ⟨fun z => (f2 b hb).1 z.1, (f2 b hb).2⟩
    by_cases z1 : b = a1
    · exact .inr ⟨us1, by rw [z1]; exact k1⟩
    · by_cases z2 : b = a2
      · exact .inr ⟨us2, by rw [z2]; exact k2⟩
      · exact .inl ⟨f, z1, z2⟩
end
/-! ### another name for one of the lists of one's own -/
structure LLA (X : Type) where
  l : List (List X)
  bs : List Addr
structure AdV where
  a : Addr
instance : Rp AdV := ⟨fun _ _ _ v x => v = .ref x.a, fun _ h => h⟩
section
variable {X : Type} [Rp X]
instance : Ow (LLA X) := ⟨fun C F H as v x => ∃ a, v = .ref a ∧ as = a :: x.bs ∧ (a :: x.bs).Nodup ∧ H a = some (.lst (x.bs.map V.ref)) ∧ LLAt C F H x.bs x.l,
  fun g k ⟨a, e, f, nd, h, h1⟩ => ⟨a, e, f, nd, k a (by rw [f]; simp) _ h, LLAt.mono g (fun b hb => k b (by rw [f]; exact List.mem_cons_of_mem _ hb)) h1⟩,
  fun ⟨a, e, f, nd, h, h1⟩ b hb => by
    rw [f] at hb
    rcases List.mem_cons.mp hb with rfl | hb
    · rw [h]; exact fun z => by cases z
    · obtain ⟨vs, h2⟩ := h1.live b hb
      rw [h2]; exact fun z => by cases z⟩
theorem Env.resl {G : Gx} {sl : List Sl} {σ : St} {A : Nat → List Addr} {F : Rg} {H : Hp} {i : Nat} {s s' : Sl} (E : Env G sl σ A F H) (hi : sl[i]? = some s) (c : ∀ o, σ[i]? = some o → SlOk G.C F H s o (A i) → SlOk G.C F H s' o (A i)) (ho : s.isOwn = true → s'.isOwn = true) : Env G (sl.set i s') σ A F H := by
  have hil : i < sl.length := (List.getElem?_eq_some_iff.mp hi).1
  refine ⟨by rw [List.length_set]; exact E.len, fun j t ht => ?_, fun j hj => E.out j (by rwa [List.length_set] at hj), E.dj, E.fr, E.ok, fun p e => ?_⟩
  · by_cases hj : i = j
    · subst hj
      rw [List.getElem?_set_self hil] at ht
      cases ht
      obtain ⟨o, h1, h2⟩ := E.sls i s hi
      exact ⟨o, h1, c o h1 h2⟩
    · rw [List.getElem?_set_ne hj] at ht
      exact E.sls j t ht
  · obtain ⟨h1, h2, t, h3, h4⟩ := E.pn p e
    refine ⟨h1, h2, ?_⟩
    by_cases n : i = p.1
    · refine ⟨s', by rw [← n, List.getElem?_set_self hil], ho ?_⟩
      rw [← n, hi] at h3
      cases h3; exact h4
    · exact ⟨t, by rw [List.getElem?_set_ne n]; exact h3, h4⟩
theorem rb_alias {G : Gx} {sl : List Sl} {D : Ends} {K : PySem.W.Frag} {ti : TE} {i j : Nat} {l : LL X} {n : PT Int} {w : Nat → List X → Prop} (hi : sl[i]? = some (.own l)) (h : RE G sl ti n) (hn : NotOwn sl j) (hij : i ≠ j)
    (k : ∀ q x b bs, bs[q]? = some b → l.l[q]? = some x → RB G ((sl.set i (.own (LLA.mk l.l bs))).set j (.dat (AdV.mk b))) D.nx (w q x)) :
    RB G sl (tAsg (tOp (rIxL K) (tVar i) ti) (gName j) D) (n fun z => ∃ q x, ixN l.l.length z = some q ∧ l.l[q]? = some x ∧ w q x) := fun σ A F H E hm => by
  obtain ⟨a, bs, h1, h2, h3, h4, h5⟩ := E.ownLL hi
  refine ⟨_, h1, h σ A F H _ _ E hm fun z u F1 H1 q1 g1 E1 r1 => ?_⟩
  subst r1
  obtain ⟨a', bs', h1', h2', h3', h4', h5'⟩ := E1.ownLL hi
  rw [h1] at h1'
  cases h1'
  obtain ⟨q, x, ez, ex, hw⟩ := q1
  obtain ⟨b, x', vs, e1, e2, e3, e4⟩ := h5'.get (j := q) (ixN_lt ez)
  refine i_ixL h4' (v := .ref b) (by rw [atI_map (j := q) (by rw [h5'.length]; exact ez), e1]; rfl) ?_
  have hil : i < sl.length := (List.getElem?_eq_some_iff.mp hi).1
  have E2 : Env G (sl.set i (.own (LLA.mk l.l bs'))) σ A F1 H1 := E1.resl hi (fun o ho ⟨v, hv, hw⟩ => by
    have : v = .ref a := by
      rw [hv, h1] at ho
      cases ho; rfl
    subst this
    exact ⟨_, hv, a, rfl, h2', h3', h4', h5'⟩) (fun _ => rfl)
  have hn2 : NotOwn (sl.set i (.own (LLA.mk l.l bs'))) j := fun s hs => by
    rw [List.getElem?_set_ne hij] at hs
    exact hn s hs
  exact k q x b bs' e1 ex _ A F1 H1 (E2.put (s := .dat (AdV.mk b)) ⟨rfl, _, rfl, rfl⟩ hn2) hw
theorem rv_ali {G : Gx} {sl : List Sl} {i j : Nat} {l : List (List X)} {bs : List Addr} {q : Nat} {b : Addr} {x : List X} (hi : sl[i]? = some (.own (LLA.mk l bs))) (hj : sl[j]? = some (.dat (AdV.mk b))) (hb : bs[q]? = some b) (hx : l[q]? = some x) : RV G sl (tVar j) (fun Q => Q x) := fun σ A F H Qp Q E hm k => by
  obtain ⟨v, s, r⟩ := E.dat hj
  have r : v = .ref b := r
  subst r
  refine ⟨_, s, k x b F H hm Gk.refl E fun F2 H2 g E2 => ?_⟩
  obtain ⟨v, _, a, _, _, _, _, h5⟩ := E2.own hi
  obtain ⟨b', x', vs, e1, e2, e3, e4⟩ := LLAt.get (j := q) h5 (List.getElem?_eq_some_iff.mp hx).1
  have e1 : bs[q]? = some b' := e1
  have e2 : l[q]? = some x' := e2
  rw [hb] at e1; cases e1
  rw [hx] at e2; cases e2
  exact ⟨vs, e3, e4⟩
theorem rb_setAli {G : Gx} {sl : List Sl} {D : Ends} {te ti : TE} {i j : Nat} {l : List (List X)} {bs : List Addr} {q : Nat} {b : Addr} {x : List X} {m : PT X} {n : PT Int} {w : X → Nat → Prop} (hi : sl[i]? = some (.own (LLA.mk l bs))) (hj : sl[j]? = some (.dat (AdV.mk b))) (hb : bs[q]? = some b) (hx : l[q]? = some x)
    (h : RE G sl te m) (h' : RE G sl ti n) (k : ∀ y t, RB G ((sl.set i (.own (LL.mk (l.set q (x.set t y))))).set j .un) D.nx (w y t)) :
    RB G sl (tAsg te (gSub (tVar j) ti rSetL) D) (m fun y => n fun z => ∃ t, ixN x.length z = some t ∧ w y t) := fun σ A F H E hm =>
  h σ A F H _ _ E hm fun y u F1 H1 q1 g1 E1 r1 => by
    obtain ⟨v, s, r⟩ := E1.dat hj
    have r : v = .ref b := r
    subst r
    refine ⟨_, s, h' σ A F1 H1 _ _ E1 q1 fun z u2 F2 H2 q2 g2 E2 r2 => ?_⟩
    obtain ⟨t, e, hw⟩ := q2
    subst r2
    obtain ⟨v2, s2, a, rfl, h2, h3, h4, h5⟩ := E2.own hi
    have h2 : A i = a :: bs := h2
    have h5 : LLAt G.C F2 H2 bs l := h5
    obtain ⟨b', x', vs, e1, e2, e3, e4⟩ := LLAt.get (j := q) h5 (List.getElem?_eq_some_iff.mp hx).1
    rw [hb] at e1; cases e1
    rw [hx] at e2; cases e2
    have hij : i ≠ j := fun z => by subst z; rw [hi] at hj; cases hj
    have E3 : Env G (sl.set i (.own (LL.mk l))) σ A F2 H2 := E2.resl hi (fun o ho ⟨v, hv, hw⟩ => by
      have : v = .ref a := by
        rw [hv, s2] at ho
        cases ho; rfl
      subst this
      exact ⟨_, hv, a, bs, rfl, h2, h3, h4, h5⟩) (fun _ => rfl)
    have hil : i < sl.length := (List.getElem?_eq_some_iff.mp hi).1
    obtain ⟨E4, g4⟩ := own_turnLL (l := LL.mk l) (j := q) E3 (List.getElem?_set_self hil) s2 h2 h3 h4 h5 hb (RpL.set (Rp.mono g2.ge r1) t e4)
    rw [List.set_set] at E4
    have hj4 : (sl.set i (.own (LL.mk (l.set q (x.set t y)))))[j]? = some (.dat (AdV.mk b)) := by rw [List.getElem?_set_ne hij]; exact hj
    have E5 := E4.resl hj4 (s' := .un) (fun o ho hs => hs.1) (fun z => by cases z)
    exact ⟨b, vs, z, t, rfl, rfl, e3, by rw [e4.length]; exact e, k y t σ A F2 _ E5 hw⟩
end
/-- a, b = a pair -/
theorem rb_asgP {X Y : Type} [Rp X] [Rp Y] {G : Gx} {sl : List Sl} {D : Ends} {K : PySem.W.Frag} {te : TE} {i j : Nat} {m : PT (X × Y)} {w : X × Y → Prop} (h : RE G sl te m) (n1 : NotOwn sl i) (n2 : ∀ x : X, NotOwn (sl.set i (.dat x)) j) (k : ∀ p, RB G ((sl.set i (.dat p.1)).set j (.dat p.2)) D.nx (w p)) :
    RB G sl (tAsg te (gTup K 2 (gCons (gName i) (gCons (gName j) gNil))) D) (m w) :=
  rb_asgT (vs := [i, j]) (w := fun p _ => w p) h (fun p => rt_pair (rt_name n1 List.mem_cons_self) (fun _ => rt_name (n2 p.1) (List.mem_cons_of_mem _ List.mem_cons_self))) (fun p _ => k p)
theorem rb_seqAl {X : Type} [Rp X] {G : Gx} {sl : List Sl} {D : Ends} {K : PySem.W.Frag} {ti : TE} {i j : Nat} {l : LL X} {n : PT Int} {u : TS} {w : Nat → List X → Prop} (hi : sl[i]? = some (.own l)) (h : RE G sl ti n) (hn : NotOwn sl j) (hij : i ≠ j)
    (k : ∀ q x b bs, bs[q]? = some b → l.l[q]? = some x → RB G ((sl.set i (.own (LLA.mk l.l bs))).set j (.dat (AdV.mk b))) (u D) (w q x)) :
    RB G sl (tSeq (tAsg (tOp (rIxL K) (tVar i) ti) (gName j)) u D) (n fun z => ∃ q x, ixN l.l.length z = some q ∧ l.l[q]? = some x ∧ w q x) := rb_seq (rb_alias (D := { D with nx := u D }) hi h hn hij k)
end QV

namespace QV
open PySem L2 QW
/-- what follows a statement of a block -/
theorem rb_nx {G : Gx} {sl : List Sl} {D : Ends} {u : TS} {w : Prop} (h : RB G sl (u D) w) : RB G sl (Ends.nx { D with nx := u D }) w := h
/-! ### defs that call themselves -/
section
variable {P : Program} {w : World} {K : PySem.W.Frag} {mg : Str → Option Value} {base h : Heap} {k : Nat} {x : Str} {ps : List Str} {sp : Sp} {st : Stmt}
theorem _root_.QW.DefAt.okdR (D : DefAt K x st) (X : K.In h) (G : h.Ns mainGlobals mg) (hb : BindsBy x x st ps) (ok : ∀ f fd, Fun K x x st f fd → mg x = some (.ref f) → PySem.W.keepIn K (.ref f) = true → Binds K fd ps [] → FnOk P w K mg base CX0 k f fd ps sp) : Okd P w K mg base k x ps sp := by
  obtain ⟨f, oc, od, kV, doc, pm, an, cdv, ct, osl, a, l, c, kp⟩ := D
  have F := fun_mk (st := st) l c kp
  have hm := PySem.W.mg_of X G a
  exact ⟨⟨f, _, ok _ _ F hm kp (F.binds hb), hm, kp, F.binds hb⟩⟩
end
section
variable {G : Gx} {sl : List Sl} {D : Ends} {X : Type} [Rp X]
/-- a target of any form for what an owned thing gives -/
theorem rb_asgGT {te : TE} {vs : List Nat} {g : TG} {B B2 : Type} {sl' : B → List Sl} {val : B → X} {m : PT B} {sl2 : B → B2 → List Sl} {n : B → PT B2} {w : B → B2 → Prop} (h : REG G sl te sl' val m) (ht : ∀ b, RT G (sl' b) vs g (val b) (sl2 b) (n b)) (k : ∀ b c, RB G (sl2 b c) D.nx (w b c)) : RB G sl (tAsg te g D) (m fun b => n b (w b)) := fun σ A F H E hw =>
  h σ A F H _ _ E hw fun b v F1 H1 q1 g1 E1 r1 => ht b σ A F1 H1 v (w b) _ E1 r1 q1 fun c σ' q2 E2 _ _ => k b c σ' A F1 H1 E2 q2
end
/-! ### x in t, t a tuple of data -/
def rMemT (K : PySem.W.Frag) (neg : Bool) : R2 := fun x y H Q => ∃ e es, Dp K H x e ∧ Dp K H y (.tuple es) ∧ SeqAt.shaped e = true ∧ SeqAt.shaped (.tuple es) = true ∧ Q (.bl (if neg = true then !(es.any fun z => PyData.eqv z e) else es.any fun z => PyData.eqv z e)) H
theorem op_memT {X : Cx} (hu : X.A.units + 65 < cLine) : OpR X (compareOp .In) (rMemT X.K false) := fun pins s σ H x y v u Q I rx ry ⟨e, es, he, hes, se, ses, q⟩ => by
  obtain ⟨as1, w1⟩ := Dp.reads I e x v he rx
  obtain ⟨as2, w2⟩ := Dp.reads I (.tuple es) y u hes ry
  exact SeqAt.in_tuple_reads w2 w1 (SeqAt.canLay_of_shaped ses) (SeqAt.canLay_of_shaped se) (PyProof.Rows.room_in_shaped se hu) ⟨.bl _, H, I, rfl, q⟩
theorem op_nmemT {X : Cx} (hu : X.A.units + 65 < cLine) : OpR X (compareOp .NotIn) (rMemT X.K true) := fun pins s σ H x y v u Q I rx ry ⟨e, es, he, hes, se, ses, q⟩ => by
  obtain ⟨as1, w1⟩ := Dp.reads I e x v he rx
  obtain ⟨as2, w2⟩ := Dp.reads I (.tuple es) y u hes ry
  exact SeqAt.notIn_tuple_reads w2 w1 (SeqAt.canLay_of_shaped ses) (SeqAt.canLay_of_shaped se) (PyProof.Rows.room_in_shaped se hu) ⟨.bl _, H, I, rfl, q⟩
section
variable {G : Gx} {sl : List Sl} {K : PySem.W.Frag} {X : Type} [Dt X]
theorem mem_enc {x : X} : ∀ l : List X, ((l.map Dt.enc).any fun z => PyData.eqv z (Dt.enc x)) = inB x l
  | [] => by simp [inB]
  | y :: l => by
    rw [List.map_cons, List.any_cons, mem_enc l, Dt.eqv]
    unfold inB
    by_cases h : y = x
    · subst h; simp
    · have : ¬ x = y := fun e => h e.symm
      simp [h, this]
theorem re_memT {ta tb : TE} {m : PT X} {n : PT (Tu X)} (ha : RE G sl ta m) (hb : RE G sl tb n) (hd : Dt.dep (Tu X) < 64 := by decide) : RE G sl (tOp (rMemT K false) ta tb) (fun Q => m fun x => n fun l => Q (inB x l.l)) := fun σ A F H Qp Q E hm k =>
  ha σ A F H _ _ E hm fun x v F1 H1 q1 g1 E1 r1 => hb σ A F1 H1 _ _ E1 q1 fun l u F2 H2 q2 g2 E2 r2 =>
    ⟨_, _, Dt.dp (Rp.mono g2.ge r1), Dt.dp r2, sh_of (Nat.lt_of_succ_lt hd) (Rp.mono g2.ge r1), sh_of hd r2, k _ _ F2 H2 q2 (g1.trans g2) E2 (congrArg V.bl (mem_enc l.l))⟩
theorem re_nmemT {ta tb : TE} {m : PT X} {n : PT (Tu X)} (ha : RE G sl ta m) (hb : RE G sl tb n) (hd : Dt.dep (Tu X) < 64 := by decide) : RE G sl (tOp (rMemT K true) ta tb) (fun Q => m fun x => n fun l => Q (!inB x l.l)) := fun σ A F H Qp Q E hm k =>
  ha σ A F H _ _ E hm fun x v F1 H1 q1 g1 E1 r1 => hb σ A F1 H1 _ _ E1 q1 fun l u F2 H2 q2 g2 E2 r2 =>
    ⟨_, _, Dt.dp (Rp.mono g2.ge r1), Dt.dp r2, sh_of (Nat.lt_of_succ_lt hd) (Rp.mono g2.ge r1), sh_of hd r2, k _ _ F2 H2 q2 (g1.trans g2) E2 (congrArg V.bl (congrArg Bool.not (mem_enc l.l)))⟩
end
/-! ### a tally that is only looked at from now on -/
instance : Rp Tal := ⟨fun C F H v x => ∃ t dx a1 a2, v = .ref t ∧ F t ∧ F a1 ∧ F a2 ∧ H t = some (.ins C.Tally dx [("bottom", .int x.b), ("owing", .ref a1), ("awaiting", .ref a2)]) ∧ H a1 = some (.lst (x.o.map V.int)) ∧ H a2 = some (.lst (x.d.map V.int)),
  fun g ⟨t, dx, a1, a2, e, f0, f1, f2, h0, h1, h2⟩ => ⟨t, dx, a1, a2, e, (g _ _ f0 h0).1, (g _ _ f1 h1).1, (g _ _ f2 h2).1, (g _ _ f0 h0).2, (g _ _ f1 h1).2, (g _ _ f2 h2).2⟩⟩
theorem conv_Tal {C : CA} {x : Tal} : ∀ F H as v, Ow.ow C F H as v x → Rp.rp C (fun b => F b ∨ b ∈ as) H v x := fun F H as v ⟨t, dx, a1, a2, e, ea, n, h0, h1, h2⟩ =>
  ⟨t, dx, a1, a2, e, .inr (by rw [ea]; simp), .inr (by rw [ea]; simp), .inr (by rw [ea]; simp), h0, h1, h2⟩
section
variable {G : Gx} {sl : List Sl} {K : PySem.W.Frag} {D : Ends}
theorem rb_freezeTal {i : Nat} {x : Tal} {p : St → Hp → Prop} {w : Prop} (hi : sl[i]? = some (.own x)) (hp : ∀ q, G.pin = some q → q.1 ≠ i) (k : RB G (sl.set i (.dat x)) p w) : RB G sl p w := rb_freezeG conv_Tal hi hp k
theorem re_tO {te : TE} {m : PT Tal} (T : CTT K G.C) (h : RE G sl te m) : RE G sl (tFld K te "owing") (fun Q => m fun x => Q x.o) := fun σ A F H Qp Q E hm k =>
  h σ A F H _ _ E hm fun x v F1 H1 q1 g1 E1 ⟨t, dx, a1, a2, e, f0, f1, f2, h0, h1, h2⟩ => by
    subst e
    exact ⟨t, _, dx, _, _, rfl, h0, T.cl, T.nO, rfl, k _ _ _ _ q1 g1 E1 ⟨a1, _, rfl, f1, h1, RpL.of_ints _⟩⟩
theorem re_tA {te : TE} {m : PT Tal} (T : CTT K G.C) (h : RE G sl te m) : RE G sl (tFld K te "awaiting") (fun Q => m fun x => Q x.d) := fun σ A F H Qp Q E hm k =>
  h σ A F H _ _ E hm fun x v F1 H1 q1 g1 E1 ⟨t, dx, a1, a2, e, f0, f1, f2, h0, h1, h2⟩ => by
    subst e
    exact ⟨t, _, dx, _, _, rfl, h0, T.cl, T.nA, rfl, k _ _ _ _ q1 g1 E1 ⟨a2, _, rfl, f2, h2, RpL.of_ints _⟩⟩
theorem re_tB {te : TE} {m : PT Tal} (T : CTT K G.C) (h : RE G sl te m) : RE G sl (tFld K te "bottom") (fun Q => m fun x => Q x.b) := fun σ A F H Qp Q E hm k =>
  h σ A F H _ _ E hm fun x v F1 H1 q1 g1 E1 ⟨t, dx, a1, a2, e, f0, f1, f2, h0, h1, h2⟩ => by
    subst e
    exact ⟨t, _, dx, _, _, rfl, h0, T.cl, T.nB, rfl, k _ _ _ _ q1 g1 E1 rfl⟩
end
theorem re_isiV {G : Gx} {sl : List Sl} {K : PySem.W.Frag} {X : Type} [Rp X] {te : TE} {m : PT (List X)} {n : String} {b : Bool} (h : RV G sl te m) (hb : kitB "list" n = some b) : RE G sl (tCB (rIsi K) (tCons te (tCons (tC (.ty n)) tNil))) (fun Q => m fun _ => Q b) := fun σ A F H Qp Q E hm k =>
  h σ A F H _ _ E hm fun xs a F1 H1 q1 g1 E1 r1 => by
    obtain ⟨vs, ha, hl⟩ := r1 F1 H1 Ge.refl E1
    exact i_isiB (.base (.lst ha)) hb (k _ _ F1 H1 q1 g1 E1 rfl)
/-! ### a list of a tally of one's own, lent to a def that gives a new list -/
section
variable {G : Gx} {sl : List Sl} {K : PySem.W.Frag} {W X : Type} [Rp W] [NoL W] [Rp X]
theorem ro_lendF {wa : List Sl → PT (List W)} {i : Nat} {x : Tal} {f : Str} {ns : List Int} {E0' : XK} (T : CTT K G.C) (hi : sl[i]? = some (.own x)) (hf : (f = "owing" ∧ ns = x.o) ∨ (f = "awaiting" ∧ ns = x.d)) :
    RO G sl (tCall (SpN G.C wa) [] E0' (tCons (tFld K (tVar i) f) tNil)) (fun Q => wa [.dat ns] Q) := fun σ A F H Qp Q E hm k => by
  obtain ⟨t, dx, a1, a2, s1, ea, ne, h0, h1, h2⟩ := E.tal hi
  have key : ∀ a : Addr, a ∈ A i → H a = some (.lst (ns.map V.int)) → SpN G.C wa [.ref a] H Q E0' := fun a ha hl => by
    have n1 : ¬ F a := (E.fr i a ha).1
    have g1 : Ge F H (fun b => F b ∨ b = a) H := fun b o f e => ⟨.inl f, e⟩
    refine ⟨[.dat ns], (fun b => F b ∨ b = a), Qp, ⟨⟨a, _, rfl, .inr rfl, hl, RpL.of_ints _⟩, rfl⟩, fun b fb => ?_, hm, fun r v F2 H2 as q2 p2 o2 f2 => ?_⟩
    · rcases fb with fb | rfl
      · exact E.ok.al b fb
      · rw [hl]; exact fun z => by cases z
    · have k1 : H2 a = some (.lst (ns.map V.int)) := p2.keep a _ (fun z => z) hl
      have nw : New F H (fun b => F2 b ∧ b ≠ a) H2 := by
        refine ⟨fun b o e => p2.keep b o (fun z => z) e, fun b fb => ⟨p2.sub b (.inl fb), fun z => n1 (z ▸ fb)⟩, fun b fb => ?_, fun b fb => .inr (p2.al b fb.1)⟩
        rcases p2.new b fb.1 with z | z | z
        · rcases z with z | z
          · exact .inl z
          · exact absurd z fb.2
        · exact .inr z
        · exact z.elim
      obtain ⟨a', vs, e1, e2, h3, hl'⟩ := o2
      refine k r v _ H2 as q2 nw.gk (E.newk nw) ⟨a', vs, e1, e2, h3, NoL.list hl' fun b fb => ?_⟩ fun b hb => ⟨fun z => (f2 b hb).1 z.1, (f2 b hb).2⟩
      by_cases z1 : b = a
      · exact .inr ⟨_, by rw [z1]; exact k1⟩
      · exact .inl ⟨fb, z1⟩
  rcases hf with ⟨rfl, rfl⟩ | ⟨rfl, rfl⟩
  · exact ⟨_, s1, t, _, dx, _, _, rfl, h0, T.cl, T.nO, rfl, key a1 (by rw [ea]; simp) h1⟩
  · exact ⟨_, s1, t, _, dx, _, _, rfl, h0, T.cl, T.nA, rfl, key a2 (by rw [ea]; simp) h2⟩
/-! ### what turns within a longer expression -/
theorem reg_catD {ta te : TE} {B : Type} {sl' : B → List Sl} {val : B → List X} {m : PT (List X)} {n : PT B} (ha : RE G sl ta m) (hb : REG G sl te sl' val n) : REG G sl (tOp rCat ta te) (fun b : List X × B => sl' b.2) (fun b => b.1 ++ val b.2) (fun Q => m fun x => n fun b => Sz (x.length + (val b).length) ∧ Q (x, b)) := fun σ A F H Qp Q E hm k =>
  ha σ A F H _ _ E hm fun x v F1 H1 q1 g1 E1 r1 => hb σ A F1 H1 _ _ E1 q1 fun b w F2 H2 q2 g2 E2 r2 => by
    obtain ⟨p, vs, rfl, fp, hp, lp⟩ := Rp.mono g2.ge r1
    obtain ⟨q, ws, rfl, fq, hq, lq⟩ := id r2
    refine ⟨p, q, vs, ws, rfl, rfl, hp, hq, by rw [lp.length, lq.length]; exact q2.1.le, fun u hu => ?_⟩
    have nw := New.upd (F := F2) (o := .lst (vs ++ ws)) hu
    exact k (x, b) _ _ _ q2.2 ((g1.trans g2).trans nw.gk) (E2.newk nw) ⟨u, _, rfl, .inr rfl, upd_same, RpL.mono nw.ge (lp.append lq)⟩
theorem reg_tupL {te : TE} {B : Type} {sl' : B → List Sl} {val : B → List X} {n : PT B} (h : REG G sl te sl' val n) : REG G sl (tCB (cTup K) (tCons te tNil)) sl' (fun b => Tu.mk (val b)) n := fun σ A F H Qp Q E hm k =>
  h σ A F H _ _ E hm fun b v F1 H1 q1 g1 E1 r1 => by
    obtain ⟨a, vs, rfl, f, ha, hl⟩ := id r1
    exact ⟨a, vs, rfl, .inl ⟨SqL.of ha, tu_new hl fun v F2 H2 n2 r2 => k b v F2 H2 q1 (g1.trans n2.gk) (E1.newk n2) r2⟩⟩
theorem reg_some {te : TE} {B : Type} {sl' : B → List Sl} {val : B → X} {n : PT B} (h : REG G sl te sl' val n) : REG G sl te sl' (fun b => some (val b)) n := h
end
/-! ### bits, order of data -/
abbrev oShr : R2 := rI (fun _ j => 0 ≤ j) fun i j => .int (i / 2 ^ j.toNat)
abbrev oXor : R2 := rI0 fun i j => .int (Builtin.bitXor i j)
theorem o_shr {C : CA} : OP C oShr (fun (i j : Int) Q => 0 ≤ j ∧ Q (i / 2 ^ j.toNat)) := opIc (D := fun _ j => 0 ≤ j) fun _ _ _ _ => rfl
theorem o_xor {C : CA} : OP C oXor (fun (i j : Int) => pR (Builtin.bitXor i j)) := opI0 fun _ _ _ _ => rfl
def rLtA (K : PySem.W.Frag) : R2 := fun x y H Q => ∃ d e, Dp K H x d ∧ Dp K H y e ∧ PySem.W.alike d e = true ∧ d ≠ .none ∧ d.depth ≤ 8 ∧ Q (.bl (PySem.W.dataLt d e)) H
theorem op_ltA {X : Cx} (hu : X.A.units + 64 < cLine) : OpR X (compareOp .Lt) (rLtA X.K) := fun pins s σ H x y v u Q I rx ry ⟨d, e, hd, he, al, nn, dp, q⟩ => by
  obtain ⟨as1, w1⟩ := Dp.reads I d x v hd rx
  obtain ⟨as2, w2⟩ := Dp.reads I e y u he ry
  exact PySem.W.rcLt_alike d e X.A s v u as1 as2 w1 w2 al nn (by omega) X.prog X.w _ _ ⟨.bl _, H, I, rfl, q⟩
def ltV {X : Type} [So X] (x y : X) : Bool := PySem.W.dataLt (Dt.enc x) (Dt.enc y)
theorem leV_ltV {X : Type} [So X] (x y : X) : leV x y = !ltV y x := rfl
theorem So.nn {X : Type} [So X] (x : X) : Dt.enc x ≠ .none := fun z => by
  rcases So.srt [x] with h | h
  · obtain ⟨_, _, e⟩ := h (Dt.enc x) (by simp)
    rw [z] at e; cases e
  · exact (h (Dt.enc x) (by simp)).1 z
theorem o_ltA {C : CA} {K : PySem.W.Frag} {X : Type} [So X] : OP C (rLtA K) (fun (x y : X) => pR (ltV x y)) := fun F H v w x y Qp Q h1 h2 hq k =>
  ⟨_, _, Dt.dp h1, Dt.dp h2, Alk.alk x y, So.nn x, Nat.le_trans (Dt.sh h1).2 So.d8, k _ _ _ _ hq New.refl rfl⟩
end QV

namespace QV
open PySem L2 QW
/-! ### the subsets of some people -/
structure Sub where
  n : Int
  bs : List Int
  ss : List Int
  ms : List Int
deriving DecidableEq
instance : Rp Sub := ⟨fun C F H v x => ∃ t dx v2 v3 v4, v = .ref t ∧ F t ∧ H t = some (.ins C.Subsets dx [("owers", .int x.n), ("bits", v2), ("sums", v3), ("most", v4)]) ∧ Rp.rp C F H v2 x.bs ∧ Rp.rp C F H v3 x.ss ∧ Rp.rp C F H v4 x.ms,
  fun g ⟨t, dx, v2, v3, v4, e, f0, h0, h2, h3, h4⟩ => ⟨t, dx, v2, v3, v4, e, (g _ _ f0 h0).1, (g _ _ f0 h0).2, Rp.mono g h2, Rp.mono g h3, Rp.mono g h4⟩⟩
inductive SubI where
  | e
  | n (n : Int)
  | b (n : Int) (bs : List Int)
  | s (n : Int) (bs ss : List Int)
  | f (n : Int) (bs ss ms : List Int)
def SubIR (C : CA) (F : Rg) (H : Hp) (x : Addr) : SubI → Prop
  | .e => ∃ dx, H x = some (.ins C.Subsets dx [])
  | .n n => ∃ dx, H x = some (.ins C.Subsets dx [("owers", .int n)])
  | .b n bs => ∃ dx v2, H x = some (.ins C.Subsets dx [("owers", .int n), ("bits", v2)]) ∧ Rp.rp C F H v2 bs
  | .s n bs ss => ∃ dx v2 v3, H x = some (.ins C.Subsets dx [("owers", .int n), ("bits", v2), ("sums", v3)]) ∧ Rp.rp C F H v2 bs ∧ Rp.rp C F H v3 ss
  | .f n bs ss ms => ∃ dx v2 v3 v4, H x = some (.ins C.Subsets dx [("owers", .int n), ("bits", v2), ("sums", v3), ("most", v4)]) ∧ Rp.rp C F H v2 bs ∧ Rp.rp C F H v3 ss ∧ Rp.rp C F H v4 ms
instance : Ow SubI := ⟨fun C F H as v y => ∃ x, v = .ref x ∧ as = [x] ∧ SubIR C F H x y, fun {C F F' H H' as v y} g k ⟨x, e, ea, h⟩ => ⟨x, e, ea, by
  have kx := k x (by rw [ea]; simp)
  cases y with
  | e => obtain ⟨dx, h⟩ := h; exact ⟨dx, kx _ h⟩
  | n n => obtain ⟨dx, h⟩ := h; exact ⟨dx, kx _ h⟩
  | b n bs => obtain ⟨dx, v2, h, h2⟩ := h; exact ⟨dx, v2, kx _ h, Rp.mono g h2⟩
  | s n bs ss => obtain ⟨dx, v2, v3, h, h2, h3⟩ := h; exact ⟨dx, v2, v3, kx _ h, Rp.mono g h2, Rp.mono g h3⟩
  | f n bs ss ms => obtain ⟨dx, v2, v3, v4, h, h2, h3, h4⟩ := h; exact ⟨dx, v2, v3, v4, kx _ h, Rp.mono g h2, Rp.mono g h3, Rp.mono g h4⟩⟩, fun {C F H as v y} ⟨x, e, ea, h⟩ b hb => by
  rw [ea] at hb
  have hb : b = x := by simpa using hb
  subst hb
  cases y with
  | e => obtain ⟨dx, h⟩ := h; rw [h]; exact fun z => by cases z
  | n n => obtain ⟨dx, h⟩ := h; rw [h]; exact fun z => by cases z
  | b n bs => obtain ⟨dx, v2, h, h2⟩ := h; rw [h]; exact fun z => by cases z
  | s n bs ss => obtain ⟨dx, v2, v3, h, h2, h3⟩ := h; rw [h]; exact fun z => by cases z
  | f n bs ss ms => obtain ⟨dx, v2, v3, v4, h, h2, h3, h4⟩ := h; rw [h]; exact fun z => by cases z⟩
structure CTS (K : PySem.W.Frag) (C : CA) : Prop where
  cl : Cls K C.Subsets
  nO : NoAttr K C.Subsets "owers"
  nB : NoAttr K C.Subsets "bits"
  nS : NoAttr K C.Subsets "sums"
  nM : NoAttr K C.Subsets "most"
section
variable {G : Gx} {sl : List Sl} {K : PySem.W.Frag} {D : Ends}
theorem rb_subN {te : TE} {i : Nat} {m : PT Int} {w : Int → Prop} (T : CTS K G.C) (hi : sl[i]? = some (.own SubI.e)) (h : RE G sl te m) (k : ∀ x, RB G (sl.set i (.own (SubI.n x))) D.nx (w x)) : RB G sl (sFld K (tVar i) te "owers" D) (m w) := fun σ A F H E hw =>
  h σ A F H w _ E hw fun o v F1 H1 q1 g1 E1 r1 => by
    obtain ⟨u, h1, x, rfl, ea, dx, hx⟩ := E1.own hi
    have na : ¬ F1 x := (E1.fr i x (by rw [ea]; simp)).1
    have r1 : v = .int o := r1
    subst r1
    exact ⟨_, h1, x, _, dx, _, rfl, hx, T.cl, T.nO, by decide, k o σ A F1 _ (ins_turn E1 hi h1 (by rw [ea]; simp) ⟨x, rfl, ea, dx, upd_same⟩) q1⟩
theorem rb_subB {te : TE} {i : Nat} {n : Int} {m : PT (List Int)} {w : List Int → Prop} (T : CTS K G.C) (hi : sl[i]? = some (.own (SubI.n n))) (h : RE G sl te m) (k : ∀ x, RB G (sl.set i (.own (SubI.b n x))) D.nx (w x)) : RB G sl (sFld K (tVar i) te "bits" D) (m w) := fun σ A F H E hw =>
  h σ A F H w _ E hw fun o v F1 H1 q1 g1 E1 r1 => by
    obtain ⟨u, h1, x, rfl, ea, dx, hx⟩ := E1.own hi
    have na : ¬ F1 x := (E1.fr i x (by rw [ea]; simp)).1
    exact ⟨_, h1, x, _, dx, _, rfl, hx, T.cl, T.nB, by show 1 < 1000; decide, k o σ A F1 _ (ins_turn E1 hi h1 (by rw [ea]; simp) ⟨x, rfl, ea, dx, v, upd_same, Rp.mono (upd_ge na) r1⟩) q1⟩
theorem rb_subS {te : TE} {i : Nat} {n : Int} {bs : List Int} {m : PT (List Int)} {w : List Int → Prop} (T : CTS K G.C) (hi : sl[i]? = some (.own (SubI.b n bs))) (h : RE G sl te m) (k : ∀ x, RB G (sl.set i (.own (SubI.s n bs x))) D.nx (w x)) : RB G sl (sFld K (tVar i) te "sums" D) (m w) := fun σ A F H E hw =>
  h σ A F H w _ E hw fun o v F1 H1 q1 g1 E1 r1 => by
    obtain ⟨u, h1, x, rfl, ea, dx, v2, hx, h2⟩ := E1.own hi
    have na : ¬ F1 x := (E1.fr i x (by rw [ea]; simp)).1
    exact ⟨_, h1, x, _, dx, _, rfl, hx, T.cl, T.nS, by show 2 < 1000; decide, k o σ A F1 _ (ins_turn E1 hi h1 (by rw [ea]; simp) ⟨x, rfl, ea, dx, v2, v, upd_same, Rp.mono (upd_ge na) h2, Rp.mono (upd_ge na) r1⟩) q1⟩
theorem rb_subM {te : TE} {i : Nat} {n : Int} {bs ss : List Int} {m : PT (List Int)} {w : List Int → Prop} (T : CTS K G.C) (hi : sl[i]? = some (.own (SubI.s n bs ss))) (h : RE G sl te m) (k : ∀ x, RB G (sl.set i (.own (SubI.f n bs ss x))) D.nx (w x)) : RB G sl (sFld K (tVar i) te "most" D) (m w) := fun σ A F H E hw =>
  h σ A F H w _ E hw fun o v F1 H1 q1 g1 E1 r1 => by
    obtain ⟨u, h1, x, rfl, ea, dx, v2, v3, hx, h2, h3⟩ := E1.own hi
    have na : ¬ F1 x := (E1.fr i x (by rw [ea]; simp)).1
    exact ⟨_, h1, x, _, dx, _, rfl, hx, T.cl, T.nM, by show 3 < 1000; decide, k o σ A F1 _ (ins_turn E1 hi h1 (by rw [ea]; simp) ⟨x, rfl, ea, dx, v2, v3, v, upd_same, Rp.mono (upd_ge na) h2, Rp.mono (upd_ge na) h3, Rp.mono (upd_ge na) r1⟩) q1⟩
/-- fields of one's own subsets, while they are made -/
theorem re_sIB {i : Nat} {n : Int} {bs ss : List Int} (T : CTS K G.C) (hi : sl[i]? = some (.own (SubI.s n bs ss))) : RE G sl (tFld K (tVar i) "bits") (pR bs) := fun σ A F H Qp Q E hm k => by
  obtain ⟨u, h1, x, rfl, ea, dx, v2, v3, hx, h2, h3⟩ := E.own hi
  exact ⟨_, h1, x, _, dx, _, v2, rfl, hx, T.cl, T.nB, rfl, k _ _ _ _ hm Gk.refl E h2⟩
theorem re_sIS {i : Nat} {n : Int} {bs ss : List Int} (T : CTS K G.C) (hi : sl[i]? = some (.own (SubI.s n bs ss))) : RE G sl (tFld K (tVar i) "sums") (pR ss) := fun σ A F H Qp Q E hm k => by
  obtain ⟨u, h1, x, rfl, ea, dx, v2, v3, hx, h2, h3⟩ := E.own hi
  exact ⟨_, h1, x, _, dx, _, v3, rfl, hx, T.cl, T.nS, rfl, k _ _ _ _ hm Gk.refl E h3⟩
/-- fields of subsets that stand -/
theorem re_sN {te : TE} {m : PT Sub} (T : CTS K G.C) (h : RE G sl te m) : RE G sl (tFld K te "owers") (fun Q => m fun x => Q x.n) := fun σ A F H Qp Q E hm k =>
  h σ A F H _ _ E hm fun x v F1 H1 q1 g1 E1 ⟨t, dx, v2, v3, v4, e, f0, h0, h2, h3, h4⟩ => by
    subst e
    exact ⟨t, _, dx, _, _, rfl, h0, T.cl, T.nO, rfl, k _ _ _ _ q1 g1 E1 rfl⟩
theorem re_sB {te : TE} {m : PT Sub} (T : CTS K G.C) (h : RE G sl te m) : RE G sl (tFld K te "bits") (fun Q => m fun x => Q x.bs) := fun σ A F H Qp Q E hm k =>
  h σ A F H _ _ E hm fun x v F1 H1 q1 g1 E1 ⟨t, dx, v2, v3, v4, e, f0, h0, h2, h3, h4⟩ => by
    subst e
    exact ⟨t, _, dx, _, _, rfl, h0, T.cl, T.nB, rfl, k _ _ _ _ q1 g1 E1 h2⟩
theorem re_sS {te : TE} {m : PT Sub} (T : CTS K G.C) (h : RE G sl te m) : RE G sl (tFld K te "sums") (fun Q => m fun x => Q x.ss) := fun σ A F H Qp Q E hm k =>
  h σ A F H _ _ E hm fun x v F1 H1 q1 g1 E1 ⟨t, dx, v2, v3, v4, e, f0, h0, h2, h3, h4⟩ => by
    subst e
    exact ⟨t, _, dx, _, _, rfl, h0, T.cl, T.nS, rfl, k _ _ _ _ q1 g1 E1 h3⟩
theorem re_sM {te : TE} {m : PT Sub} (T : CTS K G.C) (h : RE G sl te m) : RE G sl (tFld K te "most") (fun Q => m fun x => Q x.ms) := fun σ A F H Qp Q E hm k =>
  h σ A F H _ _ E hm fun x v F1 H1 q1 g1 E1 ⟨t, dx, v2, v3, v4, e, f0, h0, h2, h3, h4⟩ => by
    subst e
    exact ⟨t, _, dx, _, _, rfl, h0, T.cl, T.nM, rfl, k _ _ _ _ q1 g1 E1 h4⟩
/-- Subsets(..) -/
theorem re_subsets {ta tb : TE} {m n : PT (List Int)} {wa : List Sl → (Unit → SubI → Prop) → Prop} {w : List Int → List Int → (SubI → Prop) → Prop} {E0' : XK} (hw : ∀ o d Q, w o d Q → wa [.own SubI.e, .dat (X := List Int) o, .dat (X := List Int) d] (fun _ y => Q y)) (ha : RE G sl ta m) (hb : RE G sl tb n) :
    RE G sl (tMake G.C.Subsets (SpO G.C 0 wa) [] E0' (tCons ta (tCons tb tNil))) (fun Q => m fun o => n fun d => w o d fun y => ∃ a b c e, y = SubI.f a b c e ∧ Q (Sub.mk a b c e)) := fun σ A F H Qp Q E hm k =>
  ha σ A F H _ _ E hm fun o vo F1 H1 q1 g1 E1 r1 => hb σ A F1 H1 _ _ E1 q1 fun d vd F2 H2 q2 g2 E2 r2 => by
    intro x dx nx nd ne
    have s1 : Same H2 (upd (upd H2 dx (.own x)) x (.ins G.C.Subsets dx [])) := fun b u hb => by rw [upd_ne (ne_of_none hb nx), upd_ne (ne_of_none hb nd)]; exact hb
    have n1 : New F2 H2 F2 _ := New.same' s1
    have E3 := E2.newk n1
    have g12 := g1.trans g2
    have nF : ¬ F2 x := fun f => E2.ok.al _ f nx
    refine ⟨[.own SubI.e, .dat (X := List Int) o, .dat (X := List Int) d], F2, [x], .ref x, _, ⟨[x], [], rfl, ⟨x, rfl, rfl, dx, upd_same⟩, Rp.mono (g2.ge.trans n1.ge) r1, Rp.mono n1.ge r2, rfl⟩, rfl, E3.ok.al, fun a ha => by
      have : a = x := by simpa using ha
      rw [this]; exact nF, hw o d _ q2, fun u y v F4 H4 ⟨a, b, c, e, ey, q4⟩ p4 nf o4 r4 => ⟨r4, ?_⟩⟩
    subst ey
    obtain ⟨x', ex, ea, dx', v2, v3, v4, h4, i2, i3, i4⟩ := o4
    cases ex
    have h0x : G.H0 x = none := E2.ok.live _ nx
    obtain ⟨E4, g4⟩ := E3.postW p4 (fun a ha => by
      have : a = x := by simpa using ha
      subst this
      exact ⟨h0x, nF, fun i hi => E2.live hi nx, nf _ ha⟩)
    obtain ⟨E5, g5⟩ := E4.freeze (a := x) (by rw [h4]; exact fun z => by cases z) h0x (fun i hi => E2.live hi nx)
    have hx0 : H x = none := g12.fr _ nx
    refine k (Sub.mk a b c e) (.ref x) (fun b => F4 b ∨ b = x) H4 q4 ⟨((g12.ge.trans n1.ge).trans g4).trans g5, fun b u hb e => ?_, fun b e => g12.fr b (s1.free (p4.live b e)), fun b f => ?_⟩ E5 ⟨x, dx', v2, v3, v4, rfl, .inr rfl, h4, Rp.mono g5 i2, Rp.mono g5 i3, Rp.mono g5 i4⟩
    · exact p4.keep b u (fun z => by
        have : b = x := by simpa using z
        rw [this, hx0] at e; cases e) (s1 _ _ (g12.kp b u hb e))
    · rcases f with f | rfl
      · rcases p4.new b f with f | f | f
        · exact g12.new b f
        · exact .inr (g12.fr b (s1.free f))
        · have : b = x := by simpa using f
          rw [this]; exact .inr hx0
      · exact .inr hx0
end
/-! ### a dict of one's own, whole numbers by whole numbers -/
structure Di where
  f : Int → Option Int
  n : Nat
def Di.one (k v : Int) : Di := ⟨fun j => if j = k then some v else none, 1⟩
def Di.nil : Di := ⟨fun _ => none, 0⟩
def Di.put (d : Di) (k v : Int) : Di := ⟨fun j => if j = k then some v else d.f j, d.n + 1⟩
instance : Ow Di := ⟨fun C F H as v y => ∃ x kvs, v = .ref x ∧ as = [x] ∧ H x = some (.dK kvs) ∧ kvs.length ≤ y.n ∧ ∀ k, valV kvs (.inl k) = (y.f k).map V.int,
  fun {C F F' H H' as v y} g k ⟨x, kvs, e, ea, h, hn, hv⟩ => ⟨x, kvs, e, ea, k x (by rw [ea]; simp) _ h, hn, hv⟩,
  fun {C F H as v y} ⟨x, kvs, e, ea, h, _⟩ b hb => by
    rw [ea] at hb
    have hb : b = x := by simpa using hb
    rw [hb, h]; exact fun z => by cases z⟩
section
variable {G : Gx} {sl : List Sl} {K : PySem.W.Frag} {D : Ends}
theorem re_diGet {i : Nat} {d : Di} {ti : TE} {n : PT Int} (hi : sl[i]? = some (.own d)) (h : RE G sl ti n) : RE G sl (tDGet (tVar i) ti) (fun Q => n fun j => ∃ v, d.f j = some v ∧ Q v) := fun σ A F H Qp Q E hm k => by
  obtain ⟨u, h1, _⟩ := E.own hi
  refine ⟨_, h1, h σ A F H _ _ E hm fun j v F1 H1 q1 g1 E1 r1 => ?_⟩
  obtain ⟨y, hy, q1⟩ := q1
  obtain ⟨u', h1', x, kvs, e, ea, hx, hn, hv⟩ := E1.own hi
  have r1 : v = .int j := r1
  subst r1
  rw [h1] at h1'
  have eu : u = u' := Option.some.inj (Option.some.inj h1')
  refine ⟨x, .int y, by rw [eu, e], ?_, k _ _ _ _ q1 g1 E1 rfl⟩
  have := DGet.k (k := .inl j) hx
  rw [hv, hy] at this; exact this
theorem re_diGet2 {i : Nat} {d : Di} {ti td : TE} {n m : PT Int} (hi : sl[i]? = some (.own d)) (h : RE G sl ti n) (hd : RE G sl td m) : RE G sl (tDGet2 (tVar i) ti td) (fun Q => n fun j => m fun y => Q ((d.f j).getD y)) := fun σ A F H Qp Q E hm k => by
  obtain ⟨u, h1, x0, kvs0, e0, ea0, hx0, _⟩ := E.own hi
  refine ⟨_, h1, x0, e0, .inl ⟨kvs0, .inl hx0⟩, h σ A F H _ _ E hm fun j v F1 H1 q1 g1 E1 r1 => hd σ A F1 H1 _ _ E1 q1 fun y w F2 H2 q2 g2 E2 r2 => ?_⟩
  obtain ⟨u', h1', x, kvs, e, ea, hx, hn, hv⟩ := E2.own hi
  have r1 : v = .int j := r1
  have r2 : w = .int y := r2
  subst r1 r2
  rw [h1] at h1'
  have eu : u = u' := Option.some.inj (Option.some.inj h1')
  have ex : x0 = x := by rw [eu, e] at e0; cases e0; rfl
  refine ⟨valV kvs (.inl j), by rw [ex]; exact DGet.k (k := .inl j) hx, ?_⟩
  refine k _ _ _ _ q2 (g1.trans g2) E2 ?_
  rw [hv]
  cases d.f j <;> rfl
theorem re_diIn {i : Nat} {d : Di} {ti : TE} {n : PT Int} (hi : sl[i]? = some (.own d)) (h : RE G sl ti n) : RE G sl (tDIn ti (tVar i)) (fun Q => n fun j => Q (d.f j).isSome) := fun σ A F H Qp Q E hm k =>
  h σ A F H _ _ E hm fun j v F1 H1 q1 g1 E1 r1 => by
    obtain ⟨u, h1, x, kvs, rfl, ea, hx, hn, hv⟩ := E1.own hi
    have r1 : v = .int j := r1
    subst r1
    refine ⟨_, h1, x, _, rfl, DGet.k (k := .inl j) hx, k _ _ _ _ q1 g1 E1 ?_⟩
    rw [hv]
    show V.bl _ = V.bl _
    cases d.f j <;> rfl
theorem re_diNotIn {i : Nat} {d : Di} {ti : TE} {n : PT Int} (hi : sl[i]? = some (.own d)) (h : RE G sl ti n) : RE G sl (tDNotIn ti (tVar i)) (fun Q => n fun j => Q (!(d.f j).isSome)) := fun σ A F H Qp Q E hm k =>
  h σ A F H _ _ E hm fun j v F1 H1 q1 g1 E1 r1 => by
    obtain ⟨u, h1, x, kvs, rfl, ea, hx, hn, hv⟩ := E1.own hi
    have r1 : v = .int j := r1
    subst r1
    refine ⟨_, h1, x, _, rfl, DGet.k (k := .inl j) hx, k _ _ _ _ q1 g1 E1 ?_⟩
    rw [hv]
    show V.bl _ = V.bl _
    cases d.f j <;> rfl
theorem rb_diPut {i : Nat} {d : Di} {ti tv : TE} {n m : PT Int} {w : Int → Int → Prop} (hi : sl[i]? = some (.own d)) (hv : RE G sl tv m) (h : RE G sl ti n) (k : ∀ j y, RB G (sl.set i (.own (d.put j y))) D.nx (w j y)) : RB G sl (sDPut (tVar i) ti tv D) (m fun y => n fun j => Sz d.n ∧ w j y) := fun σ A F H E hw =>
  hv σ A F H _ _ E hw fun y v F1 H1 q1 g1 E1 r1 => by
    obtain ⟨u, h1, _⟩ := E1.own hi
    refine ⟨_, h1, h σ A F1 H1 _ _ E1 q1 fun j z F2 H2 q2 g2 E2 r2 => ?_⟩
    obtain ⟨u', h1', x, kvs, e, ea, hx, hn, hv⟩ := E2.own hi
    have r1 : v = .int y := r1
    have r2 : z = .int j := r2
    subst r1 r2
    have h1s := h1
    rw [h1] at h1'
    have eu : u = u' := Option.some.inj (Option.some.inj h1')
    subst eu e
    have lt : kvs.length < sizeLine := Nat.lt_of_le_of_lt (Nat.le_trans hn q2.1) (by decide)
    refine ⟨x, _, rfl, DPut.k (k := .inl j) hx lt, k j y σ A F2 _ (ins_turn E2 hi h1s (by rw [ea]; simp) ⟨x, _, rfl, ea, upd_same, ?_, fun k => ?_⟩) q2.2⟩
    · have := length_putK kvs (.inl j) (V.int y)
      show _ ≤ d.n + 1
      omega
    · rw [valV_put, hv]
      show _ = (if k = j then some y else d.f k).map V.int
      by_cases e : k = j
      · subst e; simp
      · rw [if_neg (by intro z; exact e (Sum.inl.inj z)), if_neg e]
/-- {a: b} -/
theorem ro_di1 {a b : Int} : RO G sl (tDisp [(tC (.int a), tC (.int b))]) (pR (Di.one a b)) := fun σ A F H Qp Q E hm k => fun p hp => by
  refine ⟨upd_same, [(.inl a, .int b)], rfl, by show 1 ≤ 15; omega, ?_⟩
  rw [upd_upd]
  have nF : ¬ F p := fun f => E.ok.al _ f hp
  have n1 : New F H F (upd H p (.dK (mergeK [] [(.inl a, .int b)]))) := New.same' (same_upd hp)
  refine k (Di.one a b) _ F _ [p] hm n1.gk (E.newk n1) ⟨p, _, rfl, rfl, upd_same, by show 1 ≤ 1; omega, fun j => ?_⟩ fun c hc => ?_
  · show valV (putK ([] : List (Key × V)) (.inl a) (.int b)) (.inl j) = (if j = a then some b else none).map V.int
    rw [valV_put]
    by_cases e : j = a
    · subst e; simp
    · rw [if_neg (by intro z; exact e (Sum.inl.inj z)), if_neg e]; rfl
  · have : c = p := by simpa using hc
    rw [this]; exact ⟨nF, hp⟩
theorem ro_di0 : RO G sl tDNewK (pR Di.nil) := fun σ A F H Qp Q E hm k => fun p hp => by
  have nF : ¬ F p := fun f => E.ok.al _ f hp
  have n1 : New F H F (upd H p (.dK [])) := New.same' (same_upd hp)
  refine k Di.nil _ F _ [p] hm n1.gk (E.newk n1) ⟨p, _, rfl, rfl, upd_same, by show 0 ≤ 0; omega, fun j => rfl⟩ fun c hc => ?_
  have : c = p := by simpa using hc
  rw [this]; exact ⟨nF, hp⟩
/-- a method of subsets that stand is a call of its def with them ahead -/
theorem meth_ofS {σ : St} {A : Nat → List Addr} {F : Rg} {H : Hp} {i : Nat} {x : Sub} {m : Str} {sp : Sp} {t : TA} {E0' : XK} {Q : VK} (E : Env G sl σ A F H) (hi : sl[i]? = some (.dat x)) (hm : ∀ u v w z : V, ([("owers", u), ("bits", v), ("sums", w), ("most", z)] : List (Str × V)).lookup m = none)
    (h : tCall sp [] E0' (tCons (tVar i) t) σ H Q) : tMeth G.C.Subsets m sp [] E0' (tVar i) t σ H Q := by
  obtain ⟨v0, h1, t0, dx, v2, v3, v4, e, f0, h0, _⟩ := E.dat hi
  obtain ⟨v, e1, h⟩ := h
  rw [h1] at e1
  cases e1
  subst e
  exact ⟨_, h1, t0, dx, _, rfl, h0, hm _ _ _ _, h⟩
theorem re_methS {X : Type} [Rp X] {i : Nat} {x : Sub} {m : Str} {sp : Sp} {t : TA} {E0' : XK} {mm : PT X} (hi : sl[i]? = some (.dat x)) (h : RE G sl (tCall sp [] E0' (tCons (tVar i) t)) mm) (hm : ∀ u v w z : V, ([("owers", u), ("bits", v), ("sums", w), ("most", z)] : List (Str × V)).lookup m = none := by intros; rfl) : RE G sl (tMeth G.C.Subsets m sp [] E0' (tVar i) t) mm := fun σ A F H Qp Q E hq k =>
  meth_ofS E hi hm (h σ A F H Qp Q E hq k)
theorem ro_methS {X : Type} [Ow X] {i : Nat} {x : Sub} {m : Str} {sp : Sp} {t : TA} {E0' : XK} {mm : PT X} (hi : sl[i]? = some (.dat x)) (h : RO G sl (tCall sp [] E0' (tCons (tVar i) t)) mm) (hm : ∀ u v w z : V, ([("owers", u), ("bits", v), ("sums", w), ("most", z)] : List (Str × V)).lookup m = none := by intros; rfl) : RO G sl (tMeth G.C.Subsets m sp [] E0' (tVar i) t) mm := fun σ A F H Qp Q E hq k =>
  meth_ofS E hi hm (h σ A F H Qp Q E hq k)
theorem reg_clear {X : Type} [Rp X] {i : Nat} {l : List X} (hi : sl[i]? = some (.own l)) : REG G sl (tBM0 K "list" rClear (tVar i)) (fun _ : Unit => sl.set i (.own ([] : List X))) (fun _ => ()) (pR ()) := fun σ A F H Qp Q E hm k => by
  obtain ⟨a, vs, h1, h2, h3, h4⟩ := E.ownL hi
  obtain ⟨E2, g2⟩ := own_turn E hi h1 h2 h3 (by exact trivial : RpL G.C F H ([] : List V) ([] : List X))
  exact ⟨_, h1, .inl ⟨rfl, _, SqL.of h2⟩, a, vs, rfl, rfl, h2, k () _ _ _ hm g2 E2 rfl⟩
/-- truth of numbers, lists, tuples -/
def tTruv (K : PySem.W.Frag) (ta : TE) : TT := fun σ H Q => ta σ H fun x H1 => ∃ k, TruV K x H1 k ∧ Q k H1
theorem rc_truI {ta : TE} {m : PT Int} (h : RE G sl ta m) : RC G sl (tTruv K ta) (fun Q => m fun i => Q (!decide (i = 0))) := fun σ A F H Qp Q E hm k =>
  h σ A F H _ _ E hm fun x v F1 H1 q1 g1 E1 r1 => by
    have r1 : v = .int x := r1
    subst r1
    exact ⟨_, rfl, k _ F1 H1 q1 g1 E1⟩
theorem rc_truL {X : Type} [Rp X] {ta : TE} {m : PT (List X)} (h : RV G sl ta m) : RC G sl (tTruv K ta) (fun Q => m fun l => Q (!l.isEmpty)) := fun σ A F H Qp Q E hm k =>
  h σ A F H _ _ E hm fun xs a F1 H1 q1 g1 E1 r1 => by
    obtain ⟨vs, ha, hl⟩ := r1 F1 H1 Ge.refl E1
    have e : vs.isEmpty = xs.isEmpty := by
      have := hl.length
      cases vs <;> cases xs <;> simp_all
    exact ⟨!xs.isEmpty, .inl ⟨vs, SqL.of ha, by rw [e]⟩, k _ F1 H1 q1 g1 E1⟩
theorem rc_truT {X : Type} [Rp X] {ta : TE} {m : PT (Tu X)} (h : RE G sl ta m) : RC G sl (tTruv K ta) (fun Q => m fun l => Q (!l.l.isEmpty)) := fun σ A F H Qp Q E hm k =>
  h σ A F H _ _ E hm fun xs v F1 H1 q1 g1 E1 r1 => by
    obtain ⟨a, vs, rfl, fa, ha, hl⟩ := r1
    have e : vs.isEmpty = xs.l.isEmpty := by
      have := hl.length
      obtain ⟨l⟩ := xs
      cases vs <;> cases l <;> simp_all
    exact ⟨!xs.l.isEmpty, .inr (.inl ⟨vs, SqT.of ha, by rw [e]⟩), k _ F1 H1 q1 g1 E1⟩
end
end QV

namespace L2
open PySem PySem.Spec PyProof.Rows
/-! ### max(xs), xs a list of data -/
theorem maxD_ge : ∀ (xs seen : List PyData) (x : PyData), (∀ c ∈ seen, PySem.W.dataLt x c = false) → (PySem.W.dataLt x x = false) → ∀ c, c ∈ seen ∨ c = x ∨ c ∈ xs → PySem.W.dataLt (PySem.W.maxD x xs) c = false := by
  have T := PySem.W.sortLe_total (PyProof.Rows.listOrd PyProof.Rows.itemOrd) false PySem.W.keyToks
  have le : ∀ a b : PyData, PySem.W.sortLe (PyProof.Rows.listOrd PyProof.Rows.itemOrd) false PySem.W.keyToks a b = !PySem.W.dataLt b a := fun _ _ => rfl
  intro xs
  induction xs with
  | nil =>
    intro seen x hs hx c hc
    rcases hc with hc | rfl | hc
    · exact hs c hc
    · exact hx
    · cases hc
  | cons y xs ih =>
    intro seen x hs hx c hc
    have yy : PySem.W.dataLt y y = false := by
      have := T.total y y
      rw [le] at this
      simpa using this
    show PySem.W.dataLt (PySem.W.maxD (if PySem.W.dataLt x y then y else x) xs) c = false
    cases e : PySem.W.dataLt x y with
    | true =>
      rw [if_pos rfl]
      have xy : PySem.W.dataLt y x = false := by
        rcases T.total x y with h | h
        · rw [le] at h; simpa using h
        · rw [le, e] at h; exact absurd h (by decide)
      refine ih (x :: seen) y (fun d hd => ?_) yy c ?_
      · rcases List.mem_cons.mp hd with rfl | hd
        · exact xy
        · have h1 := T.trans d x y (by rw [le, hs d hd]; rfl) (by rw [le, xy]; rfl)
          rw [le] at h1; simpa using h1
      · rcases hc with hc | rfl | hc
        · exact .inl (List.mem_cons_of_mem _ hc)
        · exact .inl List.mem_cons_self
        · rcases List.mem_cons.mp hc with rfl | hc
          · exact .inr (.inl rfl)
          · exact .inr (.inr hc)
    | false =>
      rw [if_neg (by decide)]
      refine ih (y :: seen) x (fun d hd => ?_) hx c ?_
      · rcases List.mem_cons.mp hd with rfl | hd
        · exact e
        · exact hs d hd
      · rcases hc with hc | rfl | hc
        · exact .inl (List.mem_cons_of_mem _ hc)
        · exact .inr (.inl rfl)
        · rcases List.mem_cons.mp hc with rfl | hc
          · exact .inl List.mem_cons_self
          · exact .inr (.inr hc)
section
variable {prog : Program} {w : World} {A : Around} {E : Value → Shared → Prop} {s : Shared}
theorem max_pick {l : Addr} {vs : Array Value} {x : PyData} {xs : List PyData} {as : List Addr} {Q : Value → Shared → Prop} (hh : A.handled = none) (hl : s.heap.IsList l vs) (hr : ReadsAll s.heap vs.toList (x :: xs) as) (ha : PySem.W.AlikeAll (x :: xs)) (hu : A.units + 1 + PyData.depthAll (x :: xs) < cLine)
    (h : ∀ (i : Nat) v h' tk, vs[i]? = some v → (x :: xs).getD i .none = PySem.W.maxD x xs → (∀ b o, s.heap.get? b = some o → h'.get? b = some o) → Q v { s with heap := h', toks := tk }) :
    wpAny (model prog w) A (call (.builtin "max") [.ref l]) Q E s := by
  have hn : vs.size = xs.length + 1 := PySem.W.readsAll_len hr
  refine call_max_walkH (PySem.W.iter_listW (A := A.in1) hh hl fun s₂ e W st hfp hw hk => ?_)
  refine ⟨_, _, _, _, _, _, _, s.heap, _, rfl, W, st, hfp, by omega, hw, hk, PySem.W.cmpIn_gt (A := A.in1) hr ha (by show A.units + 1 + _ < _; exact hu), fun v s' hP m => ?_⟩
  obtain ⟨h', tk, rfl, hk'⟩ := PySem.W.moved_old e rfl m
  have e1 : vs.size - 1 = xs.length := by omega
  have e2 := (PySem.W.argBest_fold (fun a b => PySem.W.dataLt b a) PyData.none x xs xs.length (Nat.le_refl _)).2
  rw [List.take_length] at e2
  rw [e1] at hP
  exact h _ v h' tk hP e2 hk'
end
theorem reads_all {h : Heap} : ∀ {us : List Value} {bs : List (V × PyData)}, PySem.W.EachIs (fun u b => ∃ as, Reads h u b.2 as) us bs → ∃ as, ReadsAll h us (bs.map Prod.snd) as
  | [], [], .nil => ⟨_, .nil⟩
  | _ :: _, _ :: _, .cons ⟨a, r⟩ t => by
    obtain ⟨bs, e⟩ := reads_all t
    exact ⟨_, .cons r e⟩
theorem depthAll_le {n : Nat} : ∀ {xs : List PyData}, (∀ x ∈ xs, x.depth ≤ n) → PyData.depthAll xs ≤ n
  | [], _ => Nat.zero_le _
  | x :: xs, h => Nat.max_le.mpr ⟨h x List.mem_cons_self, depthAll_le fun y hy => h y (List.mem_cons_of_mem _ hy)⟩
def rMaxD (K : PySem.W.Frag) : List V → Hp → VK → Prop := fun vs H Q => ∃ (a : Addr) (bs : List (V × PyData)), vs = [V.ref a] ∧ SqL K H a (bs.map Prod.fst) ∧ (∀ b ∈ bs, Dp K H b.1 b.2) ∧ PySem.W.AlikeAll (bs.map Prod.snd) ∧ (∀ b ∈ bs, b.2.depth ≤ 8) ∧ bs ≠ [] ∧
  ∀ b ∈ bs, (∀ c ∈ bs, PySem.W.dataLt b.2 c.2 = false) → Q b.1 H
theorem cr_maxD {X : Cx} (hc : X.calm = true) (hu : X.A.units + 64 < cLine) : CallR X (.builtin "max") (rMaxD X.K) := by
  intro pins s σ H vs us Q I r h
  obtain ⟨a, bs, rfl, hs, hd, ha, hdep, hne, q⟩ := h
  obtain ⟨its, rv, hl, hz⟩ := I.list hs
  rw [Vals.ref1 r]
  cases bs with
  | nil => exact absurd rfl hne
  | cons b bs =>
    obtain ⟨as, hr⟩ := reads_all (each_reads I rv hd)
    have dl := depthAll_le (n := 8) (xs := ((b :: bs).map Prod.snd)) fun x hx => by
      obtain ⟨c, hc, rfl⟩ := List.mem_map.mp hx
      exact hdep c hc
    refine max_pick (x := b.2) (xs := bs.map Prod.snd) (I.ok.hd hc) hl.isList (by simpa using hr) ha (by rw [List.map_cons] at dl; omega) fun i v h' tk hv hm hk => ?_
    have hlen : its.length = bs.length + 1 := by
      have := rv.length
      rw [List.length_map, List.length_cons] at this; exact this.symm
    rw [List.getElem?_toArray] at hv
    have hi : i < (b :: bs).length := by
      have := (List.getElem?_eq_some_iff.mp hv).1
      rw [List.length_cons]; omega
    obtain ⟨u, hu1, hu2⟩ := Vals.get (x := ((b :: bs)[i]).1) rv (by rw [List.getElem?_map, List.getElem?_eq_getElem hi]; rfl)
    rw [hv] at hu1
    obtain rfl := Option.some.inj hu1
    have em : ((b :: bs)[i]).2 = PySem.W.maxD b.2 (bs.map Prod.snd) := by
      rw [← hm, ← List.map_cons (f := Prod.snd), List.getD_eq_getElem?_getD, List.getElem?_map, List.getElem?_eq_getElem hi]; rfl
    refine ⟨((b :: bs)[i]).1, H, I.kept hk, hu2, q _ (List.getElem_mem hi) fun c hc => ?_⟩
    rw [em]
    refine maxD_ge _ [] b.2 (fun _ h => by cases h) ?_ c.2 (.inr ?_)
    · have T := PySem.W.sortLe_total (PyProof.Rows.listOrd PyProof.Rows.itemOrd) false PySem.W.keyToks
      have := T.total b.2 b.2
      have le : PySem.W.sortLe (PyProof.Rows.listOrd PyProof.Rows.itemOrd) false PySem.W.keyToks b.2 b.2 = !PySem.W.dataLt b.2 b.2 := rfl
      rw [le] at this
      simpa using this
    · rcases List.mem_cons.mp hc with rfl | hc
      · exact .inl rfl
      · exact .inr (List.mem_map.mpr ⟨c, hc, rfl⟩)
end L2
namespace QV
open PySem L2 QW
section
variable {G : Gx} {sl : List Sl} {K : PySem.W.Frag} {C : CA} {X : Type} [So X]
@[reducible] def pMaxV (xs : List X) : PT X := fun Q => 0 < xs.length ∧ ∀ z, z ∈ xs → (∀ y ∈ xs, leV y z = true) → Q z
theorem re_maxV {te : TE} {m : PT (List X)} (h : RV G sl te m) : RE G sl (tCB (rMaxD K) (tCons te tNil)) (fun Q => m fun xs => pMaxV xs Q) := fun σ A F H Qp Q E hm k =>
  h σ A F H _ _ E hm fun xs a F1 H1 q1 g1 E1 r1 => by
    obtain ⟨vs, ha, hl⟩ := r1 F1 H1 Ge.refl E1
    obtain ⟨ps, rfl, rfl, h3⟩ := zip_ps hl
    have es : (ps.map fun p : V × X => (p.1, Dt.enc p.2)).map Prod.snd = (ps.map (·.2)).map Dt.enc := by rw [List.map_map, List.map_map]; rfl
    refine ⟨a, ps.map fun p => (p.1, Dt.enc p.2), rfl, SqL.of (by rw [ha, List.map_map]; rfl), fun b hb => ?_, ⟨fun x hx y hy => ?_, fun x hx => ?_⟩, fun b hb => ?_, ?_, fun b hb hm => ?_⟩
    · obtain ⟨p, hp, rfl⟩ := List.mem_map.mp hb
      exact Dt.dp (h3 p hp)
    · rw [es] at hx hy
      obtain ⟨x', hx', rfl⟩ := List.mem_map.mp hx
      obtain ⟨y', hy', rfl⟩ := List.mem_map.mp hy
      exact Alk.alk x' y'
    · rw [es] at hx
      obtain ⟨x', hx', rfl⟩ := List.mem_map.mp hx
      exact So.nn x'
    · obtain ⟨p, hp, rfl⟩ := List.mem_map.mp hb
      exact Nat.le_trans (Dt.sh (h3 p hp)).2 So.d8
    · intro z
      have := q1.1
      rw [List.map_eq_nil_iff.mp z] at this
      exact absurd this (Nat.lt_irrefl 0)
    · obtain ⟨p, hp, rfl⟩ := List.mem_map.mp hb
      refine k p.2 p.1 _ _ (q1.2 p.2 (List.mem_map.mpr ⟨p, hp, rfl⟩) fun y hy => ?_) g1 E1 (h3 p hp)
      obtain ⟨r, hr, rfl⟩ := List.mem_map.mp hy
      have := hm _ (List.mem_map.mpr ⟨r, hr, rfl⟩)
      show (!PySem.W.dataLt (Dt.enc p.2) (Dt.enc r.2)) = true
      have this : PySem.W.dataLt (Dt.enc p.2) (Dt.enc r.2) = false := this
      rw [this]; rfl
end
end QV
namespace QV
open PySem L2 QW
section
variable {G : Gx} {sl : List Sl} {K : PySem.W.Frag} {R : Type} [Rp R]
/-- f(C(..), ..): a new thing that is only looked at and forgotten -/
theorem re_callTR {W : Type} [Ow W] {wa : List Sl → PT R} {te : TE} {t : TA} {mw : PT W} {m : (List Sl → Prop) → Prop} {E0' : XK} (h0 : RO G sl te mw) (h : RA G sl none t m) :
    RE G sl (tCall (SpR G.C 0 (Y := W) wa) [] E0' (tCons te t)) (fun Q => mw fun y => m fun args => wa (.own y :: args) Q) := fun σ A F H Qp Q E hm k =>
  h0 σ A F H _ _ E hm fun y v F1 H1 as q1 g1 E1 o1 f1 => h σ A F1 H1 _ _ E1 q1 fun args vs F2 H2 q2 g2 E2 r2 _ => by
    have hA : ∀ a ∈ as, ∀ i, a ∉ A i := fun a ha i hi => E.live hi (f1 a ha).2
    have hal : ∀ a ∈ as, H1 a ≠ none := fun a ha => Ow.live o1 a ha
    have nF2 : ∀ a ∈ as, ¬ F2 a := fun a ha f => by
      rcases g2.new a f with f | f
      · exact (f1 a ha).1 f
      · exact hal a ha f
    have o2 : Ow.ow G.C F2 H2 as v y := Ow.mono g2.ge (fun a ha o e => g2.kp a o (hA a ha) e) o1
    refine ⟨.own y :: args, F2, as, v, _, y, by rw [List.append_nil]; exact ⟨as, [], by simp, o2, r2⟩, rfl, rfl, E2.ok.al, nF2, q2, fun r u F3 H3 q3 p3 nf o3 r3 => ?_⟩
    have hn : ∀ b, F3 b → F2 b ∨ H2 b = none := fun b f => (p3.new b f).imp id fun z => z.elim id fun z => absurd f (nf b z)
    have g3 : Ge F2 H2 F3 H3 := fun b o f e => ⟨p3.sub b f, p3.keep b o (fun hb => nF2 b hb f) e⟩
    have h0' : ∀ a ∈ as, G.H0 a = none := fun a ha => E.ok.live a (f1 a ha).2
    have g12 := g1.trans g2
    have gk : Gk A F H F3 H3 := ⟨g12.ge.trans g3, fun b o hb e => p3.keep b o (fun z => by rw [(f1 b z).2] at e; cases e) (g12.kp b o hb e), fun b e => g12.fr b (p3.live b e), fun b f => (hn b f).elim (g12.new b) fun e => .inr (g12.fr b e)⟩
    refine k r u F3 H3 q3 gk ⟨E2.len, fun i s hs => ?_, E2.out, E2.dj, fun i a ha => ⟨fun f => ?_, (E2.fr i a ha).2⟩, E2.ok.trans p3 (fun x hx => .inr (h0' x hx)), E2.pn⟩ r3
    · obtain ⟨o, h1, h2⟩ := E2.sls i s hs
      exact ⟨o, h1, h2.mono g3 fun a ha o e => p3.keep a o (fun z => hA a z i ha) e⟩
    · rcases hn a f with f | f
      · exact (E2.fr i a ha).1 f
      · exact E2.live ha f
theorem reg_extendG {X : Type} [Rp X] {te : TE} {i : Nat} {l : List X} {B : Type} {sl' : B → List Sl} {val : B → List X} {m : PT B} (h0 : ∃ l0 : List X, sl[i]? = some (.own l0)) (hi : ∀ b, (sl' b)[i]? = some (.own l)) (h : REG G sl te sl' val m) :
    REG G sl (tBM K "list" rExtend (tVar i) (tCons te tNil)) (fun b => (sl' b).set i (.own (l ++ val b))) (fun _ => ()) (fun Q => m fun b => Sz (l.length + (val b).length) ∧ Q b) := fun σ A F H Qp Q E hm k => by
  obtain ⟨l0, h0⟩ := h0
  obtain ⟨a, vs, h1, h2, h3, h4⟩ := E.ownL h0
  refine ⟨_, h1, .inl ⟨rfl, _, SqL.of h2⟩, h σ A F H _ _ E hm fun b u F1 H1 q1 g1 E1 r1 => ?_⟩
  obtain ⟨a', vs', h1', h2', h3', h4'⟩ := E1.ownL (hi b)
  rw [h1] at h1'
  cases h1'
  obtain ⟨c, ws, rfl, f, hb, hl⟩ := r1
  obtain ⟨E2, g2⟩ := own_turn E1 (hi b) h1 h2' h3' (RpL.append h4' hl : RpL G.C F1 H1 (vs' ++ ws) (l ++ val b))
  exact ⟨a, c, vs', ws, rfl, rfl, h2', hb, by rw [h4'.length, hl.length]; exact q1.1.le, k b _ _ _ q1.2 (g1.trans g2) E2 rfl⟩
end
end QV
namespace QV
open PySem L2 QW
section
variable {G : Gx} {sl : List Sl} {X : Type} [Rp X]
/-! and, or, if, told so that what follows stands once -/
theorem re_andJ {ta tb : TE} {m n : PT Bool} (ha : RE G sl ta m) (hb : RE G sl tb n) : RE G sl (tAndV ta tb) (pAnd m n) := re_and ha hb
theorem re_orJ {ta tb : TE} {m n : PT Bool} (ha : RE G sl ta m) (hb : RE G sl tb n) : RE G sl (tOrV ta tb) (pOr m n) := re_or ha hb
theorem rc_andJ {t u : TT} {m n : PT Bool} (ha : RC G sl t m) (hb : RC G sl u n) : RC G sl (tAnd t u) (pAnd m n) := rc_and ha hb
theorem rc_orJ {t u : TT} {m n : PT Bool} (ha : RC G sl t m) (hb : RC G sl u n) : RC G sl (tOr t u) (pOr m n) := rc_or ha hb
theorem re_ifJ {t : TT} {ta tb : TE} {c : PT Bool} {m n : PT X} (hc : RC G sl t c) (ha : RE G sl ta m) (hb : RE G sl tb n) : RE G sl (tIf t ta tb) (pIf c m n) := re_if hc ha hb
end
end QV
namespace QV
open PySem L2 QW
section
variable {G : Gx} {sl : List Sl}
theorem ro_lstRg2 {ta tb : TE} {m n : PT Int} (ha : RE G sl ta m) (hb : RE G sl tb n) : RO G sl (tLstRg (tRg2 ta tb)) (fun Q => m fun a => n fun b => RgOk a b ∧ Q (rngI a b)) := fun σ A F H Qp Q E hm k =>
  ha σ A F H _ _ E hm fun x v F1 H1 q1 g1 E1 r1 => hb σ A F1 H1 _ _ E1 q1 fun y w F2 H2 q2 g2 E2 r2 => by
    subst r1
    subst r2
    refine ⟨x, y, rfl, rfl, q2.1, ?_⟩
    rw [rgV_eq]
    exact ro_new E2 (g1.trans g2).fr (RpL.of_ints _) fun v F3 H3 as g3 E3 o3 f3 => k _ _ _ _ _ q2.2 ((g1.trans g2).trans g3) E3 o3 f3
theorem re_tupRg2 {ta tb : TE} {m n : PT Int} (ha : RE G sl ta m) (hb : RE G sl tb n) : RE G sl (tTupRg (tRg2 ta tb)) (fun Q => m fun a => n fun b => RgOk a b ∧ Q (Tu.mk (rngI a b))) := fun σ A F H Qp Q E hm k =>
  ha σ A F H _ _ E hm fun x v F1 H1 q1 g1 E1 r1 => hb σ A F1 H1 _ _ E1 q1 fun y w F2 H2 q2 g2 E2 r2 => by
    subst r1
    subst r2
    refine ⟨x, y, rfl, rfl, q2.1, ?_⟩
    rw [rgV_eq]
    exact tu_new (RpL.of_ints _) fun v F3 H3 n3 r3 => k _ _ _ _ q2.2 ((g1.trans g2).trans n3.gk) (E2.newk n3) r3
end
end QV
namespace QV
open PySem L2 QW
/-! ### four things of unlike kinds -/
structure T4 (X Y Z W : Type) where
  a : X
  b : Y
  c : Z
  d : W
section
variable {G : Gx} {sl : List Sl} {vs : List Nat} {K : PySem.W.Frag} {X Y Z W : Type} [Rp X] [Rp Y] [Rp Z] [Rp W]
instance : Rp (T4 X Y Z W) := ⟨fun C F H v x => ∃ a u w z t, v = .ref a ∧ F a ∧ H a = some (.tup [u, w, z, t]) ∧ Rp.rp C F H u x.a ∧ Rp.rp C F H w x.b ∧ Rp.rp C F H z x.c ∧ Rp.rp C F H t x.d, fun g ⟨a, u, w, z, t, e, f, h, h1, h2, h3, h4⟩ => ⟨a, u, w, z, t, e, (g _ _ f h).1, (g _ _ f h).2, Rp.mono g h1, Rp.mono g h2, Rp.mono g h3, Rp.mono g h4⟩⟩
theorem re_quad {ta tb tc td : TE} {m : PT X} {n : PT Y} {l : PT Z} {q : PT W} (ha : RE G sl ta m) (hb : RE G sl tb n) (hc : RE G sl tc l) (hd : RE G sl td q) : RE G sl (tTup (tCons ta (tCons tb (tCons tc (tCons td tNil))))) (fun Q => m fun a => n fun b => l fun c => q fun d => Q (T4.mk a b c d)) := fun σ A F H Qp Q E hm k =>
  ha σ A F H _ _ E hm fun x v F1 H1 q1 g1 E1 r1 => hb σ A F1 H1 _ _ E1 q1 fun y w F2 H2 q2 g2 E2 r2 => hc σ A F2 H2 _ _ E2 q2 fun z u F3 H3 q3 g3 E3 r3 => hd σ A F3 H3 _ _ E3 q3 fun s t F4 H4 q4 g4 E4 r4 => ⟨by show 4 ≤ sizeLine; decide, fun p hp =>
    k _ _ _ _ q4 ((((g1.trans g2).trans g3).trans g4).trans (New.upd hp).gk) (E4.newk (New.upd hp)) ⟨p, v, w, u, t, rfl, .inr rfl, upd_same, Rp.mono (((g2.trans g3).trans g4).ge.trans (New.upd hp).ge) r1, Rp.mono ((g3.trans g4).ge.trans (New.upd hp).ge) r2, Rp.mono (g4.ge.trans (New.upd hp).ge) r3, Rp.mono (New.upd hp).ge r4⟩⟩
theorem rt_t4 {g1 g2 g3 g4 : TG} {p : T4 X Y Z W} {B C D I : Type} {s1 : B → List Sl} {n1 : PT B} {s2 : B → C → List Sl} {n2 : B → PT C} {s3 : B → C → D → List Sl} {n3 : B → C → PT D} {s4 : B → C → D → I → List Sl} {n4 : B → C → D → PT I} (h1 : RT G sl vs g1 p.a s1 n1) (h2 : ∀ b, RT G (s1 b) vs g2 p.b (s2 b) (n2 b)) (h3 : ∀ b c, RT G (s2 b c) vs g3 p.c (s3 b c) (n3 b c)) (h4 : ∀ b c d, RT G (s3 b c d) vs g4 p.d (s4 b c d) (n4 b c d)) :
    RT G sl vs (gTup K 4 (gCons g1 (gCons g2 (gCons g3 (gCons g4 gNil))))) p (fun b : B × C × D × I => s4 b.1 b.2.1 b.2.2.1 b.2.2.2) (fun Q => n1 fun b => n2 b fun c => n3 b c fun d => n4 b c d fun i => Q (b, c, d, i)) := fun σ A F H v Qp Q E r hq k => by
  obtain ⟨a, u, w, z, t, rfl, f, ha, r1, r2, r3, r4⟩ := r
  refine ⟨a, [u, w, z, t], rfl, SqT.of ha, rfl, u, [w, z, t], rfl, ?_⟩
  refine h1 σ A F H u _ _ E r1 hq fun b σ1 q1 E1 b1 w1 => ⟨w, [z, t], rfl, ?_⟩
  refine h2 b σ1 A F H w _ _ E1 r2 q1 fun c σ2 q2 E2 b2 w2 => ⟨z, [t], rfl, ?_⟩
  refine h3 b c σ2 A F H z _ _ E2 r3 q2 fun d σ3 q3 E3 b3 w3 => ⟨t, [], rfl, ?_⟩
  exact h4 b c d σ3 A F H t _ _ E3 r4 q3 fun i σ4 q4 E4 b4 w4 => ⟨rfl, k (b, c, d, i) σ4 q4 E4 (fun F' H' g E5 => b1 F' H' g (b2 F' H' g (b3 F' H' g (b4 F' H' g E5)))) (((w4.trans w3).trans w2).trans w1)⟩
end
end QV

namespace QV
open PySem PySem.Spec PyProof.Rows L2 QW
/-! ### dicts of one's own whose keys are pairs of tuples of whole numbers -/
abbrev DK := Tu Int × Tu Int
def nk (k : DK) : NestedKey := .tup [.tup (k.1.l.map .num), .tup (k.2.l.map .num)]
theorem nums_inj : ∀ {a b : List Int}, a.map NestedKey.num = b.map NestedKey.num → a = b
  | [], [], _ => rfl
  | [], _ :: _, h => by cases h
  | _ :: _, [], h => by cases h
  | x :: a, y :: b, h => by
    simp only [List.map_cons, List.cons.injEq, NestedKey.num.injEq] at h
    rw [h.1, nums_inj h.2]
theorem nk_inj {a b : DK} (h : nk a = nk b) : a = b := by
  obtain ⟨⟨a1⟩, ⟨a2⟩⟩ := a
  obtain ⟨⟨b1⟩, ⟨b2⟩⟩ := b
  unfold nk at h
  simp only [NestedKey.tup.injEq, List.cons.injEq, and_true] at h
  rw [nums_inj h.1, nums_inj h.2]
theorem nums_hash {w : World} : ∀ (l : List Int), NestedKey.hashes w (l.map .num) = l.map hashInt
  | [] => rfl
  | x :: l => by
    show hashInt x :: NestedKey.hashes w (l.map .num) = _
    rw [nums_hash l]; rfl
theorem nk_hash {w : World} (k : DK) : (nk k).hash w = reduceHash (Builtin.Tuple.tupleHashOf [reduceHash (Builtin.Tuple.tupleHashOf (k.1.l.map hashInt)), reduceHash (Builtin.Tuple.tupleHashOf (k.2.l.map hashInt))]) := by
  unfold nk
  simp only [NestedKey.hash, NestedKey.hashes, nums_hash]
theorem nums_depth : ∀ (l : List Int), NestedKey.depthAll (l.map .num) = 0
  | [] => rfl
  | x :: l => by
    show max (NestedKey.depth (.num x)) (NestedKey.depthAll (l.map .num)) = 0
    rw [nums_depth l]; rfl
theorem nk_depth (k : DK) : (nk k).depth ≤ 8 := by
  unfold nk
  simp only [NestedKey.depth, NestedKey.depthAll, nums_depth]
  decide
section
variable {α : Type}
def atN (xs : List (DK × Addr × α)) (k : DK) : Option (Addr × α) := (xs.find? fun x => decide (x.1 = k)).map (·.2)
def stN (xs : List (DK × Addr × α)) (k : DK) (b : Addr) (v : α) : List (DK × Addr × α) := if (atN xs k).isSome then xs.map (fun x => if x.1 = k then (x.1, x.2.1, v) else x) else xs ++ [(k, b, v)]
theorem stN_len (xs : List (DK × Addr × α)) (k : DK) (b : Addr) (v : α) : (stN xs k b v).length ≤ xs.length + 1 := by
  unfold stN
  split
  · rw [List.length_map]; omega
  · rw [List.length_append]; exact Nat.le_refl _
theorem stN_mem {xs : List (DK × Addr × α)} {k : DK} {b : Addr} {v : α} {e : DK × Addr × α} (h : e ∈ stN xs k b v) : (∃ e' ∈ xs, e'.1 = e.1 ∧ e'.2.1 = e.2.1) ∨ (e.1 = k ∧ e.2.1 = b) := by
  unfold stN at h
  split at h
  · obtain ⟨e', h1, h2⟩ := List.mem_map.mp h
    refine .inl ⟨e', h1, ?_⟩
    split at h2 <;> rw [← h2] <;> exact ⟨rfl, rfl⟩
  · rcases List.mem_append.mp h with h | h
    · exact .inl ⟨e, h, rfl, rfl⟩
    · have : e = (k, b, v) := by simpa using h
      rw [this]; exact .inr ⟨rfl, rfl⟩
theorem stN_at (xs : List (DK × Addr × α)) (k : DK) (b : Addr) (v : α) (j : DK) : (atN (stN xs k b v) j).map (·.2) = if j = k then some v else (atN xs j).map (·.2) := by
  unfold stN
  split
  · rename_i c
    unfold atN at c ⊢
    by_cases e : j = k
    · subst e
      rw [if_pos rfl]
      induction xs with
      | nil => simp at c
      | cons x xs ih =>
        by_cases ex : x.1 = j
        · simp [ex]
        · have dx : decide (x.1 = j) = false := decide_eq_false ex
          simp only [List.find?_cons, dx] at c
          rw [List.map_cons, if_neg ex, List.find?_cons, dx]
          exact ih c
    · rw [if_neg e]
      clear c
      induction xs with
      | nil => rfl
      | cons x xs ih =>
        by_cases ex : x.1 = k
        · have n : ¬ k = j := fun z => e z.symm
          have n' : ¬ x.1 = j := fun z => n (ex ▸ z)
          simp only [List.map_cons, if_pos ex, List.find?_cons, n', decide_false]
          exact ih
        · simp only [List.map_cons, if_neg ex, List.find?_cons]
          cases decide (x.1 = j)
          · exact ih
          · rfl
  · rename_i c
    unfold atN at c ⊢
    rw [List.find?_append]
    by_cases e : j = k
    · subst e
      rw [if_pos rfl]
      cases h : xs.find? (fun x => decide (x.1 = j)) with
      | none => simp
      | some p => rw [h] at c; exact absurd rfl c
    · rw [if_neg e]
      have n : ¬ k = j := fun z => e z.symm
      cases h : xs.find? (fun x => decide (x.1 = j)) with
      | none => simp [n]
      | some p => simp
theorem stN_keys {xs : List (DK × Addr × α)} {k : DK} {b : Addr} {v : α} (h : (xs.map (·.1)).Nodup) : ((stN xs k b v).map (·.1)).Nodup := by
  unfold stN
  split
  · rw [List.map_map]
    have : ((fun x : DK × Addr × α => x.1) ∘ fun x => if x.1 = k then (x.1, x.2.1, v) else x) = (fun x => x.1) := by
      funext x
      show (if x.1 = k then (x.1, x.2.1, v) else x).1 = x.1
      split <;> rfl
    rw [this]; exact h
  · rename_i c
    rw [List.map_append, List.nodup_append]
    refine ⟨h, by simp, fun a ha b hb => ?_⟩
    have hb : b = k := by simpa using hb
    subst hb
    rintro rfl
    obtain ⟨e, he, rfl⟩ := List.mem_map.mp ha
    apply c
    unfold atN
    rw [Option.isSome_map, List.find?_isSome]
    exact ⟨e, he, by simp⟩
end
def gN (y : DK × Addr × Value) : NestedKey × Addr × Value := (nk y.1, y.2)
theorem atKey_gN (ys : List (DK × Addr × Value)) (k : DK) : atKey (ys.map gN) (nk k) = atN ys k := by
  induction ys with
  | nil => rfl
  | cons y ys ih =>
    unfold atKey atN at ih ⊢
    by_cases e : y.1 = k
    · have : nk y.1 = nk k := by rw [e]
      simp [gN, e]
    · have n : ¬ nk y.1 = nk k := fun z => e (nk_inj z)
      simp only [List.map_cons, List.find?_cons, gN, n, e, decide_false]
      exact ih
theorem storedH_gN (ys : List (DK × Addr × Value)) (k : DK) (b : Addr) (r : Value) : storedH (ys.map gN) (nk k) b r = (stN ys k b r).map gN := by
  unfold storedH stN
  rw [atKey_gN]
  split
  · rw [List.map_map, List.map_map]
    refine List.map_congr_left fun y _ => ?_
    show putAt (nk k) r (gN y) = gN (if y.1 = k then (y.1, y.2.1, r) else y)
    unfold putAt
    by_cases e : y.1 = k
    · rw [if_pos (show (gN y).1 = nk k by show nk y.1 = nk k; rw [e]), if_pos e]; rfl
    · rw [if_neg (show ¬ (gN y).1 = nk k from fun z : nk y.1 = nk k => e (nk_inj z)), if_neg e]
  · rw [List.map_append]; rfl
theorem entry_gN {P P' : Program} {w w' : World} (y : DK × Addr × Value) : entryOfKey (nestedKind P w) (gN y) = entryOfKey (nestedKind P' w') (gN y) := by
  show (⟨(nk y.1).hash w, .ref y.2.1, y.2.2⟩ : DictEntry) = ⟨(nk y.1).hash w', .ref y.2.1, y.2.2⟩
  rw [nk_hash, nk_hash]
abbrev PN : List (DK × Addr × V) → List (DK × Addr × Value) → Prop := Paired fun p q => p.1 = q.1 ∧ p.2.1 = q.2.1 ∧ RelV p.2.2 q.2.2
theorem PN.keys {xs : List (DK × Addr × V)} {ys : List (DK × Addr × Value)} (r : PN xs ys) : ys.map (·.1) = xs.map (·.1) := by
  unfold PN at r
  induction r with
  | nil => rfl
  | cons h _ ih => simp only [List.map_cons, ih, h.1]
theorem PN.at' {xs : List (DK × Addr × V)} {ys : List (DK × Addr × Value)} (r : PN xs ys) (k : DK) : match atN xs k with | none => atN ys k = none | some p => ∃ u, atN ys k = some (p.1, u) ∧ RelV p.2 u := by
  unfold PN at r
  induction r with
  | nil => exact rfl
  | @cons p q ps qs h _ ih =>
    unfold atN at ih ⊢
    by_cases e : p.1 = k
    · have e' : q.1 = k := by rw [← h.1]; exact e
      simp only [List.find?_cons, e, e', decide_true, Option.map_some]
      exact ⟨q.2.2, by rw [h.2.1], h.2.2⟩
    · have e' : ¬ q.1 = k := by rw [← h.1]; exact e
      simp only [List.find?_cons, e, e', decide_false]
      exact ih
theorem PN.some_eq {xs : List (DK × Addr × V)} {ys : List (DK × Addr × Value)} (r : PN xs ys) (k : DK) : (atN ys k).isSome = (atN xs k).isSome := by
  have h := r.at' k
  cases e : atN xs k with
  | none => rw [e] at h; have h : atN ys k = none := h; rw [h]; rfl
  | some p => rw [e] at h; obtain ⟨u, h, _⟩ := h; rw [h]; rfl
theorem PN.st {xs : List (DK × Addr × V)} {ys : List (DK × Addr × Value)} (r : PN xs ys) (k : DK) (b : Addr) {v : V} {u : Value} (h : RelV v u) : PN (stN xs k b v) (stN ys k b u) := by
  unfold stN
  rw [r.some_eq k]
  split
  · rename_i c; clear c
    unfold PN at r ⊢
    induction r with
    | nil => exact .nil
    | @cons p q ps qs h1 _ ih =>
      refine .cons ?_ ih
      by_cases e : p.1 = k
      · have e' : q.1 = k := by rw [← h1.1]; exact e
        dsimp only; rw [if_pos e, if_pos e']; exact ⟨h1.1, h1.2.1, h⟩
      · have e' : ¬ q.1 = k := by rw [← h1.1]; exact e
        dsimp only; rw [if_neg e, if_neg e']; exact h1
  · exact Paired.snoc r ⟨rfl, rfl, h⟩
def NdOk (h : Heap) (a : Addr) (xs : List (DK × Addr × V)) : Prop := xs.length ≤ sizeLine ∧ (a == sysModules) = false ∧ (xs.map (·.1)).Nodup ∧ ∃ ys : List (DK × Addr × Value), PN xs ys ∧
  ∃ o es ep, h.get? a = some o ∧ o.ExactDict ∧ o.data = .dict es ep ∧ ∀ (P : Program) (w : World), es.toList = (ys.map gN).map (entryOfKey (nestedKind P w))
def NdO (a : Addr) (xs : List (DK × Addr × V)) : HO := .ext fun h => NdOk h a xs
/-- at b stands the key k -/
def KIs (H : Hp) (b : Addr) (k : DK) : Prop := ∃ b1 b2, H b = some (.tup [.ref b1, .ref b2]) ∧ H b1 = some (.tup (k.1.l.map V.int)) ∧ H b2 = some (.tup (k.2.l.map V.int))
section
variable {P : Program} {w : World} {H : Hp} {h : Heap}
theorem nums_are : ∀ {l : List Int} {its : List Value}, Vals (l.map V.int) its → NestedAll h (l.map .num) its
  | [], _, .nil => .nil
  | x :: l, _, .cons ⟨t, e⟩ r => by subst e; exact .cons (.int x t) (nums_are r)
theorem num_tup {b : Addr} {l : List Int} (ok : HOk P w H h) (e : H b = some (.tup (l.map V.int))) : NestedIs h (.tup (l.map .num)) (.ref b) := by
  obtain ⟨_, its, r, o, h1, h2, n, h3⟩ := (show ObjOk P w H h b (.tup (l.map V.int)) from ok b _ e)
  exact .tup h1 h2 h3 (by simpa using nums_are r)
theorem KIs.is {b : Addr} {k : DK} (x : KIs H b k) (ok : HOk P w H h) : (nestedKind P w).is h (nk k) b := by
  obtain ⟨b1, b2, e, e1, e2⟩ := x
  obtain ⟨_, its, r, o, h1, h2, n, h3⟩ := (show ObjOk P w H h b _ from ok b _ e)
  refine ⟨.tup h1 h2 h3 ?_, nk_depth k⟩
  cases r with
  | cons r1 r =>
    cases r with
    | cons r2 r =>
      cases r with
      | nil =>
        cases (show _ = Value.ref b1 from r1)
        cases (show _ = Value.ref b2 from r2)
        exact .cons (num_tup ok e1) (.cons (num_tup ok e2) .nil)
theorem nd_of {a : Addr} {xs : List (DK × Addr × V)} (ok : HOk P w H h) (e : H a = some (NdO a xs)) (ks : ∀ x ∈ xs, KIs H x.2.1 x.1) : xs.length ≤ sizeLine ∧ (a == sysModules) = false ∧ (xs.map (·.1)).Nodup ∧ ∃ ys, PN xs ys ∧ h.DictOfH (nestedKind P w) a (ys.map gN) := by
  obtain ⟨⟨z, hd, nd, ys, r, o, es, ep, h1, h2, h3, h4⟩, _⟩ := (show ObjOk P w H h a (NdO a xs) from ok a _ e)
  refine ⟨z, hd, nd, ys, r, o, es, ep, h1, h2, h3, h4 P w, fun x hx => ?_, ?_⟩
  · obtain ⟨y, hy, rfl⟩ := List.mem_map.mp hx
    have all : ∀ {l : List (DK × Addr × V)} {m : List (DK × Addr × Value)}, PN l m → (∀ x ∈ l, KIs H x.2.1 x.1) → ∀ y ∈ m, KIs H y.2.1 y.1 := by
      intro l m q
      unfold PN at q
      induction q with
      | nil => intro _ x hx; exact nomatch hx
      | @cons p q ps qs hq t ih =>
        intro ks x hx
        rcases List.mem_cons.mp hx with e | hx
        · subst e
          rw [← hq.1, ← hq.2.1]; exact ks p List.mem_cons_self
        · exact ih (fun z hz => ks z (List.mem_cons_of_mem _ hz)) x hx
    exact (all r ks y hy).is ok
  · rw [List.map_map]
    have : ((fun x : NestedKey × Addr × Value => x.1) ∘ gN) = nk ∘ (fun y : DK × Addr × Value => y.1) := rfl
    rw [this, ← List.map_map, r.keys]
    exact List.Pairwise.map nk (fun a b hab e => hab (nk_inj e)) nd
theorem nd_new {H' : Hp} {a : Addr} {xs : List (DK × Addr × V)} (x : NdOk h a xs) : ObjOk P w H' h a (NdO a xs) := by
  obtain ⟨z, hd, nd, ys, r, o, es, ep, h1, h2, h3, h4⟩ := id x
  exact ⟨x, ⟨o, h1⟩, fun g1 g2 ⟨z, hd, nd, ys, r, o, es, ep, h1, h2, h3, h4⟩ k => ⟨z, hd, nd, ys, r, o, es, ep, k _ h1, h2, h3, h4⟩⟩
end
/-- what the dict at a holds at the key at b -/
def NGet (H : Hp) (a : Addr) (y : V) (r : Option V) : Prop := ∃ xs b k, H a = some (NdO a xs) ∧ y = .ref b ∧ KIs H b k ∧ (∀ x ∈ xs, KIs H x.2.1 x.1) ∧ r = (atN xs k).map (·.2)
def NPut (H : Hp) (a : Addr) (y v : V) (H' : Hp) : Prop := ∃ xs b k, H a = some (NdO a xs) ∧ y = .ref b ∧ KIs H b k ∧ (∀ x ∈ xs, KIs H x.2.1 x.1) ∧ xs.length < sizeLine ∧ H' = upd H a (NdO a (stN xs k b v))
section
variable {X : Cx} {pins : List (Addr × Obj)} {σ : L2.St} {H : Hp} {s : Shared} {a : Addr} {y v : V} {u r : Value} {o : Option V} {A : Around} {E : Value → Shared → Prop}
theorem n_typeIs (I : Inv X pins σ H s) (g : NGet H a y o) : s.TypeIs (.ref a) "dict" := by
  obtain ⟨xs, b, k, e, _, _, ks, _⟩ := g
  obtain ⟨_, _, _, ys, _, dd⟩ := nd_of I.hok e ks
  exact dd.typeIs
theorem n_room (hu : A.units + 9 < cLine) {P : Program} {w : World} : (nestedKind P w).room A.in1 := by show A.units + 1 + 8 < cLine; omega
theorem n_getItem {Q : Value → Shared → Prop} (hu : A.units + 9 < cLine) (I : Inv X pins σ H s) (g : NGet H a y (some v)) (ry : RelV y u) (h : ∀ w' s', Inv X pins σ H s' → RelV v w' → Q w' s') :
    wpAny (model X.prog X.w) A (getItem (.ref a) u) Q E s := by
  obtain ⟨xs, b, k, e, rfl, kb, ks, l⟩ := g
  cases (show u = Value.ref b from ry)
  obtain ⟨z, hd, _, ys, rel, dd⟩ := nd_of I.hok e ks
  have q := rel.at' k
  cases hp : atN xs k with
  | none => rw [hp] at l; cases l
  | some p =>
    rw [hp] at l q
    obtain ⟨u', q1, q2⟩ := q
    have l : v = p.2 := Option.some.inj l
    subst l
    exact wpAny_getItem_heap (n_room hu) (kb.is I.hok) dd (by rw [atKey_gN]; exact q1) (h _ _ (I.tok _) q2)
theorem n_in {Q : Value → Shared → Prop} (hu : A.units + 9 < cLine) (I : Inv X pins σ H s) (g : NGet H a y o) (ry : RelV y u) (h : ∀ s', Inv X pins σ H s' → Q (.bool o.isSome) s') :
    wpAny (model X.prog X.w) A (compareOp .In u (.ref a)) Q E s := by
  obtain ⟨xs, b, k, e, rfl, kb, ks, l⟩ := g
  cases (show u = Value.ref b from ry)
  obtain ⟨z, hd, _, ys, rel, dd⟩ := nd_of I.hok e ks
  refine wpAny_in_heap (n_room hu) (kb.is I.hok) hd dd ?_
  have q := rel.some_eq k
  rw [atKey_gN, q]
  have : (atN xs k).isSome = o.isSome := by rw [l, Option.isSome_map]
  rw [this]
  exact h _ (I.tok _)
theorem n_notIn {Q : Value → Shared → Prop} (hu : A.units + 9 < cLine) (I : Inv X pins σ H s) (g : NGet H a y o) (ry : RelV y u) (h : ∀ s', Inv X pins σ H s' → Q (.bool (!o.isSome)) s') :
    wpAny (model X.prog X.w) A (compareOp .NotIn u (.ref a)) Q E s := by
  obtain ⟨xs, b, k, e, rfl, kb, ks, l⟩ := g
  cases (show u = Value.ref b from ry)
  obtain ⟨z, hd, _, ys, rel, dd⟩ := nd_of I.hok e ks
  refine wpAny_notIn_heap (n_room hu) (kb.is I.hok) hd dd ?_
  have q := rel.some_eq k
  rw [atKey_gN, q]
  have : (atN xs k).isSome = o.isSome := by rw [l, Option.isSome_map]
  rw [this]
  exact h _ (I.tok _)
theorem n_setItem {H' : Hp} {Q : Unit → Shared → Prop} (hu : A.units + 9 < cLine) (I : Inv X pins σ H s) (g : NPut H a y v H') (ry : RelV y u) (rv : RelV v r) (h : ∀ s', Inv X pins σ H' s' → Q () s') :
    wpAny (model X.prog X.w) A (setItem (.ref a) u r) Q E s := by
  obtain ⟨xs, b, k, e, rfl, kb, ks, l, rfl⟩ := g
  cases (show u = Value.ref b from ry)
  obtain ⟨z, hd, nd, ys, rel, dd⟩ := nd_of I.hok e ks
  have hz : (ys.map gN).length ≤ sizeLine := by rw [List.length_map, ← Paired.length rel]; exact z
  have hl : (stN xs k b v).length ≤ sizeLine := by have := stN_len xs k b v; omega
  refine wpAny_setItem_heap (hsz := hz) (n_room hu) (kb.is I.hok) dd fun h' dd' hs => h _ ?_
  obtain ⟨q, es, ep, hq, h2, h3, h4, _, h5⟩ := dd'
  refine d_write I (by rw [e]; exact True.intro) hs ⟨q, hq⟩ (nd_new ⟨hl, hd, stN_keys nd, stN ys k b r, rel.st k b rv, q, es, ep, hq, h2, h3, fun P w => ?_⟩)
  rw [h4, storedH_gN, List.map_map, List.map_map]
  exact List.map_congr_left fun y _ => entry_gN y
end
def tNGet (td ty : TE) : TE := fun σ H Q => td σ H fun x H1 => ty σ H1 fun y H2 => ∃ a v, x = .ref a ∧ NGet H2 a y (some v) ∧ Q v H2
def tNIn (ty td : TE) : TE := fun σ H Q => ty σ H fun y H1 => td σ H1 fun x H2 => ∃ a o, x = .ref a ∧ NGet H2 a y o ∧ Q (.bl o.isSome) H2
def tNNotIn (ty td : TE) : TE := fun σ H Q => ty σ H fun y H1 => td σ H1 fun x H2 => ∃ a o, x = .ref a ∧ NGet H2 a y o ∧ Q (.bl (!o.isSome)) H2
def sNPut (td ty tv : TE) : TS := fun D σ H => tv σ H fun v H1 => td σ H1 fun x H2 => ty σ H2 fun y H3 => ∃ a H4, x = .ref a ∧ NPut H3 a y v H4 ∧ D.nx σ H4
def tNNew : TE := fun _ H Q => ∀ p, H p = none → Q (.ref p) (upd H p (NdO p []))
section
variable {X : Cx} {o i e value : Expr} {pos pos' tpos : Pos} {td ty tv : TE}
theorem pe_nget (hu : X.A.units + 9 < cLine) (ho : PE X o td) (hi : PE X i ty) (hs : NoSl i) : PE X (.Subscript o i pos) (tNGet td ty) := by
  refine ⟨fun pins s σ H Q I h => ?_⟩
  refine subD_of PySem.F.slot_dict_getitem.lookup hs (thn (ho.run pins s σ H _ I h) fun u s1 ⟨x, H1, I1, rx, q1⟩ => thn (hi.run pins s1 σ H1 _ I1 q1) fun iv s2 ⟨y, H2, I2, ry, a, v, ex, g, q2⟩ => ?_)
  subst ex
  obtain rfl : u = Value.ref a := rx
  exact ⟨n_typeIs I2 g, n_getItem hu I2 g ry fun w' s3 I3 rw' => ⟨v, H2, I3, rw', q2⟩⟩
theorem pc_nin (hu : X.A.units + 9 < cLine) (hi : PE X i ty) (ho : PE X o td) : PC X .In i o (tNIn ty td) := by
  refine ⟨fun pins s σ H Q I h => ?_⟩
  refine thn (hi.run pins s σ H _ I h) fun iv s1 ⟨y, H1, I1, ry, q1⟩ => thn (ho.run pins s1 σ H1 _ I1 q1) fun u s2 ⟨x, H2, I2, rx, a, ov, ex, g, q2⟩ => ?_
  subst ex
  obtain rfl : u = Value.ref a := rx
  exact n_in hu I2 g ry fun s3 I3 => ⟨.bl ov.isSome, H2, I3, rfl, q2⟩
theorem pc_nnotin (hu : X.A.units + 9 < cLine) (hi : PE X i ty) (ho : PE X o td) : PC X .NotIn i o (tNNotIn ty td) := by
  refine ⟨fun pins s σ H Q I h => ?_⟩
  refine thn (hi.run pins s σ H _ I h) fun iv s1 ⟨y, H1, I1, ry, q1⟩ => thn (ho.run pins s1 σ H1 _ I1 q1) fun u s2 ⟨x, H2, I2, rx, a, ov, ex, g, q2⟩ => ?_
  subst ex
  obtain rfl : u = Value.ref a := rx
  exact n_notIn hu I2 g ry fun s3 I3 => ⟨.bl (!ov.isSome), H2, I3, rfl, q2⟩
theorem ps_nput (hu : X.A.units + 9 < cLine) (ho : PE X o td) (hi : PE X i ty) (hv : PE X value tv) (hs : swapsWith value (some (.Subscript o i pos')) pos.line X.env = pure false) :
    PS X (.Assign [.Subscript o i pos'] value pos) (sNPut td ty tv) := by
  refine ⟨fun pins s σ H D I h => ?_⟩
  refine wpAny_Assign_Subscript (thn (hv.run pins s σ H _ I h) fun r s1 ⟨v, H1, I1, rv, q1⟩ => thn (ho.run pins s1 σ H1 _ I1 q1) fun u s2 ⟨x, H2, I2, rx, q2⟩ => thn (hi.run pins s2 σ H2 _ I2 q2) fun iv s3 ⟨y, H3, I3, ry, a, H4, ex, g, q3⟩ => ?_) hs
  subst ex
  obtain rfl : u = Value.ref a := rx
  exact n_setItem hu I3 g ry rv fun s4 I4 => ⟨σ, H4, I4, q3⟩
theorem pe_nnew : PE X (.Dict [] [] pos) tNNew := ⟨fun pins s σ H Q I h =>
  wpAny_Dict_empty ⟨.ref s.heap.objs.size, _, I.laid (a := s.heap.objs.size) (o := NdO s.heap.objs.size []) (t' := s.toks) (fun _ _ q => Heap.get?_push_of_some _ q) (Nat.le_refl _)
    (nd_new ⟨Nat.zero_le _, beq_eq_false_iff_ne.mpr (Ne.symm (Nat.ne_of_lt I.big)), List.nodup_nil, [], .nil, _, #[], 0, Heap.get?_push_size _ rfl, ⟨rfl, rfl, rfl⟩, rfl, fun _ _ => rfl⟩), rfl, h _ (I.hok.fresh (Nat.le_refl _))⟩⟩
end
/-! ### as things of one's own -/
structure Dn where
  f : DK → Option (Tu Int)
  n : Nat
def Dn.nil : Dn := ⟨fun _ => none, 0⟩
def Dn.put (d : Dn) (k : DK) (v : Tu Int) : Dn := ⟨fun j => if j = k then some v else d.f j, d.n + 1⟩
theorem kis_of {C : CA} {F : Rg} {H : Hp} {b : Addr} {k : DK} (h : Rp.rp C F H (.ref b) k) : KIs H b k := by
  obtain ⟨a, u, w, e, f, h0, ⟨a1, vs, rfl, _, h1, r1⟩, ⟨a2, ws, rfl, _, h2, r2⟩⟩ := h
  cases e
  exact ⟨a1, a2, h0, by rw [← RpL.ints r1]; exact h1, by rw [← RpL.ints r2]; exact h2⟩
def NRel (C : CA) (F : Rg) (H : Hp) (xs : List (DK × Addr × V)) (y : Dn) : Prop := xs.length ≤ y.n ∧ (∀ e ∈ xs, Rp.rp C F H (.ref e.2.1) e.1) ∧ ∀ k, match (atN xs k).map (·.2) with | none => y.f k = none | some v => ∃ l, y.f k = some l ∧ Rp.rp C F H v l
theorem NRel.mono {C : CA} {F F' : Rg} {H H' : Hp} {xs : List (DK × Addr × V)} {y : Dn} (g : Ge F H F' H') (x : NRel C F H xs y) : NRel C F' H' xs y := by
  obtain ⟨h1, h2, h3⟩ := x
  refine ⟨h1, fun e he => Rp.mono g (h2 e he), fun k => ?_⟩
  have := h3 k
  revert this
  cases (atN xs k).map (·.2) with
  | none => exact fun z => z
  | some v => exact fun ⟨l, z1, z2⟩ => ⟨l, z1, Rp.mono g z2⟩
theorem NRel.isSome {C : CA} {F : Rg} {H : Hp} {xs : List (DK × Addr × V)} {y : Dn} (x : NRel C F H xs y) (k : DK) : ((atN xs k).map (·.2)).isSome = (y.f k).isSome := by
  have := x.2.2 k
  revert this
  cases (atN xs k).map (·.2) with
  | none => intro z; have z : y.f k = none := z; rw [z]; rfl
  | some v => rintro ⟨l, z1, z2⟩; rw [z1]; rfl
instance : Ow Dn := ⟨fun C F H as v y => ∃ x xs, v = .ref x ∧ as = [x] ∧ H x = some (NdO x xs) ∧ NRel C F H xs y,
  fun {C F F' H H' as v y} g k ⟨x, xs, e, ea, h, hn⟩ => ⟨x, xs, e, ea, k x (by rw [ea]; simp) _ h, hn.mono g⟩,
  fun {C F H as v y} ⟨x, xs, e, ea, h, _⟩ b hb => by
    rw [ea] at hb
    have hb : b = x := by simpa using hb
    rw [hb, h]; exact fun z => by cases z⟩
section
variable {G : Gx} {sl : List Sl} {K : PySem.W.Frag} {D : Ends}
theorem re_dnGet {i : Nat} {d : Dn} {ti : TE} {n : PT DK} (hi : sl[i]? = some (.own d)) (h : RE G sl ti n) : RE G sl (tNGet (tVar i) ti) (fun Q => n fun j => ∃ v, d.f j = some v ∧ Q v) := fun σ A F H Qp Q E hm k => by
  obtain ⟨u, h1, _⟩ := E.own hi
  refine ⟨_, h1, h σ A F H _ _ E hm fun j v F1 H1 q1 g1 E1 r1 => ?_⟩
  obtain ⟨y, hy, q1⟩ := q1
  obtain ⟨u', h1', x, xs, e, ea, hx, hr⟩ := E1.own hi
  rw [h1] at h1'
  have eu : u = u' := Option.some.inj (Option.some.inj h1')
  obtain ⟨b, _, _, rfl, _⟩ := id r1
  have q := hr.2.2 j
  cases hp : (atN xs j).map (·.2) with
  | none => rw [hp] at q; rw [q] at hy; cases hy
  | some v =>
    rw [hp] at q
    obtain ⟨l, q2, q3⟩ := q
    rw [hy] at q2
    cases q2
    exact ⟨x, v, by rw [eu, e], ⟨xs, b, j, hx, rfl, kis_of r1, fun e he => kis_of (hr.2.1 e he), hp.symm⟩, k _ _ _ _ q1 g1 E1 q3⟩
theorem re_dnIn {i : Nat} {d : Dn} {ti : TE} {n : PT DK} (hi : sl[i]? = some (.own d)) (h : RE G sl ti n) : RE G sl (tNIn ti (tVar i)) (fun Q => n fun j => Q (d.f j).isSome) := fun σ A F H Qp Q E hm k =>
  h σ A F H _ _ E hm fun j v F1 H1 q1 g1 E1 r1 => by
    obtain ⟨u, h1, x, xs, rfl, ea, hx, hr⟩ := E1.own hi
    obtain ⟨b, _, _, rfl, _⟩ := id r1
    refine ⟨_, h1, x, _, rfl, ⟨xs, b, j, hx, rfl, kis_of r1, fun e he => kis_of (hr.2.1 e he), rfl⟩, k _ _ _ _ q1 g1 E1 ?_⟩
    rw [hr.isSome j]; rfl
theorem re_dnNotIn {i : Nat} {d : Dn} {ti : TE} {n : PT DK} (hi : sl[i]? = some (.own d)) (h : RE G sl ti n) : RE G sl (tNNotIn ti (tVar i)) (fun Q => n fun j => Q (!(d.f j).isSome)) := fun σ A F H Qp Q E hm k =>
  h σ A F H _ _ E hm fun j v F1 H1 q1 g1 E1 r1 => by
    obtain ⟨u, h1, x, xs, rfl, ea, hx, hr⟩ := E1.own hi
    obtain ⟨b, _, _, rfl, _⟩ := id r1
    refine ⟨_, h1, x, _, rfl, ⟨xs, b, j, hx, rfl, kis_of r1, fun e he => kis_of (hr.2.1 e he), rfl⟩, k _ _ _ _ q1 g1 E1 ?_⟩
    rw [hr.isSome j]; rfl
theorem rb_dnPut {i : Nat} {d : Dn} {ti tv : TE} {n : PT DK} {m : PT (Tu Int)} {w : DK → Tu Int → Prop} (hi : sl[i]? = some (.own d)) (hv : RE G sl tv m) (h : RE G sl ti n) (k : ∀ j y, RB G (sl.set i (.own (d.put j y))) D.nx (w j y)) : RB G sl (sNPut (tVar i) ti tv D) (m fun y => n fun j => Sz d.n ∧ w j y) := fun σ A F H E hw =>
  hv σ A F H _ _ E hw fun y v F1 H1 q1 g1 E1 r1 => by
    obtain ⟨u, h1, _⟩ := E1.own hi
    refine ⟨_, h1, h σ A F1 H1 _ _ E1 q1 fun j z F2 H2 q2 g2 E2 r2 => ?_⟩
    obtain ⟨u', h1', x, xs, e, ea, hx, hr⟩ := E2.own hi
    obtain ⟨b, _, _, rfl, _⟩ := id r2
    have h1s := h1
    rw [h1] at h1'
    have eu : u = u' := Option.some.inj (Option.some.inj h1')
    subst eu e
    have lt : xs.length < sizeLine := Nat.lt_of_le_of_lt (Nat.le_trans hr.1 q2.1) (by decide)
    have na : ¬ F2 x := (E2.fr i x (by rw [ea]; simp)).1
    have g := upd_ge (o := NdO x (stN xs j b v)) (H := H2) na
    have r1' := Rp.mono (g2.ge.trans g) r1
    have r2' := Rp.mono g r2
    have hr' := hr.mono g
    refine ⟨x, _, rfl, ⟨xs, b, j, hx, rfl, kis_of r2, fun e he => kis_of (hr.2.1 e he), lt, rfl⟩, k j y σ A F2 _ (ins_turn E2 hi h1s (by rw [ea]; simp) ⟨x, _, rfl, ea, upd_same, ?_, fun e he => ?_, fun c => ?_⟩) q2.2⟩
    · have := stN_len xs j b v
      have := hr.1
      show _ ≤ d.n + 1
      omega
    · rcases stN_mem he with ⟨e', he', e1, e2⟩ | ⟨e1, e2⟩
      · rw [← e1, ← e2]; exact hr'.2.1 e' he'
      · rw [e1, e2]; exact r2'
    · rw [stN_at]
      by_cases ec : c = j
      · subst ec
        rw [if_pos rfl]
        exact ⟨y, by show (if c = c then some y else _) = _; rw [if_pos rfl], r1'⟩
      · rw [if_neg ec]
        have q := hr'.2.2 c
        have ep : (d.put j y).f c = d.f c := by show (if c = j then some y else _) = _; rw [if_neg ec]
        rw [ep]; exact q
theorem ro_dn0 : RO G sl tNNew (pR Dn.nil) := fun σ A F H Qp Q E hm k => fun p hp => by
  have nF : ¬ F p := fun f => E.ok.al _ f hp
  have n1 : New F H F (upd H p (NdO p [])) := New.same' (same_upd hp)
  refine k Dn.nil _ F _ [p] hm n1.gk (E.newk n1) ⟨p, _, rfl, rfl, upd_same, (show NRel G.C F (upd H p (NdO p [])) [] Dn.nil from ⟨Nat.le_refl _, fun e he => absurd he List.not_mem_nil, fun j => rfl⟩)⟩ fun c hc => ?_
  have : c = p := by simpa using hc
  rw [this]; exact ⟨nF, hp⟩
end
/-! ### a list told by another one that a turning call gives -/
section
variable {G : Gx} {sl sl1 : List Sl} {X Y : Type} [Rp X] [Rp Y] {vs : List Nat} {K : PySem.W.Frag}
theorem lc_pt {g : TG} {tt : TT} {te : TE} {f : X → PT (Option Y)} {σ : L2.St} {A : Nat → List Addr} {F1 : Rg} {H1 : Hp} {J : It} {xs : List X} {Qp : List Y → Prop} {Q : VK} (hv : ∀ v ∈ vs, NotOwn sl1 v) (he : ∀ x, RLc G (wipeS sl1 vs) vs g tt te x (f x)) (E1 : Env G sl1 σ A F1 H1)
    (w : WOk G.C (fun F2 H2 => Ge F1 H1 F2 H2 ∧ Env G sl1 σ A F2 H2) J xs) (hz : Sz xs.length) (q1 : lcP xs f Qp)
    (k : ∀ zs v F' H' as, Qp zs → Gk A F1 H1 F' H' → Env G sl1 σ A F' H' → Ow.ow G.C F' H' as v zs → (∀ a ∈ as, ¬ F' a ∧ H1 a = none) → Q v H') : tLc (fun _ H R => R J H) g tt te vs σ H1 Q := by
    intro D hD
    obtain ⟨Gd, Y', hW, hP, hY⟩ := w.ex
    have hDA : ∀ i, D ∉ A i := fun i hi => E1.live hi hD
    have hD0 : G.H0 D = none := E1.ok.live _ hD
    have hDF : ¬ F1 D := fun f => E1.ok.al _ f hD
    refine lc_it hW (fun i H2 => ∃ F2 acc ws, Gk A F1 H1 F2 H2 ∧ Env G sl1 σ A F2 H2 ∧ ¬ F2 D ∧ H2 D = some (.lst ws) ∧ RpL G.C F2 H2 ws acc ∧ ws.length ≤ i ∧ i ≤ xs.length ∧ lcP (xs.drop i) f (fun zs => Qp (acc ++ zs))) ?_ ?_ ?_ ?_
    · have n : New F1 H1 F1 (upd H1 D (.lst [])) := New.same' (same_upd hD)
      exact ⟨F1, [], [], n.gk, E1.newk n, hDF, upd_same, trivial, Nat.le_refl _, Nat.zero_le _, by simpa using q1⟩
    · rintro i H2 hi ⟨F2, acc, ws, g2, E2, _⟩
      exact hP F2 H2 ⟨g2.ge, E2⟩
    · rintro i x H2 H3 hi ⟨F2, acc, ws, g2, E2, nD, eD, rl, hl, hi2, q⟩ hy
      obtain ⟨F3, y, ey, n3, r3⟩ := hY i H2 x H3 F2 ⟨g2.ge, E2⟩ hy
      have E3 := E2.newk n3
      have g3 : Gk A F1 H1 F3 H3 := g2.trans n3.gk
      have nD3 : ¬ F3 D := fun f => by
        rcases n3.new D f with f | f
        · exact nD f
        · rw [eD] at f; cases f
      have eD3 : H3 D = some (.lst ws) := n3.same _ _ eD
      have ed : xs.drop i = y :: xs.drop (i + 1) := by
        obtain ⟨hlt, rfl⟩ := List.getElem?_eq_some_iff.mp ey
        exact List.drop_eq_getElem_cons hlt
      rw [ed] at q
      obtain ⟨Ew, bw⟩ := E3.wiped hv
      have h := he y (wipe σ vs) A F3 H3 x (fun o => lcP (xs.drop (i + 1)) f fun ys => Qp (acc ++ (match o with | none => ys | some y => y :: ys))) (fun y H4 => ∃ acc, H4 D = some (.lst acc) ∧ acc.length < sizeLine ∧ (fun i H2 => ∃ F2 acc ws, Gk A F1 H1 F2 H2 ∧ Env G sl1 σ A F2 H2 ∧ ¬ F2 D ∧ H2 D = some (.lst ws) ∧ RpL G.C F2 H2 ws acc ∧ ws.length ≤ i ∧ i ≤ xs.length ∧ lcP (xs.drop i) f (fun zs => Qp (acc ++ zs))) (i + 1) (upd H4 D (.lst (acc ++ [y]))))
        ((fun i H2 => ∃ F2 acc ws, Gk A F1 H1 F2 H2 ∧ Env G sl1 σ A F2 H2 ∧ ¬ F2 D ∧ H2 D = some (.lst ws) ∧ RpL G.C F2 H2 ws acc ∧ ws.length ≤ i ∧ i ≤ xs.length ∧ lcP (xs.drop i) f (fun zs => Qp (acc ++ zs))) (i + 1)) Ew r3 q (fun F4 H4 q4 g4 E4 => ?_) (fun z u F4 H4 q4 g4 E4 r4 => ?_)
      · rw [wipe_wipe vs fun _ h => h] at h
        exact h
      · have E4' := bw F4 H4 g4.ge E4
        have eD4 : H4 D = some (.lst ws) := g4.kp _ _ hDA eD3
        have nD4 : ¬ F4 D := fun f => by
          rcases g4.new D f with f | f
          · exact nD3 f
          · rw [eD3] at f; cases f
        exact ⟨F4, acc, ws, g3.trans g4, E4', nD4, eD4, RpL.mono (n3.ge.trans g4.ge) rl, by omega, by omega, q4⟩
      · have E4' := bw F4 H4 g4.ge E4
        have eD4 : H4 D = some (.lst ws) := g4.kp _ _ hDA eD3
        have nD4 : ¬ F4 D := fun f => by
          rcases g4.new D f with f | f
          · exact nD3 f
          · rw [eD3] at f; cases f
        obtain ⟨E5, g5⟩ := E4'.loc (o := .lst (ws ++ [u])) hDA nD4 (.inr hD0)
        refine ⟨ws, eD4, ?_, F4, acc ++ [z], ws ++ [u], ?_, E5, nD4, upd_same, RpL.append (RpL.mono ((n3.ge.trans g4.ge).trans g5) rl) ⟨Rp.mono g5 r4, trivial⟩, by rw [List.length_append]; show ws.length + 1 ≤ i + 1; omega, by omega, ?_⟩
        · have := hz.lt
          omega
        · exact (g3.trans g4).loc hD nD4
        · simpa [List.append_assoc] using q4
    · rintro H2 ⟨F2, acc, ws, g2, E2, nD, eD, rl, hl, hi2, q⟩
      rw [List.drop_length] at q
      have q : Qp (acc ++ []) := q
      rw [List.append_nil] at q
      exact k acc (.ref D) F2 H2 [D] q g2 E2 ⟨D, ws, rfl, rfl, eD, rl⟩ fun a ha => by
        have : a = D := by simpa using ha
        subst this
        exact ⟨nD, hD⟩
theorem reg_extendLc {te te' : TE} {g : TG} {tt : TT} {i : Nat} {l : List Y} {B : Type} {sl' : B → List Sl} {val : B → Tu X} {m : PT B} {f : B → X → PT (Option Y)} (h0 : ∃ l0 : List Y, sl[i]? = some (.own l0)) (hi : ∀ b, (sl' b)[i]? = some (.own l)) (h : REG G sl te sl' val m)
    (hv : ∀ b, ∀ v ∈ vs, NotOwn (sl' b) v) (he : ∀ b x, RLc G (wipeS (sl' b) vs) vs g tt te' x (f b x)) :
    REG G sl (tBM K "list" rExtend (tVar i) (tCons (tLc (iTup K te) g tt te' vs) tNil)) (fun b : B × List Y => (sl' b.1).set i (.own (l ++ b.2))) (fun _ => ()) (fun Q => m fun b => Sz (val b).l.length ∧ lcP (val b).l (f b) fun zs => Sz (l.length + zs.length) ∧ Q (b, zs)) := fun σ A F H Qp Q E hm k => by
  obtain ⟨l0, h0⟩ := h0
  obtain ⟨a, vs0, h1, h2, h3, h4⟩ := E.ownL h0
  refine ⟨_, h1, .inl ⟨rfl, _, SqL.of h2⟩, h σ A F H _ _ E hm fun b u F1 H1 q1 g1 E1 r1 => ?_⟩
  obtain ⟨c, us, rfl, fc, hc, hl⟩ := r1
  refine ⟨c, rfl, ⟨us, SqT.of hc⟩, ?_⟩
  have w : WOk G.C (fun F2 H2 => Ge F1 H1 F2 H2 ∧ Env G (sl' b) σ A F2 H2) (Itt K c) (val b).l := by
    refine ⟨fun H => H c = some (.tup us), YAt us, ?_, fun F H p => (p.1 _ _ fc hc).2, fun i H x H' F p y => ?_⟩
    · have := walk_tup (K := K) (a := c) (xs := us)
      rw [hl.length] at this
      exact this.mono (fun H h => SqT.of h) fun i H x H' _ _ y => y
    · obtain ⟨rfl, y⟩ := y
      obtain ⟨z, h1, h2⟩ := hl.get y
      exact ⟨F, z, h1, New.refl, Rp.mono p.1 h2⟩
  refine lc_pt (Qp := fun zs => Sz (l.length + zs.length) ∧ Qp (b, zs)) (Q := fun v H2 => rExtend (V.ref a) [v] H2 Q) (hv b) (he b) E1 w q1.1 q1.2 fun zs v F2 H2 as q2 g2 E2 o2 f2 => ?_
  obtain ⟨d, ws, rfl, ea, hd, rl⟩ := o2
  obtain ⟨a', vs', h1', h2', h3', h4'⟩ := E2.ownL (hi b)
  rw [h1] at h1'
  cases h1'
  obtain ⟨E3, g3⟩ := own_turn E2 (hi b) h1 h2' h3' (RpL.append h4' rl : RpL G.C F2 H2 (vs' ++ ws) (l ++ zs))
  exact ⟨a, d, vs', ws, rfl, rfl, h2', hd, by rw [h4'.length, rl.length]; exact q2.1.le, k (b, zs) _ _ _ q2.2 ((g1.trans g2).trans g3) E3 rfl⟩
/-- a call whose last argument is a new thing that it turns -/
theorem re_callTE {R W : Type} [Rp R] [Ow W] {wa : List Sl → (R → W → Prop) → Prop} {ta tb te : TE} {mw : PT W} {ma : PT X} {mb : PT Y} {E0' : XK} (h1 : RE G sl ta ma) (h2 : RE G sl tb mb) (h0 : RO G sl te mw) :
    RE G sl (tCall (SpO G.C 2 wa) [] E0' (tCons ta (tCons tb (tCons te tNil)))) (fun Q => ma fun x => mb fun z => mw fun y => wa [.dat x, .dat z, .own y] fun r _ => Q r) := fun σ A F H Qp Q E hm k =>
  h1 σ A F H _ _ E hm fun x u F1 H1 q1 g1 E1 r1 => h2 σ A F1 H1 _ _ E1 q1 fun z v F2 H2 q2 g2 E2 r2 => h0 σ A F2 H2 _ _ E2 q2 fun y t F3 H3 as q3 g3 E3 o3 f3 => by
    have hA : ∀ a ∈ as, ∀ i, a ∉ A i := fun a ha i hi => E2.live hi (f3 a ha).2
    have nF2 : ∀ a ∈ as, ¬ F3 a := fun a ha => (f3 a ha).1
    refine ⟨[.dat x, .dat z, .own y], F3, as, t, _, ⟨Rp.mono (g2.trans g3).ge r1, Rp.mono g3.ge r2, as, [], by simp, o3, rfl⟩, rfl, E3.ok.al, nF2, q3, fun r y' u F4 H4 q4 p4 nf o4 r4 => ?_⟩
    have hn : ∀ b, F4 b → F3 b ∨ H3 b = none := fun b f => (p4.new b f).imp id fun z => z.elim id fun z => absurd f (nf b z)
    have ge4 : Ge F3 H3 F4 H4 := fun b o f e => ⟨p4.sub b f, p4.keep b o (fun hb => nF2 b hb f) e⟩
    have h0' : ∀ a ∈ as, G.H0 a = none := fun a ha => E2.ok.live a (f3 a ha).2
    have g12 := (g1.trans g2).trans g3
    have gk : Gk A F H F4 H4 := ⟨g12.ge.trans ge4, fun b o hb e => p4.keep b o (fun c => by
      have := (g1.trans g2).kp b o hb e
      rw [(f3 b c).2] at this; cases this) (g12.kp b o hb e), fun b e => g12.fr b (p4.live b e), fun b f => (hn b f).elim (g12.new b) fun e => .inr (g12.fr b e)⟩
    refine k r u F4 H4 q4 gk ⟨E3.len, fun i s hs => ?_, E3.out, E3.dj, fun i a ha => ⟨fun f => ?_, (E3.fr i a ha).2⟩, E3.ok.trans p4 (fun x hx => .inr (h0' x hx)), E3.pn⟩ r4
    · obtain ⟨o, e1, e2⟩ := E3.sls i s hs
      exact ⟨o, e1, e2.mono ge4 fun a ha o e => p4.keep a o (fun c => hA a c i ha) e⟩
    · rcases hn a f with f | f
      · exact (E3.fr i a ha).1 f
      · exact E3.live ha f
end
end QV

namespace L2
open PySem PySem.Spec PyProof.Rows
/-- isinstance(e, c), e the exception that the suite holds, of any own class, with or without a dict -/
def rIsX (K : PySem.W.Frag) (a : Addr) (cls : Value) (d : Option Addr) : List V → Hp → VK → Prop := fun xs H Q => ∃ (c : V) (cv : Value) (b : Bool) (D : Addr), xs = [.ref a, c] ∧ cls = .ref D ∧ ExcC' K D ∧ (d = none ∨ ∃ dd fs, d = some dd ∧ H dd = some (.xd fs)) ∧ (∀ u, RelV c u → u = cv) ∧ PySem.W.kitOne K (.ref D) cv = some b ∧ Q (.bl b) H
where ExcC' (K : PySem.W.Frag) (D : Addr) : Prop := PySem.W.findIn K (.ref D) "__getattribute__" = some (some (.builtin "BaseException.__getattribute__")) ∧ PySem.W.findIn K (.ref D) "__getattr__" = some none ∧ PySem.W.subIn K (.ref D) (.type "BaseException") = some true ∧
  PySem.W.hasDictIn K D = true ∧ PySem.W.findIn K (.ref D) "__class__" = some (some (.builtin "object.__class__")) ∧ PySem.W.specialIn K (.builtin "object.__class__") "__get__" = some (some (.builtin "getset_descriptor.__get__")) ∧ PySem.W.takesIn K (.builtin "object.__class__") = some true ∧ PySem.W.mroIn K D (.type "object") = some true
theorem call_isX {X : Cx} {a : Addr} {cls : Value} {d : Option Addr} {oe : Obj} {pn : List (Addr × Obj)} (hz : Zc cls d oe) (hf : ∃ vs, oe.data = .fields vs) : CallR (X.suite a ((a, oe) :: pn)) (.builtin "isinstance") (rIsX X.K a cls d) := by
  intro pins s σ H xs us Q I r h
  obtain ⟨c, cv, b, D, rfl, rfl, ⟨c1, c2, c3, c4, c5, c6, c7, c8⟩, hd, hcv, e, q⟩ := h
  cases r with
  | cons rx rr =>
    cases rr with
    | cons rt rr =>
      cases rr
      cases rx
      have ec := hcv _ rt
      subst ec
      obtain ⟨hget, _⟩ := I.pin (a, oe) (List.mem_append.mpr (.inl List.mem_cons_self))
      obtain ⟨vs, hv⟩ := hf
      have hJ : ∃ od, PySem.W.InstAt s.heap a oe D od := by
        rcases hd with rfl | ⟨dd, fs, rfl, ea⟩
        · refine ⟨none, hget, hz.1, ?_, ?_⟩
          · unfold PySem.W.notCls; rw [hv] <;> rfl
          · rw [hz.2]; trivial
        · have hx : ObjOk X.prog X.w H s.heap dd (.xd fs) := I.hok dd _ ea
          obtain ⟨mA, hns, hr⟩ := hx
          obtain ⟨od, ho, hl⟩ := lookIn_ns hns
          refine ⟨some od, hget, hz.1, ?_, ?_⟩
          · unfold PySem.W.notCls; rw [hv] <;> rfl
          · rw [hz.2]; exact ho
      obtain ⟨od, J⟩ := hJ
      obtain ⟨cd, hc, _⟩ := PySem.W.any_some c4
      exact PySem.W.kia_one (PySem.W.kitx_exc (od := od) (by rw [hc]; rfl) c1 c2 c3 c5 c6 c7 c8) I.kIn J e (fun z => nomatch z) fun tk => ⟨.bl b, H, I.kept (t' := tk) fun _ _ z => z, rfl, q⟩
end L2
namespace QV
open PySem L2 QW
/-! ### what is raised -/
inductive Xc where
  | QuitsError | BadEvening | NoAmount | NotEven | NoRow | NoPair | NoWay | NoDrawing | TooMany | NoNumber | NoSettlement | NoPrices | NoFraction | NoPerson | NoWeb | NotSettled | NoOrder | Quits | NothingDone | NoNames | NoName | Alike | NoLosers | NoRing | NoWish | NoEvenings | NoRule | BadText | NoLine
deriving DecidableEq
@[reducible] def CA.xa (C : CA) : Xc → Addr
  | .QuitsError => C.QuitsError | .BadEvening => C.BadEvening | .NoAmount => C.NoAmount | .NotEven => C.NotEven | .NoRow => C.NoRow | .NoPair => C.NoPair | .NoWay => C.NoWay | .NoDrawing => C.NoDrawing | .TooMany => C.TooMany | .NoNumber => C.NoNumber | .NoSettlement => C.NoSettlement | .NoPrices => C.NoPrices | .NoFraction => C.NoFraction | .NoPerson => C.NoPerson | .NoWeb => C.NoWeb | .NotSettled => C.NotSettled | .NoOrder => C.NoOrder | .Quits => C.Quits | .NothingDone => C.NothingDone | .NoNames => C.NoNames | .NoName => C.NoName | .Alike => C.Alike | .NoLosers => C.NoLosers | .NoRing => C.NoRing | .NoWish => C.NoWish | .NoEvenings => C.NoEvenings | .NoRule => C.NoRule | .BadText => C.BadText | .NoLine => C.NoLine
/-- the field of an own error -/
@[reducible] def Xc.fn : Xc → Str
  | .BadEvening => "part" | .NoPair => "place" | .TooMany => "most" | .NoName => "name" | .BadText => "line" | _ => ""
inductive Xf where
  | no
  | int (i : Int)
  | str (s : Str)
structure Xd where
  c : Xc
  f : Xf
def XfV : Xf → V → Prop
  | .no, _ => False
  | .int i, v => v = .int i
  | .str s, v => v = .str s ∧ PySem.PyData.strOk s = true
def ExV (C : CA) (F : Rg) (H : Hp) (cls : Value) (d : Option Addr) (x : Xd) : Prop := cls = .ref (C.xa x.c) ∧ ((x.f = .no ∧ d = none) ∨ ∃ dd v, d = some dd ∧ F dd ∧ H dd = some (.xd [(x.c.fn, v)]) ∧ XfV x.f v)
theorem ExV.mono {C : CA} {F F' : Rg} {H H' : Hp} {cls : Value} {d : Option Addr} {x : Xd} (g : Ge F H F' H') (h : ExV C F H cls d x) : ExV C F' H' cls d x :=
  ⟨h.1, h.2.imp id fun ⟨dd, v, e, f, a, q⟩ => ⟨dd, v, e, (g _ _ f a).1, (g _ _ f a).2, q⟩⟩
/-- the name that holds what was caught -/
structure XE where
  a : Addr
  cls : Value
  d : Option Addr
  x : Xd
instance : Rp XE := ⟨fun C F H v e => v = .ref e.a ∧ ExV C F H e.cls e.d e.x, fun g h => ⟨h.1, h.2.mono g⟩⟩
/-! ### promises that tell what is raised -/
def SpX (C : CA) {R : Type} [Rp R] (wa : (Xd → Prop) → List Sl → PT R) : Sp := fun vs H Q E => ∃ args F Qp Xp, ArgsOk C F H args vs [] ∧ (∀ b, F b → H b ≠ none) ∧ wa Xp args Qp ∧
  (∀ r v F' H', Qp r → Post H F noW F' H' → Rp.rp C F' H' v r → Q v H') ∧ ∀ x cls d F' H', Xp x → Post H F noW F' H' → ExV C F' H' cls d x → E cls d H'
def SpNX (C : CA) {R : Type} [Ow R] (wa : (Xd → Prop) → List Sl → PT R) : Sp := fun vs H Q E => ∃ args F Qp Xp, ArgsOk C F H args vs [] ∧ (∀ b, F b → H b ≠ none) ∧ wa Xp args Qp ∧
  (∀ r v F' H' as, Qp r → Post H F noW F' H' → Ow.ow C F' H' as v r → (∀ a ∈ as, ¬ F' a ∧ H a = none) → Q v H') ∧ ∀ x cls d F' H', Xp x → Post H F noW F' H' → ExV C F' H' cls d x → E cls d H'
def XOk (G : Gx) (sl : List Sl) (W : WX) (Xp : Xd → Prop) : Prop := ∀ (σ : St) (A : Nat → List Addr) (F : Rg) (H : Hp) (x : Xd) (cls : Value) (d : Option Addr), Env G sl σ A F H → Xp x → ExV G.C F H cls d x → W cls d σ H
section
variable {G : Gx} {sl : List Sl} {X Y Z R : Type} [Rp X] [Rp Y] [Rp Z] [Rp R]
theorem xok_false {W : WX} : XOk G sl W (fun _ => False) := fun _ _ _ _ _ _ _ _ h _ => h.elim
theorem XOk.le {W : WX} {Xp : Xd → Prop} {pin : Option Nat} {tl : List Sl} (h : XOk G tl W Xp) (hp : G.pin.map (·.1) = pin) (l : LeSl pin 0 sl tl) : XOk G sl W Xp := fun σ A F H x cls d E hx ev => by
  obtain ⟨A', E', _⟩ := E.le l hp
  exact h σ A' F H x cls d E' hx ev
theorem XOk.lift {H1 : Hp} {F1 w1 : Rg} {W : WX} {Xp : Xd → Prop} (l : Lift (G.at H1 F1 w1) G) (h : XOk G sl W Xp) : XOk (G.at H1 F1 w1) sl W Xp := fun σ A F H x cls d E => h σ A F H x cls d (l.env _ _ _ _ _ E)
theorem re_callX {wa : (Xd → Prop) → List Sl → PT R} {t : TA} {m : (List Sl → Prop) → Prop} {W : WX} {Xp : Xd → Prop} (hW : XOk G sl W Xp) (h : RA G sl none t m) : RE G sl (tCallS (SpX G.C wa) (WE W) t) (fun Q => m fun args => wa Xp args Q) := fun σ A F H Qp Q E hm k =>
  h σ A F H _ _ E hm fun args vs F1 H1 q1 g1 E1 r1 _ => ⟨args, F1, Qp, Xp, r1, E1.ok.al, q1, fun r v F2 H2 q2 p2 r2 => k r v F2 H2 q2 (g1.trans p2.nw.gk) (E1.newk p2.nw) r2, fun x cls d F2 H2 q2 p2 ev => hW σ A F2 H2 x cls d (E1.newk p2.nw) q2 ev⟩
theorem ro_callX {W' : Type} [Ow W'] {wa : (Xd → Prop) → List Sl → PT W'} {t : TA} {m : (List Sl → Prop) → Prop} {W : WX} {Xp : Xd → Prop} (hW : XOk G sl W Xp) (h : RA G sl none t m) : RO G sl (tCallS (SpNX G.C wa) (WE W) t) (fun Q => m fun args => wa Xp args Q) := fun σ A F H Qp Q E hm k =>
  h σ A F H _ _ E hm fun args vs F1 H1 q1 g1 E1 r1 _ => ⟨args, F1, Qp, Xp, r1, E1.ok.al, q1, fun r v F2 H2 as q2 p2 r2 f2 => k r v F2 H2 as q2 (g1.trans p2.nw.gk) (E1.newk p2.nw) r2 fun a ha => ⟨(f2 a ha).1, g1.fr a (f2 a ha).2⟩, fun x cls d F2 H2 q2 p2 ev => hW σ A F2 H2 x cls d (E1.newk p2.nw) q2 ev⟩
section
variable {C : CA}
theorem def_X {R : Type} [Rp R] {wa : (Xd → Prop) → List Sl → PT R} {t : TS} {N : List Str} {vs : List V} {H : Hp} {Q : VK} {E : XK} (h : SpX C wa vs H Q E)
    (ok : ∀ args Qp Xp, wa Xp args Qp → nOwn args = 0 ∧ ∃ n, N.length = args.length + n ∧ ∃ W : Prop, W ∧ ∀ (H0 : Hp) (F0 : Rg) (D : Ends), RtA ⟨C, H0, F0, noW, none⟩ D.rt Qp → NxA ⟨C, H0, F0, noW, none⟩ D Qp → (∀ sl, XOk ⟨C, H0, F0, noW, none⟩ sl (fun cls d _ H => E cls d H) Xp) → RB ⟨C, H0, F0, noW, none⟩ (args ++ unS n) (t D) W) :
    t { nx := fun _ H' => Q .non H', rt := Q } (L2.start N vs) H := by
  obtain ⟨args, F, Qp, Xp, ha, hl, hw, k, kx⟩ := h
  obtain ⟨no, n, hn, W, hW, hb⟩ := ok args Qp Xp hw
  have E0 := env_start ha no hl hn
  exact hb H F { nx := fun _ H' => Q .non H', rt := Q } (fun sl σ A F' H' r v E' rr hr => k r v F' H' hr E'.ok rr) (fun sl r hz σ A F' H' E' hr => k r .non F' H' hr E'.ok (hz _ _)) (fun sl σ A F' H' x cls d E' hx ev => kx x cls d F' H' hx E'.ok ev) _ _ _ _ E0 hW
theorem def_NX {R : Type} [Ow R] {wa : (Xd → Prop) → List Sl → PT R} {t : TS} {N : List Str} {vs : List V} {H : Hp} {Q : VK} {E : XK} (h : SpNX C wa vs H Q E)
    (ok : ∀ args Qp Xp, wa Xp args Qp → nOwn args = 0 ∧ ∃ n, N.length = args.length + n ∧ ∃ W : Prop, W ∧ ∀ (H0 : Hp) (F0 : Rg) (D : Ends), RtN ⟨C, H0, F0, noW, none⟩ D.rt Qp → (∀ sl, XOk ⟨C, H0, F0, noW, none⟩ sl (fun cls d _ H => E cls d H) Xp) → RB ⟨C, H0, F0, noW, none⟩ (args ++ unS n) (t D) W) :
    t { nx := fun _ H' => Q .non H', rt := Q } (L2.start N vs) H := by
  obtain ⟨args, F, Qp, Xp, ha, hl, hw, k, kx⟩ := h
  obtain ⟨no, n, hn, W, hW, hb⟩ := ok args Qp Xp hw
  have E0 := env_start ha no hl hn
  exact hb H F { nx := fun _ H' => Q .non H', rt := Q } (fun sl σ A F' H' r v as E' rr hf hr => k r v F' H' as hr E'.ok rr fun a ha => ⟨(hf a ha).1, (hf a ha).2.elim (fun z => z.elim) id⟩) (fun sl σ A F' H' x cls d E' hx ev => kx x cls d F' H' hx E'.ok ev) _ _ _ _ E0 hW
end
/-! ### raising -/
theorem mkKeepN {K : PySem.W.Frag} {c : Addr} {f : Str} {v : V} {H : Hp} {Q : XK} (ox : OexC K c) (no : PySem.W.findIn K (.ref c) f = some none) (q : ∀ d, H d = none → Q (.ref c) (some d) (upd H d (.xd [(f, v)]))) : MkOO c (spKeep K c f) [v] H Q := by
  refine ⟨by simp, fun a ha => ⟨a, v, rfl, ox, no, upd_same, fun dx hdx hne => ⟨rfl, dx, [(f, v)], upd_same, ?_, ?_, ?_⟩⟩⟩
  · rw [upd_ne hne]; exact upd_same
  · rw [upd_ne hne] at hdx; exact hdx
  · have h1 : H dx = none := by rw [upd_ne hne] at hdx; exact hdx
    have e : upd (del (upd (upd (upd H a (exo a c none)) dx (exd dx [(f, v)])) a (exo a c (some dx))) a) dx (.xd [(f, v)]) = upd H dx (.xd [(f, v)]) := by
      funext b
      by_cases e1 : b = dx
      · subst e1; rw [upd_same, upd_same]
      · rw [upd_ne e1, upd_ne e1]
        by_cases e2 : b = a
        · subst e2; rw [del_same, ha]
        · rw [del_ne e2, upd_ne e2, upd_ne e1, upd_ne e2]
    rw [e]
    exact q dx h1
theorem rb_raise0 {D : Ends} {c : Xc} {sp : Sp} {W : WX} {Xp : Xd → Prop} (hW : XOk G sl W Xp) (hsp : ∀ a H Q E, Q .non H → sp [.ref a] H Q E) : RB G sl (tRz (tMkN (G.C.xa c) sp) W D) (Xp ⟨c, .no⟩) := fun σ A F H E hw =>
  i_rz (i_mkN hsp (hW σ A F H ⟨c, .no⟩ _ _ E hw ⟨rfl, .inl ⟨rfl, rfl⟩⟩))
theorem rb_raiseV {D : Ends} {c : Xc} {f : Str} {W : WX} {Xp : Xd → Prop} {te : TE} {m : PT X} (fx : X → Xf) (hf : f = c.fn) (hfx : ∀ {C : CA} {F : Rg} {H : Hp} {v : V} {x : X}, Rp.rp C F H v x → XfV (fx x) v) (ox : OexC G.C.K (G.C.xa c)) (no : PySem.W.findIn G.C.K (.ref (G.C.xa c)) f = some none) (hW : XOk G sl W Xp) (h : RE G sl te m) :
    RB G sl (tRz (tMkO (G.C.xa c) (spKeep G.C.K (G.C.xa c) f) [] (tCons te tNil)) W D) (m fun x => Xp ⟨c, fx x⟩) := fun σ A F H E hw =>
  i_rz (i_mkO (h σ A F H _ _ E hw fun x v F1 H1 q1 g1 E1 r1 => (by
    show MkOO (G.C.xa c) (spKeep G.C.K (G.C.xa c) f) [v] H1 fun cls d H' => W cls d σ H'
    subst hf
    exact mkKeepN ox no fun d hd => hW σ A _ _ ⟨c, fx x⟩ _ _ (E1.newk (New.upd hd)) q1 ⟨rfl, .inr ⟨d, v, rfl, .inr rfl, upd_same, hfx r1⟩⟩)))
theorem rb_raiseI {D : Ends} {c : Xc} {f : Str} {W : WX} {Xp : Xd → Prop} {te : TE} {m : PT Int} (hf : f = c.fn) (ox : OexC G.C.K (G.C.xa c)) (no : PySem.W.findIn G.C.K (.ref (G.C.xa c)) f = some none) (hW : XOk G sl W Xp) (h : RE G sl te m) :
    RB G sl (tRz (tMkO (G.C.xa c) (spKeep G.C.K (G.C.xa c) f) [] (tCons te tNil)) W D) (m fun x => Xp ⟨c, .int x⟩) := rb_raiseV Xf.int hf (fun h => h) ox no hW h
theorem rb_raiseS {D : Ends} {c : Xc} {f : Str} {W : WX} {Xp : Xd → Prop} {te : TE} {m : PT Str} (hf : f = c.fn) (ox : OexC G.C.K (G.C.xa c)) (no : PySem.W.findIn G.C.K (.ref (G.C.xa c)) f = some none) (hW : XOk G sl W Xp) (h : RE G sl te m) :
    RB G sl (tRz (tMkO (G.C.xa c) (spKeep G.C.K (G.C.xa c) f) [] (tCons te tNil)) W D) (m fun x => Xp ⟨c, .str x⟩) := rb_raiseV Xf.str hf (fun h => h) ox no hW h
/-! ### what is known of the classes of errors -/
structure XF (C : CA) (Rs Ts : List Xc) : Prop where
  ec : ∀ r ∈ Rs, rIsX.ExcC' C.K (C.xa r)
  em : ∀ r ∈ Rs, PySem.W.exmOne C.K (.ref (C.xa r)) (.ref C.QuitsError) = some true
  ist : ∀ r ∈ Rs, ∀ t ∈ Ts, PySem.W.kitOne C.K (.ref (C.xa r)) (.ref (C.xa t)) = some (decide (r = t))
  isv : ∀ r ∈ Rs, PySem.W.kitOne C.K (.ref (C.xa r)) (.type "ValueError") = some true
theorem kit_ref {K : PySem.W.Frag} {R T : Addr} (h1 : PySem.W.isClsIn K T = true) (h2 : PySem.W.typeIn K (.ref T) = some (.type "type")) (h3 : PySem.W.subIn K (.ref T) (.ref T) = some true) (h : PySem.W.subIn K (.ref R) (.ref T) = some false) : PySem.W.kitOne K (.ref R) (.ref T) = some false := by
  have hn : ¬ ((Value.ref R == Value.ref T) = true) := fun z => by
    have e : R = T := Value.ref.inj (beq_iff_eq.mp z)
    subst e
    rw [h3] at h; cases h
  unfold PySem.W.kitOne
  rw [if_neg hn]
  have h1' : (PySem.W.clsIn K T).isSome = true := h1
  show (if ((PySem.W.clsIn K T).isSome && PySem.W.typeIn K (.ref T) == some (.type "type")) = true then PySem.W.subIn K (.ref R) (.ref T) else none) = some false
  rw [h1', h2]
  exact h
theorem kit_same {K : PySem.W.Frag} {R : Addr} : PySem.W.kitOne K (.ref R) (.ref R) = some true := by
  unfold PySem.W.kitOne
  rw [if_pos (by simp)]
theorem kit_ve {K : PySem.W.Frag} {R : Addr} (h : PySem.W.subIn K (.ref R) (.type "ValueError") = some true) (hm : PySem.W.kitMeta "ValueError" = true := by decide +kernel) : PySem.W.kitOne K (.ref R) (.type "ValueError") = some true := by
  unfold PySem.W.kitOne
  rw [if_neg (by simp)]
  show (if PySem.W.kitMeta "ValueError" = true then PySem.W.subIn K (.ref R) (.type "ValueError") else none) = some true
  rw [if_pos hm]
  exact h
theorem bt_ValueError : bootBuiltins "ValueError" = some (.type "ValueError") := by decide +kernel
structure XR (C : CA) (c : Xc) : Prop where
  ox : OexC C.K (C.xa c)
  no : PySem.W.findIn C.K (.ref (C.xa c)) c.fn = some none
  xf : XfC C.K (C.xa c)
/-! ### trying -/
/-- what follows a suite: the name of what was caught goes -/
@[reducible] def Ends.un (D : Ends) (i : Nat) : Ends := { nx := fun σ' H' => D.nx (σ'.set i none) H', rt := D.rt, bk := fun σ' H' => D.bk (σ'.set i none) H', ct := fun σ' H' => D.ct (σ'.set i none) H' }
theorem rb_unset {i : Nat} {p : St → Hp → Prop} {w : Prop} (n : NotOwn sl i) (h : RB G (sl.set i .un) p w) : RB G sl (fun σ H => p (σ.set i none) H) w := fun σ A F H E hw =>
  h _ A F H (E.put (s := .un) (o := none) rfl n) hw
@[reducible] def pHand (b : (Xd → Prop) → Prop) (h : Xd → Prop) : Prop := b h
theorem rb_tryAs {Rs Ts : List Xc} {i : Nat} {ts : Addr → Value → Option Addr → TS} {tb : WX → TS} {D : Ends} {slW : List Sl} {wb : (Xd → Prop) → Prop} {ws : Xd → Prop} (XF : XF G.C Rs Ts) (ni : NotOwn slW i)
    (hs : ∀ (a : Addr) (cls : Value) (d : Option Addr) (x : Xd), cls = .ref (G.C.xa x.c) → RB G (slW.set i (.dat (X := XE) ⟨a, cls, d, x⟩)) (ts a cls d (Ends.un D i)) (ws x))
    (hb : ∀ (W : WX) (Xp : Xd → Prop), XOk G slW W Xp → RB G sl (tb W D) (wb Xp)) :
    RB G sl (tTryAs G.C.K (.ref G.C.QuitsError) i ts tb D) (pHand wb (fun x => x.c ∈ Rs ∧ ws x)) := fun σ A F H E hw =>
  i_tryAs (hb _ (fun x => x.c ∈ Rs ∧ ws x) (fun σ1 A1 F1 H1 x cls d E1 hx ev => wAs_hit (by rw [ev.1]; exact XF.em _ hx.1) fun a ha =>
    hs a cls d x ev.1 _ A1 F1 H1 (E1.put (s := .dat (X := XE) ⟨a, cls, d, x⟩) ⟨rfl, _, rfl, rfl, ev⟩ ni) hx.2) σ A F H E hw)
def tTryOnly (K : PySem.W.Frag) (c : Value) (ts : Addr → Value → Option Addr → TS) (tb : WX → TS) : TS := fun D σ H => tb (wOnly K c ts (fun _ _ _ _ => False) D) D σ H
theorem rb_tryOnly {c : Value} {Rs : List Xc} {ts : Addr → Value → Option Addr → TS} {tb : WX → TS} {D : Ends} {slW : List Sl} {wb : (Xd → Prop) → Prop} {ws : Prop} (em : ∀ r ∈ Rs, PySem.W.exmOne G.C.K (.ref (G.C.xa r)) c = some true)
    (hs : ∀ (a : Addr) (cls : Value) (d : Option Addr), RB G slW (ts a cls d D) ws)
    (hb : ∀ (W : WX) (Xp : Xd → Prop), XOk G slW W Xp → RB G sl (tb W D) (wb Xp)) :
    RB G sl (tTryOnly G.C.K c ts tb D) (pHand wb (fun x => x.c ∈ Rs ∧ ws)) := fun σ A F H E hw =>
  hb _ (fun x => x.c ∈ Rs ∧ ws) (fun σ1 A1 F1 H1 x cls d E1 hx ev => ⟨true, by rw [ev.1]; exact em _ hx.1, fun _ a ha => hs a cls d _ A1 F1 H1 E1 hx.2, fun z => Bool.noConfusion z⟩) σ A F H E hw
theorem rb_unD {D : Ends} {i : Nat} {w : Prop} (n : NotOwn sl i) (h : RB G (sl.set i .un) D.nx w) : RB G sl (Ends.un D i).nx w := rb_unset n h
/-! ### what a suite asks of what was caught -/
theorem re_isX {Rs Ts : List Xc} (XF : XF G.C Rs Ts) {i : Nat} {a : Addr} {cls : Value} {d : Option Addr} {x : Xd} (t : Xc) (ht : t ∈ Ts) (h : sl[i]? = some (.dat (X := XE) ⟨a, cls, d, x⟩)) :
    RE G sl (tCB (rIsX G.C.K a cls d) (tCons (tVar i) (tCons (tC (.ref (G.C.xa t))) tNil))) (fun Q => x.c ∈ Rs ∧ Q (decide (x.c = t))) := fun σ A F H Qp Q E hm k => by
  obtain ⟨v, h1, h2⟩ := E.dat h
  obtain ⟨rfl, e1, e2⟩ := h2
  refine ⟨_, h1, ⟨_, .ref (G.C.xa t), _, _, rfl, e1, XF.ec _ hm.1, e2.imp (·.2) fun ⟨dd, v, q1, _, q2, _⟩ => ⟨dd, _, q1, q2⟩, fun u hu => hu, XF.ist _ hm.1 t ht, k _ _ F H hm.2 Gk.refl E rfl⟩⟩
theorem re_isXv {Rs Ts : List Xc} (XF : XF G.C Rs Ts) {i : Nat} {a : Addr} {cls : Value} {d : Option Addr} {x : Xd} (h : sl[i]? = some (.dat (X := XE) ⟨a, cls, d, x⟩)) :
    RE G sl (tCB (rIsX G.C.K a cls d) (tCons (tVar i) (tCons (tC (.ty "ValueError")) tNil))) (fun Q => x.c ∈ Rs ∧ Q true) := fun σ A F H Qp Q E hm k => by
  obtain ⟨v, h1, h2⟩ := E.dat h
  obtain ⟨rfl, e1, e2⟩ := h2
  refine ⟨_, h1, ⟨_, .type "ValueError", _, _, rfl, e1, XF.ec _ hm.1, e2.imp (·.2) fun ⟨dd, v, q1, _, q2, _⟩ => ⟨dd, _, q1, q2⟩, fun u hu => hu, XF.isv _ hm.1, k _ _ F H hm.2 Gk.refl E rfl⟩⟩
theorem re_xfI {i : Nat} {a : Addr} {cls : Value} {d : Option Addr} {x : Xd} (c : Xc) {f : Str} (hf : f = c.fn) (h : sl[i]? = some (.dat (X := XE) ⟨a, cls, d, x⟩)) :
    RE G sl (tXf a cls d (G.C.xa c) f (tVar i)) (fun Q => ∃ j, x = ⟨c, .int j⟩ ∧ Q j) := fun σ A F H Qp Q E hm k => by
  obtain ⟨v, h1, h2⟩ := E.dat h
  obtain ⟨rfl, e1, e2⟩ := h2
  obtain ⟨j, rfl, hq⟩ := hm
  rcases e2 with ⟨z, _⟩ | ⟨dd, u, q1, q2, q3, q4⟩
  · cases z
  · exact ⟨_, h1, rfl, e1, dd, _, u, q1, q3, by rw [hf]; simp [List.lookup], k j u F H hq Gk.refl E q4⟩
theorem re_xfS {i : Nat} {a : Addr} {cls : Value} {d : Option Addr} {x : Xd} (c : Xc) {f : Str} (hf : f = c.fn) (h : sl[i]? = some (.dat (X := XE) ⟨a, cls, d, x⟩)) :
    RE G sl (tXf a cls d (G.C.xa c) f (tVar i)) (fun Q => ∃ j, x = ⟨c, .str j⟩ ∧ Q j) := fun σ A F H Qp Q E hm k => by
  obtain ⟨v, h1, h2⟩ := E.dat h
  obtain ⟨rfl, e1, e2⟩ := h2
  obtain ⟨j, rfl, hq⟩ := hm
  rcases e2 with ⟨z, _⟩ | ⟨dd, u, q1, q2, q3, q4⟩
  · cases z
  · exact ⟨_, h1, rfl, e1, dd, _, u, q1, q3, by rw [hf]; simp [List.lookup], k j u F H hq Gk.refl E q4⟩
end
/-! ### the own __init__ of an error -/
@[reducible] def t_keepu (C : CA) (f : Str) : TS := tOst C.K f (tVar 0) (tVar 1)
theorem rd_keepu {C : CA} {c : Addr} {f p : Str} {vs : List V} {H : Hp} {Q : VK} {E : XK} (h : spKeep C.K c f vs H Q E) : t_keepu C f { nx := fun _ H' => Q .non H', rt := Q } (L2.start ["self", p] vs) H := by
  obtain ⟨a, v, rfl, ox, no, ha, q⟩ := h
  exact ⟨_, rfl, _, rfl, a, c, rfl, ox, no, .inl ⟨ha, q⟩⟩
@[reducible] def spNone : Sp := fun vs H Q _ => ∃ (a : Addr), vs = [.ref a] ∧ Q .non H
theorem rd_noneu {vs : List V} {H : Hp} {Q : VK} {E : XK} (h : spNone vs H Q E) : tNext { nx := fun _ H' => Q .non H', rt := Q } (L2.start ["self"] vs) H := by
  obtain ⟨a, rfl, q⟩ := h
  exact q
/-! ### things that are compared -/
instance {X : Type} [Rp X] [Emb X] : Emb (Option X) := ⟨fun o => match o with | none => .non | some x => Emb.emb x, fun {C F H v x} h => by
  cases x with
  | none => simp only [DvR]; exact h
  | some y => exact Emb.ok (x := y) h⟩
mutual
def Dv.enc : Dv → PyData
  | .non => .none
  | .bl b => .bool b
  | .int i => .int i
  | .str s => .str s
  | .tup l => .tuple (Dv.encL l)
  | .lst l => .list (Dv.encL l)
  | .dct => .none
  | .ev _ => .none
def Dv.encL : List Dv → List PyData
  | [] => []
  | d :: l => Dv.enc d :: Dv.encL l
end
mutual
def Dv.dat : Dv → Bool
  | .tup l => Dv.datL l
  | .lst l => Dv.datL l
  | .dct => false
  | .ev _ => false
  | _ => true
def Dv.datL : List Dv → Bool
  | [] => true
  | d :: l => Dv.dat d && Dv.datL l
end
mutual
theorem Dv.dp {K : PySem.W.Frag} {C : CA} {F : Rg} {H : Hp} : ∀ {v : V} (d : Dv), DvR C F H v d → Dv.dat d = true → Dp K H v (Dv.enc d) ∧ (Dv.enc d).canLay0 = true
  | _, .non, h, _ => by simp only [DvR] at h; subst h; simp only [Dv.enc]; exact ⟨.non, rfl⟩
  | _, .bl _, h, _ => by simp only [DvR] at h; subst h; simp only [Dv.enc]; exact ⟨.bl _, rfl⟩
  | _, .int _, h, _ => by simp only [DvR] at h; subst h; simp only [Dv.enc]; exact ⟨.int _, rfl⟩
  | _, .str _, h, _ => by
    simp only [DvR] at h
    obtain ⟨rfl, h⟩ := h
    simp only [Dv.enc]; exact ⟨.str _, by simpa only [PyData.canLay0] using h⟩
  | _, .tup l, h, hd => by
    simp only [DvR] at h
    obtain ⟨a, vs, rfl, f, ha, hl⟩ := h
    simp only [Dv.dat] at hd
    obtain ⟨h1, h2⟩ := Dv.dpL l hl hd
    simp only [Dv.enc, PyData.canLay0]
    exact ⟨.tup (SqT.of ha) h1, h2⟩
  | _, .lst l, h, hd => by
    simp only [DvR] at h
    obtain ⟨a, vs, rfl, f, ha, hl⟩ := h
    simp only [Dv.dat] at hd
    obtain ⟨h1, h2⟩ := Dv.dpL l hl hd
    simp only [Dv.enc, PyData.canLay0]
    exact ⟨.lst (SqL.of ha) h1, h2⟩
  | _, .dct, _, hd => by simp [Dv.dat] at hd
  | _, .ev _, _, hd => by simp [Dv.dat] at hd
theorem Dv.dpL {K : PySem.W.Frag} {C : CA} {F : Rg} {H : Hp} : ∀ {vs : List V} (l : List Dv), DvL C F H vs l → Dv.datL l = true → DpAll K H vs (Dv.encL l) ∧ PyData.canLayAll0 (Dv.encL l) = true
  | [], [], _, _ => by simp only [Dv.encL]; exact ⟨.nil, rfl⟩
  | v :: vs, d :: l, h, hd => by
    simp only [DvL] at h
    simp only [Dv.datL, Bool.and_eq_true] at hd
    obtain ⟨a1, a2⟩ := Dv.dp d h.1 hd.1
    obtain ⟨b1, b2⟩ := Dv.dpL l h.2 hd.2
    simp only [Dv.encL, PyData.canLayAll0, a2, b2]
    exact ⟨.cons a1 b1, rfl⟩
  | [], _ :: _, h, _ => by simp [DvL] at h
  | _ :: _, [], h, _ => by simp [DvL] at h
end
/-- a thing that can be compared -/
def Dv.cmp (d : Dv) : Prop := Dv.dat d = true ∧ (Dv.enc d).depth < 64
def eqT (x y : Dv) : Bool := PyData.eqv (Dv.enc x) (Dv.enc y)
@[reducible] def pEqT (x y : Dv) : PT Bool := fun Q => Dv.cmp x ∧ Dv.cmp y ∧ Q (eqT x y)
theorem o_eqT {C : CA} {K : PySem.W.Frag} : OP C (rEqD K) (fun (x y : Dv) Q => pEqT x y Q) := fun F H v w x y Qp Q h1 h2 ⟨⟨c1, c2⟩, ⟨c3, c4⟩, hq⟩ k => by
  obtain ⟨d1, e1⟩ := Dv.dp (K := K) x h1 c1
  obtain ⟨d2, e2⟩ := Dv.dp (K := K) y h2 c3
  have s1 : SeqAt.shaped (Dv.enc x) = true := by unfold SeqAt.shaped; rw [Bool.and_eq_true]; exact ⟨e1, decide_eq_true (by omega)⟩
  have s2 : SeqAt.shaped (Dv.enc y) = true := by unfold SeqAt.shaped; rw [Bool.and_eq_true]; exact ⟨e2, decide_eq_true (by omega)⟩
  exact ⟨_, _, d1, d2, s1, s2, k _ _ F H hq New.refl rfl⟩
theorem o_neT {C : CA} {K : PySem.W.Frag} : OP C (rNeD K) (fun (x y : Dv) Q => pEqT x y fun b => Q (!b)) := fun F H v w x y Qp Q h1 h2 ⟨⟨c1, c2⟩, ⟨c3, c4⟩, hq⟩ k => by
  obtain ⟨d1, e1⟩ := Dv.dp (K := K) x h1 c1
  obtain ⟨d2, e2⟩ := Dv.dp (K := K) y h2 c3
  have s1 : SeqAt.shaped (Dv.enc x) = true := by unfold SeqAt.shaped; rw [Bool.and_eq_true]; exact ⟨e1, decide_eq_true (by omega)⟩
  have s2 : SeqAt.shaped (Dv.enc y) = true := by unfold SeqAt.shaped; rw [Bool.and_eq_true]; exact ⟨e2, decide_eq_true (by omega)⟩
  exact ⟨_, _, d1, d2, s1, s2, k _ _ F H hq New.refl (by show V.bl _ = V.bl _; rfl)⟩
/-- a power that is not reckoned out -/
@[irreducible] def pw (i j : Int) : Int := i ^ j.toNat
theorem pw_eq (i j : Int) : pw i j = i ^ j.toNat := by unfold pw; rfl
theorem o_powI {C : CA} : OP C oPow (fun (i j : Int) Q => CPow i j ∧ Q (pw i j)) := fun F H v w x y Qp Q h1 h2 hq k => o_pow F H v w x y Qp Q h1 h2 ⟨hq.1, by rw [← pw_eq]; exact hq.2⟩ k
end QV

namespace QV
open PySem PySem.Spec PyProof.Rows L2 QW
/-! ### a dict told pair by pair, whatever its keys are -/
/-- kind of a dict: how the new one is told, what a store makes of it -/
structure DKd where
  ini : Addr → HO
  put : Hp → Addr → V → V → Hp → Prop
def tDcG (k : DKd) (wi : TI) (g : TG) (tk tv : TE) (vs : List Nat) : TE := fun σ H Q => wi σ H fun J H1 => ∀ D, H1 D = none →
  ∃ (n : Nat) (W : Nat → Hp → Prop), W 0 (upd H1 D (k.ini D)) ∧ (∀ i H2, i < n → W i H2 → J.go i H2 ∧ ∀ x H3, J.yld i H2 x H3 → g x (wipe σ vs) H3 fun σ4 H4 => wipe σ4 vs = wipe σ vs ∧
    tk σ4 H4 fun y H5 => tv σ4 H5 fun z H6 => ∃ H7, k.put H6 D y z H7 ∧ W (i + 1) H7) ∧ ∀ H2, W n H2 → J.stop n H2 ∧ Q (.ref D) H2
structure DKdOk (X : Cx) (k : DKd) : Prop where
  new : ∀ {H : Hp} (h : Heap), sysModules < h.objs.size → ObjOk X.prog X.w H (h.push { cls := .type "dict", data := .dict #[] }) h.objs.size (k.ini h.objs.size)
  set : ∀ {Y : Cx} {pins : List (Addr × Obj)} {σ : L2.St} {H H' : Hp} {s : Shared} {D : Addr} {y v : V} {u r : Value} {Q : Unit → Shared → Prop} {E : Value → Shared → Prop}, Y.prog = X.prog → Y.w = X.w → Y.A = X.A → Inv Y pins σ H s → k.put H D y v H' → RelV y u → RelV v r →
    (∀ s', Inv Y pins σ H' s' → Q () s') → wpAny (model Y.prog Y.w) Y.A (dictSet D u r) Q E s
/-- keys: tuples of ints and texts -/
def kdT : DKd := ⟨fun _ => .dT [], fun H D y v H' => ∃ kvs k b, H D = some (.dT kvs) ∧ y = .ref b ∧ H b = some (.tup (k.map kV)) ∧ kvs.length < sizeLine ∧ H' = upd H D (.dT (putK kvs k v))⟩
theorem kdT_ok {X : Cx} (hu : X.A.units + 1 < cLine) : DKdOk X kdT := by
  refine ⟨fun h hb => dt_empty h hb, fun {Y pins σ H H' s D y v u r Q E} e1 e2 e3 I hp ry rv h => ?_⟩
  obtain ⟨kvs, k, b, eD, rfl, eb, hl, rfl⟩ := hp
  have eu : u = Value.ref b := ry
  subst eu
  obtain ⟨z, hd, xs, rel, dd⟩ := dt_of I.hok eD
  have hz : xs.length ≤ sizeLine := by rw [← Paired.length rel]; exact z
  have hl2 : (putK kvs k v).length ≤ sizeLine := by have := length_putK kvs k v; omega
  refine wpAny_dictSet_heap (hsz := hz) (knd := tupleKind (mixKind Y.prog Y.w)) (by rw [e3]; exact Nat.lt_of_succ_lt hu) (key_of I.hok eb) dd fun h' dd' hs => h _ ?_
  obtain ⟨q, es, ep, hq, h2, h3, h4, _, h5⟩ := dd'
  refine d_write I (by rw [eD]; exact True.intro) hs ⟨q, hq⟩ ⟨hl2, hd, _, (rel.put k eb rv).keeps fun c ys ec => ?_, q, es, ep, hq, h2, h3, h4, h5⟩
  rw [upd_ne (ne_of ec eD (fun z => nomatch z))]
  exact ec
section
variable {X : Cx} {k : DKd} {kx vx tg iter : Expr} {scope : Scope} {own : List (Str × Nat)} {pos : Pos} {wi : TI} {g : TG} {tk tv : TE}
theorem pe_dcG (ko : DKdOk X k) (hc : X.calm = true) (hN : X.N.Nodup) (hi : PI X tg iter wi) (ok : BlkOk X.N X.env.scope scope own)
    (hg : ∀ (s : Shared) (H : Hp) (C : Addr) (cl : List (Str × Addr)) (fp : List Addr), PG (X.blk s H scope (compEnvC scope cl C X.env) fp) tg g)
    (hk : ∀ (s : Shared) (H : Hp) (C : Addr) (cl : List (Str × Addr)) (fp : List Addr), PE (X.blk s H scope (compEnvC scope cl C X.env) fp) kx tk)
    (hv : ∀ (s : Shared) (H : Hp) (C : Addr) (cl : List (Str × Addr)) (fp : List Addr), PE (X.blk s H scope (compEnvC scope cl C X.env) fp) vx tv) (hs : ∀ x, foldedSetIterable iter X.env x = pure x := by intro _; rfl) :
    PE X (.DictComp kx vx [⟨tg, iter, [], 0⟩] scope pos) (tDcG k wi g tk tv (own.map (·.2))) := by
  constructor
  intro pins s σ H Q I h
  rw [arm_eval_DictComp]
  have free : ∀ y ∈ scope.names, y.2 = .free → ∃ c, X.env.cells.lookup y.1 = some c := fun y hy e => (ok.free y hy e).elim (fun z => I.ok.has _ (.inl z)) fun z => I.ok.has _ (.inr z)
  refine wpAny_comprehension_free (use := none) rfl hs (closure_ok free) ok.kind (fun y hy e => by rw [ok.uniq y hy, e]) (thn (hi.run pins s σ H _ I h) fun xv s1 hx => thn hx fun itv s2 h2 => ?_)
  obtain ⟨it, fp, tn, J, H2, rfl, I2, T, st2, f2, q⟩ := h2
  refine wpAny_newObj_type (newEnv_comp ?_)
  obtain ⟨D, hD⟩ : ∃ D, s2.heap.objs.size = D := ⟨_, rfl⟩
  rw [hD]
  obtain ⟨n, W, w0, turn, done⟩ := q D (I2.hok.fresh (Nat.le_of_eq hD))
  obtain ⟨s3, hs3⟩ : ∃ s3 : Shared, s3 = { s2 with heap := s2.heap.push { cls := .type "dict", data := .dict #[] } } := ⟨_, rfl⟩
  obtain ⟨H3, hH3⟩ : ∃ H3, H3 = upd H2 D (k.ini D) := ⟨_, rfl⟩
  have big : s2.heap.objs.size < s3.heap.objs.size := by rw [hs3, Heap.size_push]; exact Nat.lt_succ_self _
  have grow : ∀ b o, s2.heap.get? b = some o → s3.heap.get? b = some o := fun b o e => by rw [hs3]; exact Heap.get?_push_of_some _ e
  have I3 : Inv X pins σ H3 s3 := by
    rw [hs3, hH3]
    exact I2.laid (t' := s2.toks) (fun b o e => Heap.get?_push_of_some _ e) (Nat.le_of_eq hD) (by rw [← hD]; exact ko.new _ I2.big)
  have lt : ∀ b ∈ fp, b < s2.heap.objs.size := fun b hb => let ⟨_, e, _⟩ := T.obj _ _ st2 b hb; Heap.lt_size e
  have f3 : ∀ b ∈ fp, FpOk X pins H3 b ∧ b < s3.heap.objs.size := fun b hb =>
    ⟨⟨by rw [hH3, upd_ne (by rw [← hD]; exact Nat.ne_of_lt (lt b hb))]; exact (f2 b hb).1, (f2 b hb).2⟩, Nat.lt_trans (lt b hb) big⟩
  have I4 := block_start I3 ok hN f3
  obtain ⟨ce, hce⟩ : ∃ ce, ce = compEnvC scope (cellsFrom (s3.heap.objs.size + 1) scope.names (cloFrom X.env.cells scope.names [])) s3.heap.objs.size X.env := ⟨_, rfl⟩
  obtain ⟨s4, hs4⟩ : ∃ s4 : Shared, s4 = { s3 with heap := pushCells (s3.heap.push { cls := .type "dict", data := .dict #[] }) scope.names } := ⟨_, rfl⟩
  have pg := hg s3 H3 s3.heap.objs.size (cellsFrom (s3.heap.objs.size + 1) scope.names (cloFrom X.env.cells scope.names [])) fp
  have pk := hk s3 H3 s3.heap.objs.size (cellsFrom (s3.heap.objs.size + 1) scope.names (cloFrom X.env.cells scope.names [])) fp
  have pv := hv s3 H3 s3.heap.objs.size (cellsFrom (s3.heap.objs.size + 1) scope.names (cloFrom X.env.cells scope.names [])) fp
  rw [← hce] at I4 pg pk pv
  rw [← hs4] at I4
  have cL : ce.locals = s3.heap.objs.size := by rw [hce]; rfl
  have st4 : tn 0 s4.heap := T.keep _ _ _ (T.keep _ _ _ st2 fun b _ o e => grow b o e) fun b _ o e => by rw [hs4]; exact pushCells_keeps _ _ _ _ (Heap.get?_push_of_some _ e)
  have fpo : ∀ {σ' : L2.St} {H' : Hp} {s' : Shared}, Inv (X.blk s3 H3 scope ce fp) [] σ' H' s' → (∀ b ∈ fp, H' b = none) → ∀ b ∈ fp, FpOk (X.blk s3 H3 scope ce fp) [] H' b := fun I' hn b hb =>
    ⟨hn b hb, (I'.ok.exf b hb).1, I'.ok.exfs b hb, .inl hb, fun x c e => (I'.ok.exf b hb).2 x c e, fun p hp => absurd (show p ∈ ([] : List (Addr × Obj)) ++ [] from hp) (by simp)⟩
  have loop : codeAny (model X.prog X.w) X.A (.compLoop (.DictComp kx vx [⟨tg, iter, [], 0⟩] scope pos) 0 (.ref it) (.ref D) ce) (compPost (model X.prog X.w) X.A X.xe none (EP X pins σ Q) (.ref D) s3.heap.objs.size) s4 := by
    refine compLoop_anyD (fun m s' => ∃ i H', m = n - i ∧ i ≤ n ∧ Inv (X.blk s3 H3 scope ce fp) [] (wipe σ (own.map (·.2))) H' s' ∧ tn i s'.heap ∧ (∀ b ∈ fp, H' b = none) ∧ W i H') ?_ n ⟨0, H3, rfl, Nat.zero_le _, I4, st4, fun b hb => (f3 b hb).1.1, by rw [hH3]; exact w0⟩
    rintro m s5 ⟨i, H5, rfl, hin, I5, st5, n5, w5⟩
    by_cases hlt : i < n
    · obtain ⟨go, step⟩ := turn i H5 hlt w5
      refine thnF (T.item (X.blk s3 H3 scope ce fp) rfl rfl rfl hc i [] s5 _ H5 (fun _ _ => False) I5 (fpo I5 n5) st5 go) fun r s6 ⟨u, hr, h6⟩ => ?_
      subst hr
      refine thnF h6 fun _ s7 ⟨x, H7, I7, r7, y7, st7, n7⟩ => ?_
      refine thnF (pg.run _ s7 _ H7 x u _ (I7.pinned (fpo I7 n7) (T.obj _ _ st7)) r7 (step x H7 y7)) fun _ s8 ⟨σ8, H8, I8, hw8, q8⟩ => ?_
      refine wpAny_pure ?_
      show if true = true then _ else _
      rw [if_pos rfl]
      refine thnF (pk.run _ s8 σ8 H8 _ I8 q8) fun z s9 ⟨ky, H9, I9, r9, q9⟩ => thnF (pv.run _ s9 σ8 H9 _ I9 q9) fun z2 s10 ⟨vy, H10, I10, r10, H11, hput, w11⟩ => ?_
      refine ko.set (Y := X.blk s3 H3 scope ce fp) rfl rfl rfl I10 hput r9 r10 fun s11 I11 => ⟨n - (i + 1), by omega, i + 1, H11, rfl, hlt, ?_, ?_, ?_, w11⟩
      · refine (I11.unpinned (pins := [])).weak (by rw [← hw8, wipe_length]) fun j v e => ?_
        rw [← hw8] at e
        exact (wipe_some e).1
      · exact T.keep _ _ _ st7 fun b hb o e => (I11.pin (b, o) (List.mem_append_right _ (List.mem_append_right _ (mem_pinsAt hb e)))).1
      · intro b hb
        obtain ⟨o, e, _⟩ := T.obj _ _ st7 b hb
        exact (I11.pin (b, o) (List.mem_append_right _ (List.mem_append_right _ (mem_pinsAt hb e)))).2.1
    · obtain rfl : i = n := by omega
      obtain ⟨stop, qq⟩ := done H5 w5
      refine thnF (T.done (X.blk s3 H3 scope ce fp) rfl rfl rfl hc i [] s5 _ H5 (fun _ _ => False) I5 (fpo I5 n5) st5 stop) fun r s6 ⟨hr, I6⟩ => ?_
      subst hr
      have I7 : Inv X pins σ H5 s6 := I3.call' (ch := fp) I6.os I6.base I6.hok I6.bare fun b hb => ⟨(f3 b hb).1.2.2.2.1, (f3 b hb).1.2.1, (f3 b hb).1.2.2.2.2.1, (f3 b hb).1.2.2.2.2.2⟩
      have nC : H5 s3.heap.objs.size = none := by rw [← cL]; exact I6.free
      obtain ⟨m, hn, _⟩ := I6.loc
      refine ⟨m, by rw [← cL]; exact hn, fun h'' sb => ?_⟩
      obtain ⟨g0, g1, g2, g3, g4, g5⟩ := I3.fpOk (Nat.le_refl _) nC
      exact ⟨.ref D, H5, I7.turned (t' := s6.toks) (fun b o hb e => (sb.2 b hb).trans e) g0 g1 g3 g4 g5, rfl, qq⟩
  rw [← hs3, ← hs4]
  show codeAny _ _ (.compStart (.DictComp kx vx [⟨tg, iter, [], 0⟩] scope pos) 0 (.ref it) (.ref D) (compEnvC scope (cellsFrom (s3.heap.objs.size + 1) scope.names (cloFrom X.env.cells scope.names [])) s3.heap.objs.size X.env)) (compPost (model X.prog X.w) X.A X.xe none (EP X pins σ Q) (.ref D) s3.heap.objs.size) s4
  rw [← hce]
  exact codeAny_compStart_dict loop (T.self X.A 0 _ _ _ st4 loop)
end
/-! ### a dict as data: pairs of whole numbers to whole numbers -/
structure Dp where
  f : Int × Int → Option Int
def kp (j : Int × Int) : List Key := [.inl j.1, .inl j.2]
theorem kp_inj {i j : Int × Int} (h : kp i = kp j) : i = j := by
  unfold kp at h
  simp only [List.cons.injEq, Sum.inl.injEq, and_true] at h
  exact Prod.ext h.1 h.2
theorem kp_kV (j : Int × Int) : (kp j).map kV = [V.int j.1, V.int j.2] := rfl
def Dp.nil : Dp := ⟨fun _ => none⟩
def Dp.put (d : Dp) (p : (Int × Int) × Int) : Dp := ⟨fun j => if j = p.1 then some p.2 else d.f j⟩
def Dp.of (ps : List ((Int × Int) × Int)) : Dp := ps.foldl Dp.put Dp.nil
theorem Dp.of_snoc (ps : List ((Int × Int) × Int)) (p : (Int × Int) × Int) : Dp.of (ps ++ [p]) = (Dp.of ps).put p := by unfold Dp.of; rw [List.foldl_append]; rfl
instance : Rp Dp := ⟨fun _ F H v y => ∃ a kvs, v = .ref a ∧ F a ∧ H a = some (.dT kvs) ∧ ∀ j, valV kvs (kp j) = (y.f j).map V.int,
  fun g ⟨a, kvs, e, f, h, hv⟩ => ⟨a, kvs, e, (g _ _ f h).1, (g _ _ f h).2, hv⟩⟩
section
variable {G : Gx} {sl : List Sl} {K : PySem.W.Frag} {D : Ends} {X : Type} [Rp X]
/-- d.get(pair, else) -/
theorem re_dpGet2 {to ti td : TE} {o : PT Dp} {n : PT (Int × Int)} {m : PT Int} (ho : RE G sl to o) (h : RE G sl ti n) (hd : RE G sl td m) : RE G sl (tDGet2 to ti td) (fun Q => o fun d => n fun j => m fun y => Q ((d.f j).getD y)) := fun σ A F H Qp Q E hm k =>
  ho σ A F H _ _ E hm fun d u F1 H1 q1 g1 E1 r1 => by
    obtain ⟨x, kvs, rfl, fx, hx, hv⟩ := r1
    refine ⟨x, rfl, .inr ⟨kvs, .inl hx⟩, h σ A F1 H1 _ _ E1 q1 fun j v F2 H2 q2 g2 E2 r2 => hd σ A F2 H2 _ _ E2 q2 fun y w F3 H3 q3 g3 E3 r3 => ?_⟩
    have r2' := Rp.mono g3.ge r2
    obtain ⟨b, u1, u2, rfl, fb, hb, h1, h2⟩ := r2'
    have h1 : u1 = .int j.1 := h1
    have h2 : u2 = .int j.2 := h2
    have r3 : w = .int y := r3
    subst h1 h2 r3
    have hx3 : H3 x = some (.dT kvs) := ((g2.trans g3).ge _ _ fx hx).2
    refine ⟨valV kvs (kp j), .inr ⟨kvs, kp j, b, .inl hx3, rfl, hb, rfl⟩, k _ _ _ _ q3 ((g1.trans g2).trans g3) E3 ?_⟩
    rw [hv]
    cases d.f j <;> rfl
theorem dc_pt {vs : List Nat} {g : TG} {tk tv : TE} {B : Type} {sl' : X → B → List Sl} {n : X → PT B} {ek : X → B → PT (Int × Int)} {ev : X → B → PT Int} {σ : L2.St} {A : Nat → List Addr} {F1 : Rg} {H1 : Hp} {J : It} {xs : List X} {Qp : Dp → Prop} {Q : VK} (hv : ∀ v ∈ vs, NotOwn sl v)
    (ht : ∀ x, RT G (wipeS sl vs) vs g x (sl' x) (n x)) (hk : ∀ x b, RE G (sl' x b) tk (ek x b)) (he : ∀ x b, RE G (sl' x b) tv (ev x b)) (E1 : Env G sl σ A F1 H1) (w : WOk G.C (fun F2 H2 => Ge F1 H1 F2 H2 ∧ Env G sl σ A F2 H2) J xs) (hz : Sz xs.length)
    (q1 : lcP xs (fun x R => n x fun b => ek x b fun j => ev x b fun y => R (some (j, y))) fun zs => Qp (Dp.of zs)) (k : ∀ d v F' H', Qp d → Gk A F1 H1 F' H' → Env G sl σ A F' H' → Rp.rp G.C F' H' v d → Q v H') : tDcG kdT (fun _ H R => R J H) g tk tv vs σ H1 Q := by
    intro D hD
    obtain ⟨Gd, Y', hW, hP, hY⟩ := w.ex
    have hDA : ∀ i, D ∉ A i := fun i hi => E1.live hi hD
    have hD0 : G.H0 D = none := E1.ok.live _ hD
    have hDF : ¬ F1 D := fun f => E1.ok.al _ f hD
    refine ⟨xs.length, fun i H2 => ∃ F2 acc kvs, Gk A F1 H1 F2 H2 ∧ Env G sl σ A F2 H2 ∧ ¬ F2 D ∧ H2 D = some (.dT kvs) ∧ kvs.length ≤ i ∧ i ≤ xs.length ∧ (∀ j, valV kvs (kp j) = ((Dp.of acc).f j).map V.int) ∧
      lcP (xs.drop i) (fun x R => n x fun b => ek x b fun j => ev x b fun y => R (some (j, y))) (fun zs => Qp (Dp.of (acc ++ zs))), ?_, ?_, ?_⟩
    · have nw : New F1 H1 F1 (upd H1 D (.dT [])) := New.same' (same_upd hD)
      exact ⟨F1, [], [], nw.gk, E1.newk nw, hDF, upd_same, Nat.le_refl _, Nat.zero_le _, fun j => rfl, by simpa using q1⟩
    · rintro i H2 hi ⟨F2, acc, kvs, g2, E2, nD, eD, hl, hi2, hvv, q⟩
      refine ⟨hW.goes i H2 hi (hP F2 H2 ⟨g2.ge, E2⟩), fun x H3 hy => ?_⟩
      obtain ⟨F3, y, ey, n3, r3⟩ := hY i H2 x H3 F2 ⟨g2.ge, E2⟩ (hW.yields i H2 x H3 hi (hP F2 H2 ⟨g2.ge, E2⟩) hy)
      have E3 := E2.newk n3
      have g3 : Gk A F1 H1 F3 H3 := g2.trans n3.gk
      have nD3 : ¬ F3 D := fun f => by
        rcases n3.new D f with f | f
        · exact nD f
        · rw [eD] at f; cases f
      have eD3 : H3 D = some (.dT kvs) := n3.same _ _ eD
      have ed : xs.drop i = y :: xs.drop (i + 1) := by
        obtain ⟨hlt, rfl⟩ := List.getElem?_eq_some_iff.mp ey
        exact List.drop_eq_getElem_cons hlt
      rw [ed] at q
      obtain ⟨Ew, bw⟩ := E3.wiped hv
      refine ht y (wipe σ vs) A F3 H3 x _ _ Ew r3 q fun b σ4 q4 E4 b4 w4 => ⟨by rw [w4, wipe_wipe vs fun _ h => h], ?_⟩
      refine hk y b σ4 A F3 H3 _ _ E4 q4 fun j u F5 H5 q5 g5 E5 r5 => he y b σ4 A F5 H5 _ _ E5 q5 fun c u2 F6 H6 q6 g6 E6 r6 => ?_
      have r5' := Rp.mono g6.ge r5
      obtain ⟨bk, u3, u4, rfl, fb, hb, h1, h2⟩ := r5'
      have h1 : u3 = .int j.1 := h1
      have h2 : u4 = .int j.2 := h2
      have r6 : u2 = .int c := r6
      subst h1 h2 r6
      have g56 := g5.trans g6
      have E7 := bw F6 H6 g56.ge (b4 F6 H6 g56.ge E6)
      have eD6 : H6 D = some (.dT kvs) := g56.kp _ _ hDA eD3
      have nD6 : ¬ F6 D := fun f => by
        rcases g56.new D f with f | f
        · exact nD3 f
        · rw [eD3] at f; cases f
      obtain ⟨E8, g8⟩ := E7.loc (o := .dT (putK kvs (kp j) (V.int c))) hDA nD6 (.inr hD0)
      have lt : kvs.length < sizeLine := by
        have := hz.lt
        omega
      refine ⟨_, ⟨kvs, kp j, bk, eD6, rfl, hb, lt, rfl⟩, F6, acc ++ [(j, c)], _, (g3.trans g56).loc hD nD6, E8, nD6, upd_same, ?_, by omega, fun i2 => ?_, by simpa [List.append_assoc] using q6⟩
      · have := length_putK kvs (kp j) (V.int c)
        omega
      · rw [valV_put, hvv, Dp.of_snoc]
        show _ = (if i2 = j then some c else (Dp.of acc).f i2).map V.int
        by_cases e : i2 = j
        · subst e; simp
        · rw [if_neg (fun z => e (kp_inj z)), if_neg e]
    · rintro H2 ⟨F2, acc, kvs, g2, E2, nD, eD, hl, hi2, hvv, q⟩
      refine ⟨hW.stops H2 (hP F2 H2 ⟨g2.ge, E2⟩), ?_⟩
      rw [List.drop_length] at q
      have q : Qp (Dp.of (acc ++ [])) := q
      rw [List.append_nil] at q
      obtain ⟨E3, g3⟩ := E2.freeze (by rw [eD]; exact fun z => by cases z) hD0 hDA
      refine k (Dp.of acc) _ _ H2 q ⟨g2.ge.trans g3, g2.kp, g2.fr, fun b f => ?_⟩ E3 ⟨D, kvs, rfl, .inr rfl, eD, hvv⟩
      rcases f with f | rfl
      · exact g2.new b f
      · exact .inr hD
/-- {k: v for .. in ..}, keys pairs of whole numbers, values whole numbers -/
theorem re_dcP {vs : List Nat} {wi : TI} {g : TG} {tk tv : TE} {m : PT (List X)} {B : Type} {sl' : X → B → List Sl} {n : X → PT B} {ek : X → B → PT (Int × Int)} {ev : X → B → PT Int} (hw : RWo G sl wi m) (hv : ∀ v ∈ vs, NotOwn sl v)
    (ht : ∀ x, RT G (wipeS sl vs) vs g x (sl' x) (n x)) (hk : ∀ x b, RE G (sl' x b) tk (ek x b)) (he : ∀ x b, RE G (sl' x b) tv (ev x b)) :
    RE G sl (tDcG kdT wi g tk tv vs) (fun Q => m fun xs => Sz xs.length ∧ lcP xs (fun x R => n x fun b => ek x b fun j => ev x b fun y => R (some (j, y))) fun zs => Q (Dp.of zs)) := fun σ A F H Qp Q E hm k =>
  hw σ A F H _ _ E hm fun xs F1 H1 J q1 g1 E1 w => dc_pt hv ht hk he E1 w q1.1 q1.2 fun d v F2 H2 q2 g2 E2 r2 => k d v F2 H2 q2 (g1.trans g2) E2 r2
/-- xs[i][j] = v, a list of lists of one's own -/
theorem rb_setLL {te ti tj : TE} {i : Nat} {l : LL X} {m : PT X} {n n2 : PT Int} {w : X → Nat → Nat → Prop} (hi : sl[i]? = some (.own l)) (h : RE G sl te m) (h1 : RE G sl ti n) (h2 : RE G sl tj n2)
    (k : ∀ y q t, RB G (sl.set i (.own (LL.mk (l.l.set q ((l.l.getD q []).set t y))))) D.nx (w y q t)) :
    RB G sl (tAsg te (gSub (tOp (rIxL K) (tVar i) ti) tj rSetL) D) (m fun y => n fun z => ∃ q, ixN l.l.length z = some q ∧ n2 fun z2 => ∃ t, ixN (l.l.getD q []).length z2 = some t ∧ w y q t) := fun σ A F H E hm =>
  h σ A F H _ _ E hm fun y u F1 H1 q1 g1 E1 r1 => by
    obtain ⟨a0, bs0, s1, _⟩ := E1.ownLL hi
    refine ⟨_, s1, h1 σ A F1 H1 _ _ E1 q1 fun z u2 F2 H2 q2 g2 E2 r2 => ?_⟩
    subst r2
    obtain ⟨q, ez, q2⟩ := q2
    obtain ⟨a, bs, s2, e2, nd, ha, hl⟩ := E2.ownLL hi
    rw [s1] at s2
    cases s2
    obtain ⟨b, x, vs, eb, ex, hb, rl⟩ := hl.get (j := q) (ixN_lt ez)
    refine i_ixL ha (v := .ref b) (by rw [atI_map (j := q) (by rw [hl.length]; exact ez), eb]; rfl) ?_
    refine h2 σ A F2 H2 _ _ E2 q2 fun z2 u3 F3 H3 q3 g3 E3 r3 => ?_
    subst r3
    obtain ⟨t, et, hw⟩ := q3
    obtain ⟨a', bs', s3, e3, nd3, ha3, hl3⟩ := E3.ownLL hi
    rw [s1] at s3
    cases s3
    have eqb : bs = bs' := by
      rw [e2] at e3
      exact (List.cons.inj e3).2
    subst eqb
    obtain ⟨b', x', vs', eb', ex', hb', rl'⟩ := hl3.get (j := q) (ixN_lt ez)
    rw [eb] at eb'
    cases eb'
    have gx : l.l.getD q [] = x' := by rw [List.getD_eq_getElem?_getD, ex']; rfl
    rw [gx] at et
    obtain ⟨E4, g4⟩ := own_turnLL (l := l) (j := q) E3 hi s1 e3 nd3 ha3 hl3 eb (RpL.set (Rp.mono (g2.trans g3).ge r1) t rl')
    refine ⟨b, vs', z2, t, rfl, rfl, hb', by rw [rl'.length]; exact et, ?_⟩
    have := k y q t
    rw [gx] at this
    exact this σ A F3 _ E4 hw
end
/-! ### zip of a tuple with a list -/
section
variable {P : Program} {w : World} {K : PySem.W.Frag}
def ItzM (K : PySem.W.Frag) (a b : Addr) : It :=
  ⟨fun i H => ∃ (xs ys : List V) (x y : V), SqT K H a xs ∧ SqL K H b ys ∧ xs[i]? = some x ∧ ys[i]? = some y,
    fun i H v H' => ∃ T x y, v = .ref T ∧ H T = none ∧ H' = upd H T (.tup [x, y]) ∧ (∀ xs, SqT K H a xs → xs[i]? = some x) ∧ ∀ ys, SqL K H b ys → ys[i]? = some y,
    fun i H => ∃ xs ys : List V, SqT K H a xs ∧ SqL K H b ys ∧ i = min xs.length ys.length⟩
theorem turn_zipM {elts : List Expr} {kk : Nat} {tpos : Pos} {a b z TI TO i1 i2 : Addr} (D : ZipSep2 z TI TO i1 i2 [i1, a] [i2, b]) (na : a ≠ i1) (nb : b ≠ i2) :
    Turn P w K (.Tuple elts kk tpos) (ItzM K a b) [z, TI, TO, i1, i2] z (fun i h => IsZip h z TI TO .none ∧ IsTupOf2 h TI (.ref i1) (.ref i2) ∧ (∃ x y, IsTupOf2 h TO x y) ∧ h.IsTupleIter i1 a i ∧ h.IsListIter i2 b i) where
  mem := by simp
  obj := fun i h st c hc => by
    obtain ⟨hz, hTI, ⟨x, y, hTO⟩, ⟨o1, e1, _, d1⟩, ⟨o2, e2, _, d2⟩⟩ := st
    simp only [List.mem_cons, List.not_mem_nil, or_false] at hc
    rcases hc with rfl | rfl | rfl | rfl | rfl
    · exact ⟨_, hz, fun v q => nomatch q⟩
    · exact ⟨_, hTI, fun v q => nomatch q⟩
    · exact ⟨_, hTO, fun v q => nomatch q⟩
    · exact ⟨o1, e1, fun v q => by rw [d1] at q; cases q⟩
    · exact ⟨o2, e2, fun v q => by rw [d2] at q; cases q⟩
  keep := fun i h h' st k => by
    obtain ⟨hz, hTI, ⟨x, y, hTO⟩, h1, h2⟩ := st
    exact ⟨k z (by simp) _ hz, k TI (by simp) _ hTI, ⟨x, y, k TO (by simp) _ hTO⟩, h1.at fun o q => k i1 (by simp) o q, h2.at fun o q => k i2 (by simp) o q⟩
  item := by
    intro X hP hw hK hc i pins s σ H E I hf st hg
    subst hP hw hK
    obtain ⟨hz, hTI, ⟨x0, y0, hTO⟩, h1, h2⟩ := st
    obtain ⟨xs, ys, x, y, hqx, hqy, hx, hy⟩ := hg
    obtain ⟨its, rv, p, _⟩ := I.tuple hqx
    obtain ⟨its2, rv2, p2, _⟩ := I.list hqy
    obtain ⟨u, hu, ru⟩ := rv.get hx
    obtain ⟨u2, hu2, ru2⟩ := rv2.get hy
    have hh : X.A.in1.handled = none := I.ok.hd hc
    have W := GoesN.zip2 (prog := X.prog) (w := X.w) (A := X.A) (elts := elts) (x1 := kk) (pos := tpos) D (Draws.tuple hh i1 a na its.toArray) (Draws.list hh i2 b nb its2.toArray)
    have li : i < min its.toArray.size its2.toArray.size := by
      have a1 := (List.getElem?_eq_some_iff.mp hu).1
      have a2 := (List.getElem?_eq_some_iff.mp hu2).1
      simp only [List.size_toArray]
      omega
    refine thn (W.goes i s (fun v s2 => ∃ x H', Inv X pins σ H' s2 ∧ RelV x v ∧ (ItzM X.K a b).yld i H x H' ∧ (IsZip s2.heap z TI TO .none ∧ IsTupOf2 s2.heap TI (.ref i1) (.ref i2) ∧ (∃ x y, IsTupOf2 s2.heap TO x y) ∧ s2.heap.IsTupleIter i1 a (i + 1) ∧ s2.heap.IsListIter i2 b (i + 1)) ∧ ∀ b ∈ [z, TI, TO, i1, i2], H' b = none) E li ⟨hz, hTI, ⟨x0, y0, hTO⟩, ⟨h1, p⟩, ⟨h2, p2.isList⟩⟩ fun v h' tk hY st' hk htk => ?_) fun r s1 hr => hr
    obtain ⟨T, u', u2', rfl, hT, e1, e2, hTup⟩ := hY
    have e1' : its[i]? = some u' := by simpa using e1
    have e2' : its2[i]? = some u2' := by simpa using e2
    rw [hu] at e1'
    rw [hu2] at e2'
    cases e1'
    cases e2'
    have hnew : ObjOk X.prog X.w (upd H T (.tup [x, y])) h' T (.tup [x, y]) := ⟨by show 2 ≤ sizeLine; decide, [u, u2], .cons ru (.cons ru2 .nil), hTup⟩
    have I1 : Inv X pins σ (upd H T (.tup [x, y])) { s with heap := h', toks := tk } :=
      I.turnedNew (ch := [z, TI, TO, i1, i2]) (fun c o hb q => hk c o (fun q' => hb (by simp only [List.mem_cons, List.not_mem_nil, or_false] at q' ⊢; rcases q' with e | e | e | e <;> simp [e])) q) hf hT hnew
    refine ⟨.ref T, _, I1, rfl, ⟨T, x, y, rfl, I.hok.fresh hT, rfl, fun l hl => by rw [I.tuple_inj hl hqx]; exact hx, fun l hl => by rw [I.list_inj hl hqy]; exact hy⟩, ⟨st'.1, st'.2.1, st'.2.2.1, st'.2.2.2.1.1, st'.2.2.2.2.1⟩, fun c hcm => ?_⟩
    have hlt : c < s.heap.objs.size := by
      simp only [List.mem_cons, List.not_mem_nil, or_false] at hcm
      rcases hcm with rfl | rfl | rfl | rfl | rfl
      · exact Heap.lt_size hz
      · exact Heap.lt_size hTI
      · exact Heap.lt_size hTO
      · obtain ⟨_, e1, _⟩ := h1; exact Heap.lt_size e1
      · obtain ⟨_, e2, _⟩ := h2; exact Heap.lt_size e2
    rw [upd_ne (Nat.ne_of_lt (Nat.lt_of_lt_of_le hlt hT))]
    exact (hf c hcm).1
  done := by
    intro X hP hw hK hc i pins s σ H E I hf st hg
    subst hP hw hK
    obtain ⟨hz, hTI, ⟨x0, y0, hTO⟩, h1, h2⟩ := st
    obtain ⟨xs, ys, hqx, hqy, rfl⟩ := hg
    obtain ⟨its, rv, p, _⟩ := I.tuple hqx
    obtain ⟨its2, rv2, p2, _⟩ := I.list hqy
    have hh : X.A.in1.handled = none := I.ok.hd hc
    have W := GoesN.zip2 (prog := X.prog) (w := X.w) (A := X.A) (elts := elts) (x1 := kk) (pos := tpos) D (Draws.tuple hh i1 a na its.toArray) (Draws.list hh i2 b nb its2.toArray)
    have en : min xs.length ys.length = min its.toArray.size its2.toArray.size := by rw [rv.length, rv2.length]; simp
    rw [en] at h1 h2
    exact W.stops s _ E ⟨hz, hTI, ⟨x0, y0, hTO⟩, ⟨h1, p⟩, ⟨h2, p2.isList⟩⟩ fun h' tk hk htk => I.turnedL (ch := [z, TI, TO, i1, i2]) (fun c o hb q => hk c o (fun q' => hb (by simp only [List.mem_cons, List.not_mem_nil, or_false] at q' ⊢; rcases q' with e | e | e | e <;> simp [e])) q) hf
  self := fun A i s Q E st h => wpAny_pyIter_zip st.1 h
def iZipM (K : PySem.W.Frag) (ta : TA) : TI := fun σ H R => ta σ H fun vs H1 => ∃ a b xs ys, vs = [.ref a, .ref b] ∧ SqT K H1 a xs ∧ SqL K H1 b ys ∧ R (ItzM K a b) H1
theorem vals2 {a b : Addr} {us : List Value} (r : Vals [V.ref a, V.ref b] us) : us = [Value.ref a, Value.ref b] := by
  cases r with
  | cons r rr =>
    cases rr with
    | cons r' rr =>
      cases rr
      cases r
      cases r'
      rfl
theorem pi_zipM {X : Cx} {e e2 : Expr} {ta : TA} {p pos tpos : Pos} {elts : List Expr} {kk : Nat} (hg : Gl X "zip") (hm : X.mg "zip" = none) (ha : PA X [e, e2] ta)
    (hs : starEach [e, e2] X.env = (false, eval e X.env) :: starEach [e2] X.env := by rfl) (hpl : (backTo pos (starEach [e2] X.env)).any (·.1) = false := by rfl) :
    PI X (.Tuple elts kk tpos) (.Call (.Name "zip" p) [e, e2] [] pos) (iZipM X.K ta) := by
  constructor
  intro pins s σ H R I h
  refine Call_ (ld_blt I hg hm PyProof.Rows.boot_zip (PyProof.Rows.callWith_type1 (thn (ha.run pos pins s σ H _ I h) fun us s1 ⟨vs, H1, I1, r1, q1⟩ => ?_) hs hpl))
  obtain ⟨a, b, xs, ys, rfl, hqx, hqy, q⟩ := q1
  have eu := vals2 r1
  subst eu
  obtain ⟨its, rv, p1, _⟩ := I1.tuple hqx
  obtain ⟨its2, rv2, p2, _⟩ := I1.list hqy
  obtain ⟨o1, ho1, _⟩ := id p1
  obtain ⟨o2, ho2, _⟩ := id p2
  have la : a < s1.heap.objs.size := Heap.lt_size ho1
  have lb : b < s1.heap.objs.size := p2.lt
  refine zip_begins2 (begins_tuple a its.toArray) (begins_list b its2.toArray) p1 p2.isList fun h' hz hTI hTO h1 h2 hsz hk => wpAny_pyIter_zip hz ?_
  have I2 : Inv X pins σ H1 { s1 with heap := h' } := I1.kept (t' := s1.toks) hk
  have fresh : ∀ c, c ∈ [s1.heap.objs.size + 4, s1.heap.objs.size + 2, s1.heap.objs.size + 3, s1.heap.objs.size, s1.heap.objs.size + 1] → FpOk X pins H1 c := fun c hcm => by
    have hle : s1.heap.objs.size ≤ c := by
      simp only [List.mem_cons, List.not_mem_nil, or_false] at hcm
      rcases hcm with rfl | rfl | rfl | rfl | rfl
      · exact Nat.le_add_right _ _
      · exact Nat.le_add_right _ _
      · exact Nat.le_add_right _ _
      · exact Nat.le_refl _
      · exact Nat.le_add_right _ _
    exact I1.fpOk hle (I1.hok.fresh hle)
  exact ⟨s1.heap.objs.size + 4, [s1.heap.objs.size + 4, s1.heap.objs.size + 2, s1.heap.objs.size + 3, s1.heap.objs.size, s1.heap.objs.size + 1], _, _, H1, rfl, I2,
    turn_zipM (zip_sep2 (fp1 := [a]) (fp2 := [b]) (fun c hc => by rw [List.mem_singleton.mp hc]; exact la) (fun c hc => by rw [List.mem_singleton.mp hc]; exact lb)) (Nat.ne_of_lt la) (Nat.ne_of_lt (Nat.lt_succ_of_lt lb)),
    ⟨hz, hTI, ⟨_, _, hTO⟩, ⟨_, h1, rfl, rfl⟩, ⟨_, h2, rfl, rfl⟩⟩, fresh, q⟩
end
section
variable {G : Gx} {sl : List Sl} {K : PySem.W.Frag} {X Y : Type} [Rp X] [Rp Y]
/-- what is walked turns something of one's own -/
def RWg (G : Gx) (sl : List Sl) (wi : TI) {B : Type} (sl' : B → List Sl) {X : Type} [Rp X] (val : B → List X) (m : PT B) : Prop := ∀ (σ : L2.St) (A : Nat → List Addr) (F : Rg) (H : Hp) (Qp : B → Prop) (R : It → Hp → Prop), Env G sl σ A F H → m Qp →
  (∀ b F1 H1 J, Qp b → Gk A F H F1 H1 → Env G (sl' b) σ A F1 H1 → WOk G.C (fun F2 H2 => Ge F1 H1 F2 H2) J (val b) → R J H1) → wi σ H R
theorem walk_zipM {n : Nat} {xs ys : List V} {a b : Addr} (hn : n = min xs.length ys.length) : Walk (ItzM K a b) n (fun H => SqT K H a xs ∧ SqL K H b ys) (YPair (fun i => xs[i]?) (fun i => ys[i]?)) := by
  subst hn
  refine ⟨fun i _ hi q => ?_, fun _ q => ⟨xs, ys, q.1, q.2, rfl⟩, fun i H v H' _ q y => ?_⟩
  · have h1 : i < xs.length := by omega
    have h2 : i < ys.length := by omega
    exact ⟨xs, ys, xs[i], ys[i], q.1, q.2, by simp [h1], by simp [h2]⟩
  · obtain ⟨T, x, z, h1, h2, h3, h4, h5⟩ := y
    exact ⟨T, x, z, h1, h2, h3, h4 xs q.1, h5 ys q.2⟩
/-- zip(a tuple, what a turning call gives: a list, not None) -/
theorem rwg_zipM {ta tb : TE} {B : Type} {sl' : B → List Sl} {val : B → Option (List Y)} {m : PT (Tu X)} {n : PT B} (h : RE G sl ta m) (h' : REG G sl tb sl' val n) :
    RWg G sl (iZipM K (tCons ta (tCons tb tNil))) (fun c : B × List (X × Y) => sl' c.1) (fun c => c.2) (fun Q => m fun xs => n fun b => ∃ ys, val b = some ys ∧ Q (b, xs.l.zip ys)) := fun σ A F H Qp R E hm k =>
  h σ A F H _ _ E hm fun xs v F1 H1 q1 g1 E1 r1 => h' σ A F1 H1 _ _ E1 q1 fun b w F2 H2 q2 g2 E2 r2 => by
    obtain ⟨ys, ey, q2⟩ := q2
    obtain ⟨a, vs, rfl, f, ha, hl⟩ := Rp.mono g2.ge r1
    rw [ey] at r2
    obtain ⟨c, ws, rfl, f', hb, hk⟩ := (show Rp.rp G.C F2 H2 w ys from r2)
    refine ⟨a, c, vs, ws, rfl, SqT.of ha, SqL.of hb, k (b, xs.l.zip ys) F2 H2 _ q2 (g1.trans g2) E2 ⟨fun H => H a = some (.tup vs) ∧ H c = some (.lst ws), YPair (fun i => vs[i]?) (fun i => ws[i]?), ?_, fun F H p => ⟨(p _ _ f ha).2, (p _ _ f' hb).2⟩, fun i H x H' F p y => ?_⟩⟩
    · have := walk_zipM (K := K) (a := a) (b := c) (xs := vs) (ys := ws) rfl
      rw [hl.length, hk.length] at this
      show Walk _ (xs.l.zip ys).length _ _
      rw [List.length_zip]
      exact this.mono (fun H h => ⟨SqT.of h.1, SqL.of h.2⟩) fun i H x H' _ _ y => y
    · obtain ⟨T, u, w, rfl, hT, rfl, e1, e2⟩ := y
      obtain ⟨z, h1, h2⟩ := hl.get e1
      obtain ⟨z', h1', h2'⟩ := hk.get e2
      obtain ⟨n, r⟩ := pair_new (C := G.C) hT (Rp.mono p h2) (Rp.mono p h2')
      exact ⟨_, _, by rw [List.getElem?_zip_eq_some]; exact ⟨h1, h1'⟩, n, r⟩
theorem RWg.re {wi : TI} {B : Type} {sl' : B → List Sl} {val : B → List X} {m : PT B} (h : RWg G sl wi sl' val m) {σ : L2.St} {A : Nat → List Addr} {F : Rg} {H : Hp} {Qp : B → Prop} {R : It → Hp → Prop} (E : Env G sl σ A F H) (hm : m Qp)
    (k : ∀ b F1 H1 J, Qp b → Gk A F H F1 H1 → Env G (sl' b) σ A F1 H1 → WOk G.C (fun F2 H2 => Ge F1 H1 F2 H2 ∧ Env G (sl' b) σ A F2 H2) J (val b) → R J H1) : wi σ H R :=
  h σ A F H Qp R E hm fun b F1 H1 J q g E1 w => k b F1 H1 J q g E1 (by
    obtain ⟨Gd, Y, h1, h2, h3⟩ := w.ex
    exact ⟨Gd, Y, h1, fun F H p => h2 F H p.1, fun i H x H' F p => h3 i H x H' F p.1⟩)
/-- {k: v for .. in what turns something} -/
theorem reg_dcP {vs : List Nat} {wi : TI} {g : TG} {tk tv : TE} {B0 : Type} {sl0 : B0 → List Sl} {val : B0 → List X} {m : PT B0} {B : Type} {sl' : B0 → X → B → List Sl} {n : X → PT B} {ek : X → B → PT (Int × Int)} {ev : X → B → PT Int} (hw : RWg G sl wi sl0 val m) (hv : ∀ b, ∀ v ∈ vs, NotOwn (sl0 b) v)
    (ht : ∀ b x, RT G (wipeS (sl0 b) vs) vs g x (sl' b x) (n x)) (hk : ∀ b x c, RE G (sl' b x c) tk (ek x c)) (he : ∀ b x c, RE G (sl' b x c) tv (ev x c)) :
    REG G sl (tDcG kdT wi g tk tv vs) (fun c : B0 × Dp => sl0 c.1) (fun c => c.2) (fun Q => m fun b => Sz (val b).length ∧ lcP (val b) (fun x R => n x fun c => ek x c fun j => ev x c fun y => R (some (j, y))) fun zs => Q (b, Dp.of zs)) := fun σ A F H Qp Q E hm k =>
  hw.re E hm fun b0 F1 H1 J q1 g1 E1 w => dc_pt (hv b0) (ht b0) (hk b0) (he b0) E1 w q1.1 q1.2 fun d v F2 H2 q2 g2 E2 r2 => k (b0, d) v F2 H2 q2 (g1.trans g2) E2 r2
end
section
variable {G : Gx} {sl : List Sl} {K : PySem.W.Frag} {X Y Z R : Type} [Rp X] [Rp Y] [Rp Z] [Rp R]
/-- f(x, what turns something, z) -/
theorem reg_call3 {wa : List Sl → PT R} {wf : X → Y → Z → PT R} {ta tb tc : TE} {m1 : PT X} {B : Type} {sl' : B → List Sl} {val : B → Y} {n : PT B} {m3 : B → PT Z} {E0' : XK} (hw : ∀ x y z Q, wf x y z Q → wa [.dat x, .dat y, .dat z] Q) (h1 : RE G sl ta m1) (h2 : REG G sl tb sl' val n) (h3 : ∀ b, RE G (sl' b) tc (m3 b)) :
    REG G sl (tCall (SpA G.C wa) [] E0' (tCons ta (tCons tb (tCons tc tNil)))) (fun c : B × R => sl' c.1) (fun c => c.2) (fun Q => m1 fun x => n fun b => m3 b fun z => wf x (val b) z fun r => Q (b, r)) := fun σ A F H Qp Q E hm k =>
  h1 σ A F H _ _ E hm fun x v F1 H1 q1 g1 E1 r1 => h2 σ A F1 H1 _ _ E1 q1 fun b u F2 H2 q2 g2 E2 r2 => h3 b σ A F2 H2 _ _ E2 q2 fun z w F3 H3 q3 g3 E3 r3 =>
    ⟨[.dat x, .dat (val b), .dat z], F3, fun r => Qp (b, r), ⟨Rp.mono (g2.trans g3).ge r1, Rp.mono g3.ge r2, r3, rfl⟩, E3.ok.al, hw _ _ _ _ q3, fun r v F4 H4 q4 p4 r4 => k (b, r) v F4 H4 q4 (((g1.trans g2).trans g3).trans p4.nw.gk) (E3.newk p4.nw) r4⟩
end
end QV

namespace QV
open PySem L2 QW
/-! ### lists of tuples with an item at least, sorted -/
def leA {X : Type} [Alk X] (x y : X) : Bool := PySem.W.dataLe false id (Dt.enc x) (Dt.enc y)
section
variable {G : Gx} {sl : List Sl} {K : PySem.W.Frag} {C : CA} {X : Type} [Dt X]
theorem zip_psA {F : Rg} {H : Hp} : ∀ {vs : List V} {xs : List X}, RpL C F H vs xs → ∃ ps : List (V × X), vs = ps.map (·.1) ∧ xs = ps.map (·.2) ∧ ∀ p ∈ ps, Rp.rp C F H p.1 p.2
  | [], [], _ => ⟨[], rfl, rfl, fun _ h => by cases h⟩
  | v :: vs, x :: xs, h => by
    obtain ⟨ps, e1, e2, h3⟩ := zip_psA h.2
    refine ⟨(v, x) :: ps, by simp [e1], by simp [e2], fun p hp => ?_⟩
    rcases List.mem_cons.mp hp with rfl | hp
    · exact h.1
    · exact h3 p hp
  | [], _ :: _, h => h.elim
  | _ :: _, [], h => h.elim
theorem rpl_psA {F : Rg} {H : Hp} : ∀ {ps : List (V × X)}, (∀ p ∈ ps, Rp.rp C F H p.1 p.2) → RpL C F H (ps.map (·.1)) (ps.map (·.2))
  | [], _ => trivial
  | p :: ps, h => ⟨h p List.mem_cons_self, rpl_psA fun q hq => h q (List.mem_cons_of_mem _ hq)⟩
end
section
variable {G : Gx} {sl : List Sl} {K : PySem.W.Frag} {C : CA} {X : Type} [Alk X]
theorem sorted_psN {F : Rg} {H : Hp} {vs : List V} {xs : List (Tu X)} (h : RpL C F H vs xs) (hn : ∀ x ∈ xs, x.l ≠ []) (h8 : Dt.dep (Tu X) ≤ 8) : ∃ bs : List (V × PyData), vs = bs.map Prod.fst ∧ (∀ b ∈ bs, L2.Dp K H b.1 b.2) ∧ PySem.W.AllAlike (bs.map Prod.snd) ∧ PySem.W.Sortable (bs.map Prod.snd) ∧ (∀ b ∈ bs, b.2.depth ≤ 8) ∧ RpL C F H ((bs.mergeSort (PySem.W.dataLe false Prod.snd)).map Prod.fst) (xs.mergeSort leA) := by
  obtain ⟨ps, rfl, rfl, h3⟩ := zip_psA h
  have es : (ps.map fun p : V × Tu X => (p.1, Dt.enc p.2)).map Prod.snd = (ps.map (·.2)).map Dt.enc := by rw [List.map_map, List.map_map]; rfl
  refine ⟨ps.map fun p => (p.1, Dt.enc p.2), by rw [List.map_map]; rfl, fun b hb => ?_, ?_, ?_, fun b hb => ?_, ?_⟩
  · obtain ⟨p, hp, rfl⟩ := List.mem_map.mp hb
    exact Dt.dp (h3 p hp)
  · rw [es]
    intro d hd d' hd'
    obtain ⟨x, _, rfl⟩ := List.mem_map.mp hd
    obtain ⟨y, _, rfl⟩ := List.mem_map.mp hd'
    exact Alk.alk x y
  · rw [es]
    refine .inl fun d hd => ?_
    obtain ⟨x, hx, rfl⟩ := List.mem_map.mp hd
    obtain ⟨l⟩ := x
    cases l with
    | nil => exact absurd rfl (hn _ hx)
    | cons y l => exact ⟨_, _, rfl⟩
  · obtain ⟨p, hp, rfl⟩ := List.mem_map.mp hb
    exact Nat.le_trans (Dt.sh (h3 p hp)).2 h8
  · have m1 := List.map_mergeSort (r := fun a b : V × Tu X => leA a.2 b.2) (s := PySem.W.dataLe false Prod.snd) (f := fun p : V × Tu X => (p.1, Dt.enc p.2)) (l := ps) (fun _ _ _ _ => rfl)
    have m2 := List.map_mergeSort (r := fun a b : V × Tu X => leA a.2 b.2) (s := leA) (f := fun p : V × Tu X => p.2) (l := ps) (fun _ _ _ _ => rfl)
    rw [← m1, ← m2, List.map_map]
    exact rpl_psA fun p hp => h3 p ((List.mergeSort_perm _ _).mem_iff.mp hp)
theorem ro_sortN {te : TE} {m : PT (List (Tu X))} (h : RV G sl te m) (h8 : Dt.dep (Tu X) ≤ 8 := by decide) : RO G sl (tCB (rSortedD K) (tCons te tNil)) (fun Q => m fun xs => (∀ x ∈ xs, x.l ≠ []) ∧ Q (xs.mergeSort leA)) := fun σ A F H Qp Q E hm k =>
  h σ A F H _ _ E hm fun xs a F1 H1 q1 g1 E1 r1 => by
    obtain ⟨vs, ha, hl⟩ := r1 F1 H1 Ge.refl E1
    obtain ⟨bs, e, h1, h2, h3, h4, h5⟩ := sorted_psN (K := K) hl q1.1 h8
    exact ⟨a, bs, rfl, SqL.of (by rw [ha, e]), h1, h2, h3, h4, ro_new E1 g1.fr h5 fun v F2 H2 as g2 E2 o2 f2 => k _ v F2 H2 as q1.2 (g1.trans g2) E2 o2 f2⟩
end
/-! ### dicts with groups as keys, as data -/
section
open PySem.Spec PyProof.Rows
def kdN : DKd := ⟨fun D => NdO D [], NPut⟩
theorem kdN_ok {X : Cx} (hu : X.A.units + 9 < cLine) : DKdOk X kdN := by
  refine ⟨fun {H} h hb => nd_new ⟨Nat.zero_le _, beq_eq_false_iff_ne.mpr (Ne.symm (Nat.ne_of_lt hb)), List.nodup_nil, [], .nil, _, #[], 0, Heap.get?_push_size _ rfl, ⟨rfl, rfl, rfl⟩, rfl, fun _ _ => rfl⟩, fun {Y pins σ H H' s D y v u r Q E} e1 e2 e3 I hp ry rv h => ?_⟩
  obtain ⟨xs, b, k, e, rfl, kb, ks, l, rfl⟩ := hp
  have eu : u = Value.ref b := ry
  subst eu
  obtain ⟨z, hd, nd, ys, rel, dd⟩ := nd_of I.hok e ks
  have hz : (ys.map gN).length ≤ sizeLine := by rw [List.length_map, ← Paired.length rel]; exact z
  have hl : (stN xs k b v).length ≤ sizeLine := by have := stN_len xs k b v; omega
  refine wpAny_dictSet_heap (hsz := hz) (knd := nestedKind Y.prog Y.w) (by rw [e3]; show X.A.units + 8 < cLine; omega) (kb.is I.hok) dd fun h' dd' hs => h _ ?_
  obtain ⟨q, es, ep, hq, h2, h3, h4, _, h5⟩ := dd'
  refine d_write I (by rw [e]; exact True.intro) hs ⟨q, hq⟩ (nd_new ⟨hl, hd, stN_keys nd, stN ys k b r, rel.st k b rv, q, es, ep, hq, h2, h3, fun P w => ?_⟩)
  rw [h4, storedH_gN, List.map_map, List.map_map]
  exact List.map_congr_left fun y _ => entry_gN y
end
structure Dg where
  f : DK → Option Int
def Dg.nil : Dg := ⟨fun _ => none⟩
def Dg.put (d : Dg) (p : DK × Int) : Dg := ⟨fun j => if j = p.1 then some p.2 else d.f j⟩
def Dg.of (ps : List (DK × Int)) : Dg := ps.foldl Dg.put Dg.nil
theorem Dg.of_snoc (ps : List (DK × Int)) (p : DK × Int) : Dg.of (ps ++ [p]) = (Dg.of ps).put p := by unfold Dg.of; rw [List.foldl_append]; rfl
instance : Rp Dg := ⟨fun C F H v y => ∃ a xs, v = .ref a ∧ F a ∧ H a = some (NdO a xs) ∧ (∀ e ∈ xs, Rp.rp C F H (.ref e.2.1) e.1) ∧ ∀ j, (atN xs j).map (·.2) = (y.f j).map V.int,
  fun g ⟨a, xs, e, f, h, hk, hv⟩ => ⟨a, xs, e, (g _ _ f h).1, (g _ _ f h).2, (fun e he => Rp.mono g (hk e he)), hv⟩⟩
section
variable {G : Gx} {sl : List Sl} {K : PySem.W.Frag} {D : Ends} {X : Type} [Rp X]
theorem dcN_pt {vs : List Nat} {g : TG} {tk tv : TE} {B : Type} {sl' : X → B → List Sl} {n : X → PT B} {ek : X → B → PT DK} {ev : X → B → PT Int} {σ : L2.St} {A : Nat → List Addr} {F1 : Rg} {H1 : Hp} {J : It} {xs : List X} {Qp : Dg → Prop} {Q : VK} (hv : ∀ v ∈ vs, NotOwn sl v)
    (ht : ∀ x, RT G (wipeS sl vs) vs g x (sl' x) (n x)) (hk : ∀ x b, RE G (sl' x b) tk (ek x b)) (he : ∀ x b, RE G (sl' x b) tv (ev x b)) (E1 : Env G sl σ A F1 H1) (w : WOk G.C (fun F2 H2 => Ge F1 H1 F2 H2 ∧ Env G sl σ A F2 H2) J xs) (hz : Sz xs.length)
    (q1 : lcP xs (fun x R => n x fun b => ek x b fun j => ev x b fun y => R (some (j, y))) fun zs => Qp (Dg.of zs)) (k : ∀ d v F' H', Qp d → Gk A F1 H1 F' H' → Env G sl σ A F' H' → Rp.rp G.C F' H' v d → Q v H') : tDcG kdN (fun _ H R => R J H) g tk tv vs σ H1 Q := by
    intro D hD
    obtain ⟨Gd, Y', hW, hP, hY⟩ := w.ex
    have hDA : ∀ i, D ∉ A i := fun i hi => E1.live hi hD
    have hD0 : G.H0 D = none := E1.ok.live _ hD
    have hDF : ¬ F1 D := fun f => E1.ok.al _ f hD
    refine ⟨xs.length, fun i H2 => ∃ F2 acc kvs, Gk A F1 H1 F2 H2 ∧ Env G sl σ A F2 H2 ∧ ¬ F2 D ∧ H2 D = some (NdO D kvs) ∧ kvs.length ≤ i ∧ i ≤ xs.length ∧ (∀ e ∈ kvs, Rp.rp G.C F2 H2 (.ref e.2.1) e.1) ∧ (∀ j, (atN kvs j).map (·.2) = ((Dg.of acc).f j).map V.int) ∧
      lcP (xs.drop i) (fun x R => n x fun b => ek x b fun j => ev x b fun y => R (some (j, y))) (fun zs => Qp (Dg.of (acc ++ zs))), ?_, ?_, ?_⟩
    · have nw : New F1 H1 F1 (upd H1 D (NdO D [])) := New.same' (same_upd hD)
      exact ⟨F1, [], [], nw.gk, E1.newk nw, hDF, upd_same, Nat.le_refl _, Nat.zero_le _, (fun e he => absurd he List.not_mem_nil), fun j => rfl, by simpa using q1⟩
    · rintro i H2 hi ⟨F2, acc, kvs, g2, E2, nD, eD, hl, hi2, hks, hvv, q⟩
      refine ⟨hW.goes i H2 hi (hP F2 H2 ⟨g2.ge, E2⟩), fun x H3 hy => ?_⟩
      obtain ⟨F3, y, ey, n3, r3⟩ := hY i H2 x H3 F2 ⟨g2.ge, E2⟩ (hW.yields i H2 x H3 hi (hP F2 H2 ⟨g2.ge, E2⟩) hy)
      have E3 := E2.newk n3
      have g3 : Gk A F1 H1 F3 H3 := g2.trans n3.gk
      have nD3 : ¬ F3 D := fun f => by
        rcases n3.new D f with f | f
        · exact nD f
        · rw [eD] at f; cases f
      have eD3 : H3 D = some (NdO D kvs) := n3.same _ _ eD
      have ed : xs.drop i = y :: xs.drop (i + 1) := by
        obtain ⟨hlt, rfl⟩ := List.getElem?_eq_some_iff.mp ey
        exact List.drop_eq_getElem_cons hlt
      rw [ed] at q
      obtain ⟨Ew, bw⟩ := E3.wiped hv
      refine ht y (wipe σ vs) A F3 H3 x _ _ Ew r3 q fun b σ4 q4 E4 b4 w4 => ⟨by rw [w4, wipe_wipe vs fun _ h => h], ?_⟩
      refine hk y b σ4 A F3 H3 _ _ E4 q4 fun j u F5 H5 q5 g5 E5 r5 => he y b σ4 A F5 H5 _ _ E5 q5 fun c u2 F6 H6 q6 g6 E6 r6 => ?_
      have r5' := Rp.mono g6.ge r5
      obtain ⟨bk, _, _, rfl, _⟩ := id r5'
      have r6 : u2 = .int c := r6
      subst r6
      have g56 := g5.trans g6
      have E7 := bw F6 H6 g56.ge (b4 F6 H6 g56.ge E6)
      have eD6 : H6 D = some (NdO D kvs) := g56.kp _ _ hDA eD3
      have nD6 : ¬ F6 D := fun f => by
        rcases g56.new D f with f | f
        · exact nD3 f
        · rw [eD3] at f; cases f
      obtain ⟨E8, g8⟩ := E7.loc (o := NdO D (stN kvs j bk (V.int c))) hDA nD6 (.inr hD0)
      have lt : kvs.length < sizeLine := by
        have := hz.lt
        omega
      have gk : Ge F2 H2 F6 H6 := n3.ge.trans g56.ge
      refine ⟨_, ⟨kvs, bk, j, eD6, rfl, kis_of r5', fun e he => kis_of (Rp.mono gk (hks e he)), lt, rfl⟩, F6, acc ++ [(j, c)], _, (g3.trans g56).loc hD nD6, E8, nD6, upd_same, ?_, by omega, fun e he => ?_, fun i2 => ?_, by simpa [List.append_assoc] using q6⟩
      · have := stN_len kvs j bk (V.int c)
        omega
      · rcases stN_mem he with ⟨e', he', e1, e2⟩ | ⟨e1, e2⟩
        · rw [← e1, ← e2]; exact Rp.mono (gk.trans g8) (hks e' he')
        · rw [e1, e2]; exact Rp.mono g8 r5'
      · rw [stN_at, hvv, Dg.of_snoc]
        show _ = (if i2 = j then some c else (Dg.of acc).f i2).map V.int
        by_cases e : i2 = j
        · subst e; simp
        · rw [if_neg e, if_neg e]
    · rintro H2 ⟨F2, acc, kvs, g2, E2, nD, eD, hl, hi2, hks, hvv, q⟩
      refine ⟨hW.stops H2 (hP F2 H2 ⟨g2.ge, E2⟩), ?_⟩
      rw [List.drop_length] at q
      have q : Qp (Dg.of (acc ++ [])) := q
      rw [List.append_nil] at q
      obtain ⟨E3, g3⟩ := E2.freeze (by rw [eD]; exact fun z => by cases z) hD0 hDA
      refine k (Dg.of acc) _ _ H2 q ⟨g2.ge.trans g3, g2.kp, g2.fr, fun b f => ?_⟩ E3 ⟨D, kvs, rfl, .inr rfl, eD, (fun e he => Rp.mono g3 (hks e he)), hvv⟩
      rcases f with f | rfl
      · exact g2.new b f
      · exact .inr hD
/-- {k: v for .. in ..}, keys pairs of whole numbers, values whole numbers -/
theorem re_dcN {vs : List Nat} {wi : TI} {g : TG} {tk tv : TE} {m : PT (List X)} {B : Type} {sl' : X → B → List Sl} {n : X → PT B} {ek : X → B → PT DK} {ev : X → B → PT Int} (hw : RWo G sl wi m) (hv : ∀ v ∈ vs, NotOwn sl v)
    (ht : ∀ x, RT G (wipeS sl vs) vs g x (sl' x) (n x)) (hk : ∀ x b, RE G (sl' x b) tk (ek x b)) (he : ∀ x b, RE G (sl' x b) tv (ev x b)) :
    RE G sl (tDcG kdN wi g tk tv vs) (fun Q => m fun xs => Sz xs.length ∧ lcP xs (fun x R => n x fun b => ek x b fun j => ev x b fun y => R (some (j, y))) fun zs => Q (Dg.of zs)) := fun σ A F H Qp Q E hm k =>
  hw σ A F H _ _ E hm fun xs F1 H1 J q1 g1 E1 w => dcN_pt hv ht hk he E1 w q1.1 q1.2 fun d v F2 H2 q2 g2 E2 r2 => k d v F2 H2 q2 (g1.trans g2) E2 r2
end
/-! ### a dict of one's own, keys pairs of whole numbers -/
theorem kp_is {C : CA} {F : Rg} {H : Hp} {v : V} {j : Int × Int} (h : Rp.rp C F H v j) : ∃ b, v = .ref b ∧ H b = some (.tup ((kp j).map kV)) := by
  obtain ⟨b, u1, u2, e, _, hb, h1, h2⟩ := h
  have h1 : u1 = .int j.1 := h1
  have h2 : u2 = .int j.2 := h2
  subst h1 h2
  exact ⟨b, e, hb⟩
structure Dq where
  f : Int × Int → Option Int
  n : Nat
def Dq.nil : Dq := ⟨fun _ => none, 0⟩
def Dq.put (d : Dq) (k : Int × Int) (v : Int) : Dq := ⟨fun j => if j = k then some v else d.f j, d.n + 1⟩
instance : Ow Dq := ⟨fun C F H as v y => ∃ x kvs, v = .ref x ∧ as = [x] ∧ H x = some (.dT kvs) ∧ kvs.length ≤ y.n ∧ ∀ k, valV kvs (kp k) = (y.f k).map V.int,
  fun {C F F' H H' as v y} g k ⟨x, kvs, e, ea, h, hn, hv⟩ => ⟨x, kvs, e, ea, k x (by rw [ea]; simp) _ h, hn, hv⟩,
  fun {C F H as v y} ⟨x, kvs, e, ea, h, _⟩ b hb => by
    rw [ea] at hb
    have hb : b = x := by simpa using hb
    rw [hb, h]; exact fun z => by cases z⟩
theorem conv_Dq {C : CA} {d : Dq} : ∀ F H as v, Ow.ow C F H as v d → Rp.rp C (fun b => F b ∨ b ∈ as) H v (Dp.mk d.f) := fun F H as v ⟨x, kvs, e, ea, h, _, hv⟩ => by
  subst e ea
  exact ⟨x, kvs, rfl, .inr (by simp), h, hv⟩
section
variable {G : Gx} {sl : List Sl} {K : PySem.W.Frag} {D : Ends}
theorem rb_freezeDq {i : Nat} {d : Dq} {p : L2.St → Hp → Prop} {w : Prop} (hi : sl[i]? = some (.own d)) (hp : ∀ q, G.pin = some q → q.1 ≠ i) (k : RB G (sl.set i (.dat (Dp.mk d.f))) p w) : RB G sl p w := rb_freezeG conv_Dq hi hp k
theorem re_dqGet {i : Nat} {d : Dq} {ti : TE} {n : PT (Int × Int)} (hi : sl[i]? = some (.own d)) (h : RE G sl ti n) : RE G sl (tDGet (tVar i) ti) (fun Q => n fun j => ∃ v, d.f j = some v ∧ Q v) := fun σ A F H Qp Q E hm k => by
  obtain ⟨u, h1, _⟩ := E.own hi
  refine ⟨_, h1, h σ A F H _ _ E hm fun j v F1 H1 q1 g1 E1 r1 => ?_⟩
  obtain ⟨y, hy, q1⟩ := q1
  obtain ⟨u', h1', x, kvs, e, ea, hx, hn, hv⟩ := E1.own hi
  obtain ⟨b, rfl, hb⟩ := kp_is r1
  rw [h1] at h1'
  have eu : u = u' := Option.some.inj (Option.some.inj h1')
  refine ⟨x, .int y, by rw [eu, e], ?_, k _ _ _ _ q1 g1 E1 rfl⟩
  have := DGet.t (k := kp j) hx hb
  rw [hv, hy] at this; exact this
theorem re_dqGet2 {i : Nat} {d : Dq} {ti td : TE} {n : PT (Int × Int)} {m : PT Int} (hi : sl[i]? = some (.own d)) (h : RE G sl ti n) (hd : RE G sl td m) : RE G sl (tDGet2 (tVar i) ti td) (fun Q => n fun j => m fun y => Q ((d.f j).getD y)) := fun σ A F H Qp Q E hm k => by
  obtain ⟨u, h1, x0, kvs0, e0, ea0, hx0, _⟩ := E.own hi
  refine ⟨_, h1, x0, e0, .inr ⟨kvs0, .inl hx0⟩, h σ A F H _ _ E hm fun j v F1 H1 q1 g1 E1 r1 => hd σ A F1 H1 _ _ E1 q1 fun y w F2 H2 q2 g2 E2 r2 => ?_⟩
  obtain ⟨u', h1', x, kvs, e, ea, hx, hn, hv⟩ := E2.own hi
  obtain ⟨b, rfl, hb⟩ := kp_is (Rp.mono g2.ge r1)
  have r2 : w = .int y := r2
  subst r2
  rw [h1] at h1'
  have eu : u = u' := Option.some.inj (Option.some.inj h1')
  have ex : x0 = x := by rw [eu, e] at e0; cases e0; rfl
  refine ⟨valV kvs (kp j), by rw [ex]; exact DGet.t (k := kp j) hx hb, ?_⟩
  refine k _ _ _ _ q2 (g1.trans g2) E2 ?_
  rw [hv]
  cases d.f j <;> rfl
theorem rb_dqPut {i : Nat} {d : Dq} {ti tv : TE} {n : PT (Int × Int)} {m : PT Int} {w : Int × Int → Int → Prop} (hi : sl[i]? = some (.own d)) (hv : RE G sl tv m) (h : RE G sl ti n) (k : ∀ j y, RB G (sl.set i (.own (d.put j y))) D.nx (w j y)) : RB G sl (sDPut (tVar i) ti tv D) (m fun y => n fun j => Sz d.n ∧ w j y) := fun σ A F H E hw =>
  hv σ A F H _ _ E hw fun y v F1 H1 q1 g1 E1 r1 => by
    obtain ⟨u, h1, _⟩ := E1.own hi
    refine ⟨_, h1, h σ A F1 H1 _ _ E1 q1 fun j z F2 H2 q2 g2 E2 r2 => ?_⟩
    obtain ⟨u', h1', x, kvs, e, ea, hx, hn, hv⟩ := E2.own hi
    have r1 : v = .int y := r1
    obtain ⟨b, rfl, hb⟩ := kp_is r2
    subst r1
    have h1s := h1
    rw [h1] at h1'
    have eu : u = u' := Option.some.inj (Option.some.inj h1')
    subst eu e
    have lt : kvs.length < sizeLine := Nat.lt_of_le_of_lt (Nat.le_trans hn q2.1) (by decide)
    refine ⟨x, _, rfl, DPut.t (k := kp j) hx hb lt, k j y σ A F2 _ (ins_turn E2 hi h1s (by rw [ea]; simp) ⟨x, _, rfl, ea, upd_same, ?_, fun k => ?_⟩) q2.2⟩
    · have := length_putK kvs (kp j) (V.int y)
      show _ ≤ d.n + 1
      omega
    · rw [valV_put, hv]
      show _ = (if k = j then some y else d.f k).map V.int
      by_cases e : k = j
      · subst e; simp
      · rw [if_neg (fun z => e (kp_inj z)), if_neg e]
theorem ro_dq0 : RO G sl tDNewT (pR Dq.nil) := fun σ A F H Qp Q E hm k => fun p hp => by
  have nF : ¬ F p := fun f => E.ok.al _ f hp
  have n1 : New F H F (upd H p (.dT [])) := New.same' (same_upd hp)
  refine k Dq.nil _ F _ [p] hm n1.gk (E.newk n1) ⟨p, _, rfl, rfl, upd_same, by show 0 ≤ 0; omega, fun j => rfl⟩ fun c hc => ?_
  have : c = p := by simpa using hc
  rw [this]; exact ⟨nF, hp⟩
/-- d[pair] of a dict that is data -/
theorem re_dpGet {to ti : TE} {o : PT Dp} {n : PT (Int × Int)} (ho : RE G sl to o) (h : RE G sl ti n) : RE G sl (tDGet to ti) (fun Q => o fun d => n fun j => ∃ v, d.f j = some v ∧ Q v) := fun σ A F H Qp Q E hm k =>
  ho σ A F H _ _ E hm fun d u F1 H1 q1 g1 E1 r1 => h σ A F1 H1 _ _ E1 q1 fun j v F2 H2 q2 g2 E2 r2 => by
    obtain ⟨x, kvs, rfl, fx, hx, hv⟩ := Rp.mono g2.ge r1
    obtain ⟨b, rfl, hb⟩ := kp_is r2
    obtain ⟨y, hy, q2⟩ := q2
    refine ⟨x, .int y, rfl, ?_, k _ _ _ _ q2 (g1.trans g2) E2 rfl⟩
    have := DGet.t (k := kp j) hx hb
    rw [hv, hy] at this; exact this
end
/-! ### a thing taken as a list -/
instance {X : Type} [Rp X] [Emb X] [EmbI X] : EmbI (List X) := ⟨fun {C F H v x} h => by
  have h : DvR C F H v (.lst (x.map Emb.emb)) := h
  simp only [DvR] at h
  obtain ⟨a, vs, e, f, ha, hl⟩ := h
  exact ⟨a, vs, e, f, ha, EmbI.list hl⟩⟩
theorem re_botT {G : Gx} {sl : List Sl} {K : PySem.W.Frag} {te : TE} {m : PT Tal} (T : CTT K G.C) (h : RO G sl te m) : RE G sl (tFld K te "bottom") (fun Q => m fun x => Q x.b) := fun σ A F H Qp Q E hm k =>
  h σ A F H _ _ E hm fun x v F1 H1 as q1 g1 E1 o1 f1 => by
    obtain ⟨t, dx, a1, a2, rfl, ea, n, h0, h1, h2⟩ := o1
    exact ⟨t, _, dx, _, _, rfl, h0, T.cl, T.nB, rfl, k _ _ _ _ q1 g1 E1 rfl⟩
end QV

namespace QV
open PySem PySem.Spec PyProof.Rows L2 QW TL
/-! ### texts -/
/-- a text of one sign -/
def sg (c : Nat) : Str := ⟨#[c]⟩
/-- a whole number as it is written -/
def strI (i : Int) : Str := Str.ofString (toString i)
theorem okS_iff {x : Str} : PyData.strOk x = true ↔ ∀ c ∈ tl x, c < 0x110000 := by
  unfold PyData.strOk
  rw [← Array.all_toList, List.all_eq_true]
  constructor
  · intro h c hc; exact of_decide_eq_true (h c hc)
  · intro h c hc; exact decide_eq_true (h c hc)
theorem okS_app {x y : Str} (h : PyData.strOk x = true) (h' : PyData.strOk y = true) : PyData.strOk (x ++ y) = true := by
  rw [okS_iff] at *
  intro c hc
  rw [tl_append] at hc
  rcases List.mem_append.mp hc with hc | hc
  · exact h c hc
  · exact h' c hc
theorem okS_sg {x : Str} {c : Nat} (h : PyData.strOk x = true) (hc : c ∈ tl x) : PyData.strOk (sg c) = true := by
  rw [okS_iff] at *
  intro d hd
  have : d = c := by simpa [sg, tl] using hd
  rw [this]; exact h c hc
theorem tl_cutS (z : Str) (lo hi : Option Int) : ∀ c ∈ tl (cutS z lo hi), c ∈ tl z := fun c hc => by
  have hc : c ∈ (z.cps.toList.drop (HT.sIx z.length 0 lo)).take (HT.sIx z.length z.length hi - HT.sIx z.length 0 lo) := hc
  exact List.mem_of_mem_drop (List.mem_of_mem_take hc)
theorem okS_cut {z : Str} {lo hi : Option Int} (h : PyData.strOk z = true) : PyData.strOk (cutS z lo hi) = true := by
  rw [okS_iff] at *
  intro c hc
  exact h c (tl_cutS z lo hi c hc)
theorem num_lt {n c : Nat} (h : c ∈ numL n) : c < 0x110000 := by
  have h1 : ¬ (c < 48 ∨ 57 < c) := fun z => numL_free z h
  omega
theorem tl_ofS (s : String) : tl (Str.ofString s) = s.toList.map Char.toNat := tl_ofString s
theorem okS_ofString (s : String) : PyData.strOk (Str.ofString s) = true := by
  rw [okS_iff, tl_ofS]
  intro c hc
  obtain ⟨d, _, rfl⟩ := List.mem_map.mp hc
  have := d.valid
  have h2 : d.toNat.isValidChar := this
  rcases h2 with h2 | h2
  · have : d.toNat < 0xd800 := h2; omega
  · exact h2.2
theorem okS_strI (i : Int) : PyData.strOk (strI i) = true := okS_ofString _
theorem spl_mem (S : List Nat) : ∀ (l : List Nat) (k : Nat) (acc : List Nat), ∀ p ∈ spl S k acc l, ∀ c ∈ p, c ∈ acc ∨ c ∈ l
  | [], k, acc => fun p hp c hc => by
    rw [spl_nil] at hp
    have : p = acc := by simpa using hp
    subst this; exact .inl hc
  | x :: r, k, acc => fun p hp c hc => by
    cases k with
    | succ k =>
      rw [spl_pass] at hp
      have hp : p ∈ spl S 0 acc (r.drop k) := hp
      rw [← spl_pass] at hp
      rcases spl_mem S r k acc p hp c hc with h | h
      · exact .inl h
      · exact .inr (List.mem_cons_of_mem _ h)
    | zero =>
      cases hpre : pre S (x :: r) with
      | true =>
        rw [spl_hit hpre] at hp
        rcases List.mem_cons.mp hp with e | hp
        · subst e; exact .inl hc
        · rcases spl_mem S r _ [] p hp c hc with h | h
          · cases h
          · exact .inr (List.mem_cons_of_mem _ h)
      | false =>
        rw [spl_miss hpre] at hp
        rcases spl_mem S r 0 (acc ++ [x]) p hp c hc with h | h
        · rcases List.mem_append.mp h with h | h
          · exact .inl h
          · have : c = x := by simpa using h
            subst this; exact .inr List.mem_cons_self
        · exact .inr (List.mem_cons_of_mem _ h)
/-- what a split asks of its texts -/
def SepOk (b : Str) : Prop := (b.length == 0) = false ∧ b.cps.all (· < 256) = true
instance (b : Str) : Decidable (SepOk b) := by unfold SepOk; infer_instance
theorem SepOk.ne {b : Str} (h : SepOk b) : tl b ≠ [] := fun z => by
  have : b.length = 0 := by rw [len_tl, z]; rfl
  obtain ⟨h1, _⟩ := h
  rw [this] at h1
  exact absurd h1 (by decide)
theorem split_tl {a b : Str} (h : SepOk b) : (Txt.split a b).map tl = spl (tl b) 0 [] (tl a) := split_spl a b h.ne (kind_ok h.2)
theorem okS_split {a b : Str} (h : SepOk b) (ha : PyData.strOk a = true) : ∀ p ∈ Txt.split a b, PyData.strOk p = true := fun p hp => by
  rw [okS_iff] at *
  intro c hc
  have hm : tl p ∈ spl (tl b) 0 [] (tl a) := by rw [← split_tl h]; exact List.mem_map_of_mem hp
  rcases spl_mem _ _ _ _ _ hm c hc with h | h
  · cases h
  · exact ha c h
theorem okS_part {a b : Str} (ha : PyData.strOk a = true) (hb : PyData.strOk b = true) : PyData.strOk (Txt.partition a b).1 = true ∧ PyData.strOk (Txt.partition a b).2.1 = true ∧ PyData.strOk (Txt.partition a b).2.2 = true := by
  have sub : ∀ i j, PyData.strOk (Builtin.Str.strSub a i j) = true := fun i j => by
    rw [okS_iff] at *
    intro c hc
    rw [tl_strSub] at hc
    exact ha c (List.mem_of_mem_drop (List.mem_of_mem_take hc))
  unfold Txt.partition
  split
  · exact ⟨sub _ _, hb, sub _ _⟩
  · exact ⟨ha, okS_iff.mpr (fun c hc => by cases hc), okS_iff.mpr (fun c hc => by cases hc)⟩
theorem joinL_mem (S : List Nat) : ∀ (ps : List (List Nat)), ∀ c ∈ joinL S ps, c ∈ S ∨ ∃ p ∈ ps, c ∈ p
  | [], c, hc => by cases hc
  | [p], c, hc => .inr ⟨p, List.mem_cons_self, hc⟩
  | p :: q :: r, c, hc => by
    have hc : c ∈ p ++ (S ++ joinL S (q :: r)) := hc
    rcases List.mem_append.mp hc with hc | hc
    · exact .inr ⟨p, List.mem_cons_self, hc⟩
    rcases List.mem_append.mp hc with hc | hc
    · exact .inl hc
    · rcases joinL_mem S (q :: r) c hc with h | ⟨u, hu, h⟩
      · exact .inl h
      · exact .inr ⟨u, List.mem_cons_of_mem _ hu, h⟩
theorem okS_join {a : Str} {ys : List Str} (ha : PyData.strOk a = true) (hy : ∀ y ∈ ys, PyData.strOk y = true) : PyData.strOk (Txt.join a ys) = true := by
  rw [okS_iff]
  intro c hc
  rw [join_eq, tl_join] at hc
  rcases joinL_mem _ _ c hc with h | ⟨p, hp, h⟩
  · exact okS_iff.mp ha c h
  · obtain ⟨y, hy', rfl⟩ := List.mem_map.mp hp
    exact okS_iff.mp (hy y hy') c h
theorem okS_mul {x : Str} {n : Int} (h : PyData.strOk x = true) : PyData.strOk (Txt.mul x n) = true := by
  unfold Txt.mul
  split
  · exact okS_iff.mpr (fun c hc => by cases hc)
  · split
    · exact h
    · rw [okS_iff] at *
      have key : ∀ (k : Nat) (acc : Array Nat), (∀ c ∈ acc.toList, c < 0x110000) → ∀ c ∈ ((List.replicate k x.cps).foldl (· ++ ·) acc).toList, c < 0x110000 := by
        intro k
        induction k with
        | zero => intro acc ha; exact ha
        | succ k ih =>
          intro acc ha
          rw [List.replicate_succ, List.foldl_cons]
          refine ih _ fun c hc => ?_
          rw [Array.toList_append] at hc
          rcases List.mem_append.mp hc with hc | hc
          · exact ha c hc
          · exact h c hc
      exact key _ #[] (fun c hc => by cases hc)
theorem rpStrs {C : CA} {F : Rg} {H : Hp} : ∀ {ys : List Str}, (∀ y ∈ ys, PyData.strOk y = true) → RpL C F H (ys.map V.str) ys
  | [], _ => trivial
  | y :: ys, h => ⟨⟨rfl, h y List.mem_cons_self⟩, rpStrs fun z hz => h z (List.mem_cons_of_mem _ hz)⟩
theorem RpL.okS {C : CA} {F : Rg} {H : Hp} : ∀ {vs : List V} {ys : List Str}, RpL C F H vs ys → ∀ y ∈ ys, PyData.strOk y = true
  | [], [], _, _, h => by cases h
  | v :: vs, y :: ys, h, z, hz => by
    rcases List.mem_cons.mp hz with rfl | hz
    · exact h.1.2
    · exact RpL.okS h.2 z hz
  | [], _ :: _, h, _, _ => h.elim
  | _ :: _, [], h, _, _ => h.elim
section
variable {G : Gx} {sl : List Sl} {X Y Z : Type} [Rp X] [Rp Y] [Rp Z] {K : PySem.W.Frag} {C : CA} {D : Ends}
/-! str(i) -/
def rStrI : List V → Hp → VK → Prop := fun xs H Q => ∃ i, xs = [.int i] ∧ i.natAbs.log2 < 1920 ∧ Q (.str (toString i)) H
theorem cr_strI {X : Cx} : CallR X (.type "str") rStrI := call_str_int
theorem bt_str' : bootBuiltins "str" = some (.type "str") := by decide +kernel
theorem re_strI {ta : TE} {m : PT Int} (h : RE G sl ta m) : RE G sl (tCB rStrI (tCons ta tNil)) (fun Q => m fun i => i.natAbs.log2 < 1920 ∧ Q (strI i)) := fun σ A F H Qp Q E hm k =>
  h σ A F H _ _ E hm fun i v F1 H1 q1 g1 E1 r1 => by
    have r1 : v = .int i := r1
    subst r1
    exact ⟨i, rfl, q1.1, k _ _ F1 H1 q1.2 g1 E1 ⟨rfl, okS_strI i⟩⟩
/-! int(s) -/
def rIntS : List V → Hp → VK → Prop := fun xs H Q => ∃ a n, xs = [.str a] ∧ PySem.intText? a = some n ∧ a.length ≤ 640 ∧ Q (.int n) H
theorem cr_intS {X : Cx} : CallR X (.type "int") rIntS := call_int_str
theorem re_intS {ta : TE} {m : PT Str} (h : RE G sl ta m) : RE G sl (tCB rIntS (tCons ta tNil)) (fun Q => m fun a => ∃ n, PySem.intText? a = some n ∧ a.length ≤ 640 ∧ Q n) := fun σ A F H Qp Q E hm k =>
  h σ A F H _ _ E hm fun a v F1 H1 q1 g1 E1 r1 => by
    obtain ⟨rfl, _⟩ := r1
    obtain ⟨n, h1, h2, q1⟩ := q1
    exact ⟨a, n, rfl, h1, h2, k _ _ F1 H1 q1 g1 E1 rfl⟩
/-! len(s) -/
theorem re_lenS {ta : TE} {m : PT Str} (h : RE G sl ta m) : RE G sl (tCB (cLen K) (tCons ta tNil)) (fun Q => m fun a => Sz a.length ∧ Q (a.length : Int)) := fun σ A F H Qp Q E hm k =>
  h σ A F H _ _ E hm fun a v F1 H1 q1 g1 E1 r1 => by
    obtain ⟨rfl, _⟩ := r1
    exact ⟨.str a, a.length, rfl, ⟨q1.1.le, rfl⟩, k _ _ F1 H1 q1.2 g1 E1 rfl⟩
/-! a + b -/
def rCatS : R2 := fun x y H Q => ∃ i j, x = .str i ∧ y = .str j ∧ i.length + j.length ≤ sizeLine ∧ Q (.str (i ++ j)) H
theorem op_catS {X : Cx} : OpR X (binaryOp .Add) rCatS := op_add_str
theorem o_catS : OP C rCatS (fun (i j : Str) Q => Sz (i.length + j.length) ∧ Q (i ++ j)) := fun F H v w x y Qp Q h1 h2 hq k => by
  obtain ⟨rfl, o1⟩ := h1
  obtain ⟨rfl, o2⟩ := h2
  exact ⟨x, y, rfl, rfl, hq.1.le, k _ _ F H hq.2 New.refl ⟨rfl, okS_app o1 o2⟩⟩
/-! a * n -/
def rMulS : R2 := fun x y H Q => ∃ a i, x = .str a ∧ y = .int i ∧ PySem.MulOk a i ∧ Q (.str (Txt.mul a i)) H
theorem op_mulS {X : Cx} : OpR X (binaryOp .Mult) rMulS := by
  intro pins s σ H x y v u Q I rx ry h
  obtain ⟨a, i, rfl, rfl, ok, q⟩ := h
  obtain ⟨t, rfl⟩ := rx
  obtain ⟨t', rfl⟩ := ry
  exact SB.mul ok fun t' k => ⟨.str _, H, I.tok k, ⟨t', rfl⟩, q⟩
theorem o_mulS : OP C rMulS (fun (a : Str) (i : Int) Q => PySem.MulOk a i ∧ Q (Txt.mul a i)) := fun F H v w x y Qp Q h1 h2 hq k => by
  obtain ⟨rfl, o1⟩ := h1
  have h2 : w = .int y := h2
  subst h2
  exact ⟨x, y, rfl, rfl, hq.1, k _ _ F H hq.2 New.refl ⟨rfl, okS_mul o1⟩⟩
/-! c in s -/
def rInSg : R2 := fun x y H Q => ∃ (c : Nat) (z : Str), x = .str ⟨#[c]⟩ ∧ y = .str z ∧ Q (.bl (decide (c ∈ z.cps.toList))) H
def rNiSg : R2 := fun x y H Q => ∃ (c : Nat) (z : Str), x = .str ⟨#[c]⟩ ∧ y = .str z ∧ Q (.bl (!decide (c ∈ z.cps.toList))) H
theorem op_inSg {X : Cx} : OpR X (compareOp .In) rInSg := op_in_sign
theorem op_niSg {X : Cx} : OpR X (compareOp .NotIn) rNiSg := op_notIn_sign
theorem o_inSg : OP C rInSg (fun (x z : Str) Q => ∃ c, x = sg c ∧ Q (decide (c ∈ tl z))) := fun F H v w x y Qp Q h1 h2 hq k => by
  obtain ⟨rfl, o1⟩ := h1
  obtain ⟨rfl, o2⟩ := h2
  obtain ⟨c, rfl, hq⟩ := hq
  exact ⟨c, y, rfl, rfl, k _ _ F H hq New.refl rfl⟩
theorem o_niSg : OP C rNiSg (fun (x z : Str) Q => ∃ c, x = sg c ∧ Q (!decide (c ∈ tl z))) := fun F H v w x y Qp Q h1 h2 hq k => by
  obtain ⟨rfl, o1⟩ := h1
  obtain ⟨rfl, o2⟩ := h2
  obtain ⟨c, rfl, hq⟩ := hq
  exact ⟨c, y, rfl, rfl, k _ _ F H hq New.refl (by show V.bl _ = V.bl _; rfl)⟩
/-! s[i], s[i:j] -/
theorem re_ixS {te ti : TE} {m : PT Str} {n : PT Int} (h : RE G sl te m) (hi : RE G sl ti n) : RE G sl (tOp rIxS te ti) (fun Q => m fun a => n fun i => Sz a.length ∧ ∃ c, atI (tl a) i = some c ∧ Q (sg c)) := fun σ A F H Qp Q E hm k =>
  h σ A F H _ _ E hm fun a v F1 H1 q1 g1 E1 r1 => hi σ A F1 H1 _ _ E1 q1 fun i w F2 H2 q2 g2 E2 r2 => by
    obtain ⟨rfl, o1⟩ := r1
    have r2 : w = .int i := r2
    subst r2
    obtain ⟨z, c, e, q2⟩ := q2
    refine ⟨a, i, c, rfl, rfl, z.le, e, k _ _ F2 H2 q2 (g1.trans g2) E2 ⟨rfl, okS_sg o1 ?_⟩⟩
    obtain ⟨j, _, h1, _⟩ := L2.atI_get e
    exact List.mem_of_getElem? h1
theorem re_slS {te : TE} {tl' th : TO} {m : PT Str} {l h : PT (Option Int)} (he : RE G sl te m) (hl : RPo G sl tl' l) (hh : RPo G sl th h) : RE G sl (tSl rSlS te tl' th) (fun Q => m fun p => l fun a => h fun b => Sz p.length ∧ Q (cutS p a b)) := fun σ A F H Qp Q E hm k =>
  he σ A F H _ _ E hm fun x v F1 H1 q1 g1 E1 r1 => hl σ A F1 H1 _ _ E1 q1 fun a F2 H2 q2 g2 E2 => hh σ A F2 H2 _ _ E2 q2 fun b F3 H3 q3 g3 E3 => by
    obtain ⟨rfl, o1⟩ := r1
    exact ⟨x, rfl, q3.1.le, k _ _ F3 H3 q3.2 ((g1.trans g2).trans g3) E3 ⟨rfl, okS_cut o1⟩⟩
/-! split, partition, join -/
def rSplit : V → List V → Hp → VK → Prop := fun x xs H Q => ∃ a b, x = .str a ∧ xs = [.str b] ∧ (b.length == 0) = false ∧ a.length + 2 ≤ sizeLine ∧ rNewStrs (Txt.split a b) H Q
def rPart : V → List V → Hp → VK → Prop := fun x xs H Q => ∃ a b, x = .str a ∧ xs = [.str b] ∧ (b.length == 0) = false ∧ a.length ≤ sizeLine ∧ ∀ p, H p = none → Q (.ref p) (upd H p (.tup [.str (Txt.partition a b).1, .str (Txt.partition a b).2.1, .str (Txt.partition a b).2.2]))
def rJoin (K : PySem.W.Frag) : V → List V → Hp → VK → Prop := fun x xs H Q => ∃ a p, ∃ ys : List Str, x = .str a ∧ xs = [.ref p] ∧ (SqL K H p (ys.map V.str) ∨ SqT K H p (ys.map V.str)) ∧ (ys.map (·.length)).sum + ys.length * a.length ≤ 16777216 ∧ Q (.str (Txt.join a ys)) H
theorem mt_splitS {X : Cx} : MtR X "str.split" rSplit := mt_split
theorem mt_partS {X : Cx} : MtR X "str.partition" rPart := mt_partition
theorem mt_joinS {X : Cx} : MtR X "str.join" (rJoin X.K) := mt_join
theorem ro_split {ta tb : TE} {m n : PT Str} (ha : RE G sl ta m) (hb : RE G sl tb n) : RO G sl (tM1 rSplit ta tb) (fun Q => m fun a => n fun b => (SepOk b ∧ Sz a.length) ∧ Q (Txt.split a b)) := fun σ A F H Qp Q E hm k =>
  ha σ A F H _ _ E hm fun a v F1 H1 q1 g1 E1 r1 => ⟨⟨a, r1.1⟩, hb σ A F1 H1 _ _ E1 q1 fun b w F2 H2 q2 g2 E2 r2 => by
    obtain ⟨rfl, o1⟩ := r1
    obtain ⟨rfl, o2⟩ := r2
    refine ⟨a, b, rfl, rfl, q2.1.1.1, ?_, ro_new E2 (fun b h => (g1.trans g2).fr b h) (rpStrs (okS_split q2.1.1 o1)) fun v F3 H3 as g3 E3 o3 f3 => k _ _ F3 H3 as q2.2 ((g1.trans g2).trans g3) E3 o3 f3⟩
    have := q2.1.2
    have e := PySem.sizeLine_eq
    omega⟩
theorem re_part {ta tb : TE} {m n : PT Str} (ha : RE G sl ta m) (hb : RE G sl tb n) : RE G sl (tM1 rPart ta tb) (fun Q => m fun a => n fun b => (SepOk b ∧ Sz a.length) ∧ Q (T3.mk (Txt.partition a b).1 (Txt.partition a b).2.1 (Txt.partition a b).2.2)) := fun σ A F H Qp Q E hm k =>
  ha σ A F H _ _ E hm fun a v F1 H1 q1 g1 E1 r1 => ⟨⟨a, r1.1⟩, hb σ A F1 H1 _ _ E1 q1 fun b w F2 H2 q2 g2 E2 r2 => by
    obtain ⟨rfl, o1⟩ := r1
    obtain ⟨rfl, o2⟩ := r2
    obtain ⟨p1, p2, p3⟩ := okS_part o1 o2
    refine ⟨a, b, rfl, rfl, q2.1.1.1, q2.1.2.le, fun p hp => ?_⟩
    exact k _ _ _ _ q2.2 ((g1.trans g2).trans (New.upd hp).gk) (E2.newk (New.upd hp)) ⟨p, _, _, _, rfl, .inr rfl, upd_same, ⟨rfl, p1⟩, ⟨rfl, p2⟩, ⟨rfl, p3⟩⟩⟩
/-- what a join asks -/
def JnOk (a : Str) (ys : List Str) : Prop := (ys.map (·.length)).sum + ys.length * a.length ≤ 1000000
theorem re_join {ta tb : TE} {m : PT Str} {n : PT (List Str)} (ha : RE G sl ta m) (hb : RV G sl tb n) : RE G sl (tM1 (rJoin K) ta tb) (fun Q => m fun a => n fun ys => JnOk a ys ∧ Q (Txt.join a ys)) := fun σ A F H Qp Q E hm k =>
  ha σ A F H _ _ E hm fun a v F1 H1 q1 g1 E1 r1 => ⟨⟨a, r1.1⟩, hb σ A F1 H1 _ _ E1 q1 fun ys p F2 H2 q2 g2 E2 r2 => by
    obtain ⟨rfl, o1⟩ := r1
    obtain ⟨vs, hp, hl⟩ := r2 F2 H2 Ge.refl E2
    have e := hl.strs
    subst e
    have hz : (ys.map (·.length)).sum + ys.length * a.length ≤ 1000000 := q2.1
    exact ⟨a, p, ys, rfl, rfl, .inl (SqL.of hp), by omega, k _ _ F2 H2 q2.2 (g1.trans g2) E2 ⟨rfl, okS_join o1 hl.okS⟩⟩⟩
/-! the signs of a text, one by one -/
theorem rw_str {te : TE} {m : PT Str} (h : RE G sl te m) : RW G sl (iStr te) (fun Q => m fun a => Q ((tl a).map sg)) := fun σ A F H Qp R E hm k =>
  h σ A F H _ _ E hm fun a v F1 H1 q1 g1 E1 r1 => by
    obtain ⟨rfl, o1⟩ := r1
    refine ⟨a, rfl, k _ F1 H1 _ q1 g1 E1 ⟨fun _ => True, fun i H x H' => H' = H ∧ ∃ c, (tl a)[i]? = some c ∧ x = .str (sg c), ?_, fun _ _ _ => trivial, fun i H x H' F p y => ?_⟩⟩
    · have : (tl a).length = a.cps.size := by simp [tl]
      rw [List.length_map]
      exact ⟨fun i _ hi _ => by show i < a.cps.size; omega, fun _ _ => by show a.cps.size ≤ _; omega, fun i H x H' _ _ y => ⟨y.1, by
        obtain ⟨_, c, hc, e⟩ := y
        exact ⟨c, by simpa [tl] using hc, e⟩⟩⟩
    · obtain ⟨rfl, c, hc, rfl⟩ := y
      exact ⟨F, sg c, by rw [List.getElem?_map, hc]; rfl, New.refl, rfl, okS_sg o1 (List.mem_of_getElem? hc)⟩
/-! a tuple of texts of the module -/
def KTup (K : PySem.W.Frag) (a : Addr) (xs : List Str) : Prop := ∃ (o : Obj) (its : Array Value) (n : Nat), K.lookup a = some o ∧ o.cls = .type "tuple" ∧ o.data = .seq its n ∧ its.size ≤ sizeLine ∧ Vals (xs.map V.str) its.toList ∧ xs.all PyData.strOk = true
def KObj (o : Obj) (xs : List Str) : Prop := ∃ (its : Array Value) (n : Nat), o.cls = .type "tuple" ∧ o.data = .seq its n ∧ its.size ≤ sizeLine ∧ Vals (xs.map V.str) its.toList ∧ xs.all PyData.strOk = true
theorem KObj.at {K : PySem.W.Frag} {a : Addr} {o : Obj} {xs : List Str} (l : K.lookup a = some o) (h : KObj o xs) : KTup K a xs := by
  obtain ⟨its, n, h1, h2, h3, h4, h5⟩ := h
  exact ⟨o, its, n, l, h1, h2, h3, h4, h5⟩
def tKT (K : PySem.W.Frag) (xs : List Str) : TE := fun _ H Q => ∀ a, KTup K a xs → Q (.ref a) H
theorem pe_globT {X : Cx} {x : Str} {p : Pos} {a : Addr} {xs : List Str} (hm : X.mg x = some (.ref a)) (hk : KTup X.K a xs) (hg : Gl X x := by rfl) (hdb : (x == ("__debug__" : Str)) = false := by decide) : PE X (.Name x p) (tKT X.K xs) :=
  ⟨fun pins s σ H Q I h => (pe_glob (v := .ref a) (x := x) (pos := p) hg hm rfl hdb).run pins s σ H Q I (h a hk)⟩
theorem KTup.sq {a : Addr} {xs : List Str} {H : Hp} (h : KTup K a xs) : SqT K H a (xs.map V.str) := by
  obtain ⟨o, its, n, h1, h2, h3, h4, h5, _⟩ := h
  exact .inr ⟨o, its, n, h1, h2, h3, h4, h5⟩
theorem re_ixK {xs : List Str} {ti : TE} {n : PT Int} (hi : RE G sl ti n) : RE G sl (tOp (rIxT K) (tKT K xs) ti) (fun Q => n fun i => pAt xs i Q) := fun σ A F H Qp Q E hm k => fun a ha =>
  hi σ A F H _ _ E hm fun i w F2 H2 q2 g2 E2 r2 => by
    have r2 : w = .int i := r2
    subst r2
    obtain ⟨y, e, q⟩ := q2
    obtain ⟨o, its, n, h1, h2, h3, h4, h5, h6⟩ := id ha
    obtain ⟨u, e1, e2⟩ := atI_rel (C := G.C) (F := F2) (H := H2) (rpStrs (List.all_eq_true.mp h6)) e
    exact ⟨a, xs.map V.str, i, u, rfl, rfl, KTup.sq ha, e1, k y u F2 H2 q g2 E2 e2⟩
theorem re_lenK {xs : List Str} {n : Nat} (hn : xs.length = n) : RE G sl (tCB (cLen K) (tCons (tKT K xs) tNil)) (pR (n : Int)) := fun σ A F H Qp Q E hm k => fun a ha =>
  ⟨.ref a, n, rfl, .inr ⟨xs.map V.str, KTup.sq ha, by rw [List.length_map]; exact hn.symm⟩, k _ _ F H hm Gk.refl E rfl⟩
/-! all of them are something -/
theorem RpL.some {F : Rg} {H : Hp} : ∀ {vs : List V} {ys : List X}, RpL C F H vs (ys.map Option.some) → RpL C F H vs ys
  | [], [], _ => trivial
  | v :: vs, y :: ys, h => ⟨h.1, RpL.some h.2⟩
  | [], _ :: _, h => h.elim
  | _ :: _, [], h => h.elim
theorem re_allSome {te : TE} {m : PT (Tu (Option X))} (h : RE G sl te m) : RE G sl te (fun Q => m fun t => ∃ y : List X, t.l = y.map Option.some ∧ Q (Tu.mk y)) := fun σ A F H Qp Q E hm k =>
  h σ A F H _ Q E hm fun x v F1 H1 ⟨y, e, q⟩ g1 E1 r1 => k (Tu.mk y) v F1 H1 q g1 E1 (by
    obtain ⟨a, vs, e1, f, ha, hl⟩ := r1
    rw [e] at hl
    exact ⟨a, vs, e1, f, ha, hl.some⟩)
/-! a, b = a list of two -/
theorem rt_li2 {vs : List Nat} {g1 g2 : TG} {p : List X} {B D' : Type} {s1 : X → B → List Sl} {n1 : X → PT B} {s2 : X → X → B → D' → List Sl} {n2 : X → X → B → PT D'} (h1 : ∀ x, RT G sl vs g1 x (s1 x) (n1 x)) (h2 : ∀ x y b, RT G (s1 x b) vs g2 y (s2 x y b) (n2 x y b)) :
    RT G sl vs (gUnl K 2 (gCons g1 (gCons g2 gNil))) p (fun b : X × X × B × D' => s2 b.1 b.2.1 b.2.2.1 b.2.2.2) (fun Q => ∃ x y, p = [x, y] ∧ n1 x fun b => n2 x y b fun c => Q (x, y, b, c)) := fun σ A F H v Qp Q E r hq k => by
  obtain ⟨a, us, rfl, f, ha, rl⟩ := r
  obtain ⟨x, y, e, hq⟩ := hq
  rw [e] at rl
  match us, rl with
  | [u, w], rl =>
    refine ⟨a, [u, w], rfl, SqL.of ha, rfl, u, [w], rfl, ?_⟩
    refine h1 x σ A F H u _ _ E rl.1 hq fun b σ1 q1 E1 b1 w1 => ⟨w, [], rfl, ?_⟩
    exact h2 x y b σ1 A F H w _ _ E1 rl.2.1 q1 fun c σ2 q2 E2 b2 w2 => ⟨rfl, k (x, y, b, c) σ2 q2 E2 (fun F' H' g E3 => b1 F' H' g (b2 F' H' g E3)) (w2.trans w1)⟩
theorem rt_li2n {vs : List Nat} {i j : Nat} {p : List X} (n1 : NotOwn sl i) (n2 : ∀ x : X, NotOwn (sl.set i (.dat x)) j) (hi : i ∈ vs) (hj : j ∈ vs) :
    RT G sl vs (gUnl K 2 (gCons (gName i) (gCons (gName j) gNil))) p (fun b : X × X => (sl.set i (.dat b.1)).set j (.dat b.2)) (fun Q => ∃ x y, p = [x, y] ∧ Q (x, y)) := fun σ A F H v Qp Q E r hq k => by
  obtain ⟨x, y, e, hq⟩ := hq
  exact rt_li2 (fun x => rt_name n1 hi) (fun x y _ => rt_name (n2 x) hj) σ A F H v (fun b => Qp (b.1, b.2.1)) Q E r ⟨x, y, e, hq⟩ fun b σ' q E' b1 w1 => k (b.1, b.2.1) σ' q E' b1 w1
theorem rb_asgL2 {te : TE} {vs : List Nat} {g : TG} {m : PT (List X)} {sl' : X × X → List Sl} {w : X → X → Prop} (h : RE G sl te m) (ht : ∀ p : List X, RT G sl vs g p sl' (fun Q => ∃ x y, p = [x, y] ∧ Q (x, y))) (k : ∀ u v, RB G (sl' (u, v)) D.nx (w u v)) :
    RB G sl (tAsg te g D) (m fun p => ∃ u v, p = [u, v] ∧ w u v) := rb_asgT (n := fun p Q => ∃ x y, p = [x, y] ∧ Q (x, y)) (w := fun _ b => w b.1 b.2) h ht (fun _ b => k b.1 b.2)
/-! evenings that are compared by their own __eq__ -/
structure CTE (K : PySem.W.Frag) (C : CA) : Prop where
  mo : PySem.W.mroIn K C.Evening (.type "object") = some true
  ne : PySem.W.findIn K (.ref C.Evening) "__ne__" = some (some (.builtin "object.__ne__"))
theorem re_evNe {ta tb : TE} {m n : PT Ev} {wa : List Sl → PT Bool} (ha : RE G sl ta m) (hb : RE G sl tb n) : RE G sl (tOp (rOwnNe G.C.Evening (SpA G.C wa)) ta tb) (fun Q => m fun x => n fun y => wa [.dat (X := Ev) x, .dat (X := Ev) y] fun b => Q (!b)) := fun σ A F H Qp Q E hm k =>
  ha σ A F H _ _ E hm fun x v F1 H1 q1 g1 E1 r1 => hb σ A F1 H1 _ _ E1 q1 fun y w F2 H2 q2 g2 E2 r2 => by
    have r1' := Rp.mono g2.ge r1
    obtain ⟨t1, d1, a1, b1, e1, f1, h1, _⟩ := id r1'
    obtain ⟨t2, d2, a2, b2, e2, f2, h2, _⟩ := id r2
    subst e1
    subst e2
    refine ⟨t1, d1, _, t2, d2, _, rfl, rfl, h1, h2, [.dat (X := Ev) x, .dat (X := Ev) y], F2, _, ?_, E2.ok.al, q2, fun r u F3 H3 q3 p3 r3 => ⟨r, r3, ?_⟩⟩
    · exact ⟨r1', r2, rfl⟩
    · exact k _ _ F3 H3 q3 ((g1.trans g2).trans p3.nw.gk) (E2.newk p3.nw) (by show V.bl _ = V.bl _; rfl)
theorem re_isiEv {te : TE} {m : PT Ev} (T : EvIs K G.C) (h : RE G sl te m) : RE G sl (tCB (rIsi K) (tCons te (tCons (tC (.ref G.C.Evening)) tNil))) (fun Q => m fun _ => Q true) := fun σ A F H Qp Q E hm k =>
  h σ A F H _ _ E hm fun x v F1 H1 q1 g1 E1 r1 => by
    obtain ⟨a, dx, vo, vd, rfl, f, ha, _⟩ := id r1
    exact ⟨_, .ref G.C.Evening, .ref G.C.Evening, .ref G.C.Evening, _, rfl, .own _, .base (.ins ha T.cl T.ha T.hn T.htk T.hm), kit_same, k _ _ F1 H1 q1 g1 E1 rfl⟩
end
end QV

namespace QV
open PySem L2 QW
local macro_rules | `(tactic| walk_at "side") => `(tactic| first
  | exact ⟨by decide, by decide⟩
  | exact ⟨by decide, by decide, by decide⟩
  | decide
  | assumption
  | omega
  | (show (0 : Int) < _; omega)
  | exact ⟨by omega, by assumption⟩
  | exact IntMulOk.of_right (PySem.intBits_le_64 (by omega) (by omega))
  | exact IntMulOk.of_left (PySem.intBits_le_64 (by omega) (by omega)))
local macro_rules | `(tactic| walk_at "ne") => `(tactic| first
  | assumption
  | (apply Ne.symm; assumption)
  | ((with_reducible apply ne_fresh); (focus assumption); walk_at "keep")
  | ((with_reducible apply ne_fresh'); (focus assumption); walk_at "keep"))
local macro_rules | `(tactic| walk_at "keep") => `(tactic| first
  | assumption
  | (with_reducible exact upd_same)
  | ((with_reducible apply sm_at); (focus assumption); walk_at "keep")
  | ((with_reducible apply sm_im); (focus assumption); walk_at "keep")
  | ((with_reducible apply sm_iml); (focus assumption); walk_at "keep")
  | ((with_reducible apply sm_hand); (focus assumption); walk_at "keep")
  | ((with_reducible apply kl_im); (focus assumption); walk_at "keep")
  | ((with_reducible apply sm_th); (focus assumption); walk_at "keep")
  | ((with_reducible apply kl_th); (focus assumption); walk_at "keep")
  | ((with_reducible apply kl_iml); (focus assumption); walk_at "keep")
  | ((with_reducible apply kl_tup); (focus assumption); walk_at "keep")
  | ((with_reducible apply kl_ins); (focus assumption); walk_at "keep")
  | ((with_reducible apply kl_at); (focus assumption); (focus (walk_at "ne")); walk_at "keep")
  | ((with_reducible refine kl_hand (by assumption) (by assumption) ?_ ?_) <;> walk_at "keep"))
local macro_rules | `(tactic| walk_at "sm") => `(tactic| first
  | assumption
  | (with_reducible exact Same.refl _)
  | (with_reducible exact KL.refl)
  | ((with_reducible refine Same.trans ?_ (by assumption)); walk_at "sm")
  | ((with_reducible refine KL.same ?_ (by assumption)); walk_at "sm")
  | ((with_reducible refine KL.trans ?_ (by assumption)); walk_at "sm")
  | ((with_reducible refine same_loc ?_ (by assumption) ?_); (focus (walk_at "sm")); walk_at "free")
  | ((with_reducible refine KL.loc ?_ (by assumption) ?_); (focus (walk_at "sm")); walk_at "free")
  | ((with_reducible refine Same.kl ?_); walk_at "sm"))
local macro_rules | `(tactic| walk_at "free") => `(tactic| first
  | assumption
  | ((with_reducible refine' Same.free' (by assumption) ?_); walk_at "free")
  | ((with_reducible refine' KL.free (by assumption) ?_); walk_at "free"))
local macro_rules | `(tactic| walk_at "st") => `(tactic| first
  | with_reducible apply i_seq
  | with_reducible apply i_set
  | ((with_reducible apply i_var); exact rfl)
  | with_reducible apply i_c
  | with_reducible apply i_op
  | with_reducible apply i_rI0
  | with_reducible apply i_ret
  | with_reducible apply i_test
  | with_reducible apply i_bk
  | with_reducible apply i_nil
  | with_reducible apply i_cons
  | with_reducible apply i_drop
  | with_reducible apply i_ifS
  | with_reducible apply i_and
  | with_reducible apply i_or
  | with_reducible apply i_not
  | with_reducible apply i_andV
  | with_reducible apply i_orV
  | with_reducible apply i_notV
  | with_reducible apply i_ifE
  | with_reducible apply i_chain
  | with_reducible apply i_b
  | with_reducible apply i_cb
  | with_reducible apply i_un
  | with_reducible apply i_rU
  | with_reducible apply i_next
  | with_reducible apply i_break
  | with_reducible apply i_cont
  | with_reducible apply i_asg
  | with_reducible apply i_gname
  | with_reducible apply i_gsub
  | with_reducible apply i_tupE
  | with_reducible apply i_lstE
  | with_reducible apply i_callE
  | with_reducible apply i_make
  | with_reducible apply i_abs
  | with_reducible apply i_int1
  | with_reducible apply i_max2
  | with_reducible apply i_min2
  | with_reducible apply i_bm
  | with_reducible apply i_sl
  | with_reducible apply i_noPart
  | with_reducible apply i_part
  | with_reducible apply i_partI
  | with_reducible apply i_gcd
  | with_reducible apply i_fld
  | with_reducible apply i_revL
  | with_reducible apply i_forR
  | with_reducible apply i_forT
  | with_reducible apply i_forET
  | with_reducible apply i_lcE
  | with_reducible apply i_sortSet
  | with_reducible apply i_forL
  | with_reducible apply i_lcR
  | with_reducible apply i_meth
  | with_reducible apply i_sfld
  | with_reducible apply i_augS
  | with_reducible apply i_ipI
  | with_reducible apply i_lcT
  | with_reducible apply i_lcL
  | with_reducible apply i_lcFl
  | with_reducible apply i_isi_ii
  | with_reducible apply i_isi_bb
  | with_reducible apply i_notB
  | with_reducible apply i_isB
  | with_reducible apply i_lcTt
  | with_reducible apply i_lcR2
  | with_reducible apply i_rz
  | with_reducible apply i_makeS
  | with_reducible apply i_mkO
  | with_reducible apply i_ost
  | with_reducible apply i_xf
  | with_reducible apply i_yes
  | with_reducible apply i_tryMany
  | with_reducible apply i_tryAs
  | with_reducible apply i_callS
  | with_reducible apply i_tupRg1
  | with_reducible apply i_lstRg1
  | with_reducible apply i_revT
  | ((with_reducible refine i_dnew ?_); intro p H' hp s e)
  | ((with_reducible refine i_disp1 ?_); intro p H' kvs hp s e)
  | with_reducible apply i_isi_ib
  | ((with_reducible refine' i_isi_tt ?h ?_); (case h => walk_at "keep"))
  | ((with_reducible apply i_eq); exact rfl)
  | ((with_reducible apply i_ne); exact rfl)
  | ((with_reducible apply i_ixL); (focus (walk_at "keep")); (focus (exact rfl)))
  | ((with_reducible apply i_ixT); (focus (walk_at "keep")); (focus (exact rfl)))
  | ((with_reducible refine' i_setL ?h ?e ?_); (case h => walk_at "keep"); (case e => exact rfl); intro H' s e)
  | ((with_reducible apply i_len); (focus (walk_at "keep")))
  | ((with_reducible apply i_lenT); (focus (walk_at "keep")))
  | ((with_reducible refine' i_revL' ?h ?_); (case h => walk_at "keep"); intro p H' hp s e)
  | ((with_reducible refine' i_slL ?h ?_); (case h => walk_at "keep"); intro p H' hp s e)
  | ((with_reducible refine' i_gtup2 ?h ?_); (case h => walk_at "keep"))
  | ((with_reducible refine' i_gtup12 ?h ?h2 ?_); (case h => walk_at "keep"); (case h2 => walk_at "keep"))
  | ((with_reducible refine' i_gtup3 ?h ?_); (case h => walk_at "keep"))
  | ((with_reducible refine' i_tyL ?h ?_); (case h => walk_at "keep"))
  | ((with_reducible refine' i_newO ?h ?_); (case h => (simp only [List.length_cons, List.length_nil]; decide)); intro p H' hp s e)
  | ((with_reducible refine' i_rI ?c ?_); (case c => walk_at "side"))
  | (with_reducible refine' ite_ndT ?_)
  | (with_reducible refine' ite_dT ?_)
  | (with_reducible refine' iteT ?_)
  | (with_reducible refine' iteF ?_)
  | (with_reducible refine' ite_nT ?_)
  | (with_reducible refine' ite_nF ?_))
local macro_rules | `(tactic| walk_at "go") => `(tactic| repeat (walk_at "st"))

/-! ### the hand: [cells, i, h, s, k] -/
instance : Ow Dice := ⟨fun C F H as v _ => ∃ m c, v = .ref m ∧ as = [m] ∧ F c ∧ Hand H m c,
  fun g k ⟨m, c, e, ea, f, i, h, s, k', cells, h1, h2, n, h3⟩ => ⟨m, c, e, ea, (g _ _ f h2).1, i, h, s, k', cells, k m (by rw [ea]; simp) _ h1, (g _ _ f h2).2, n, h3⟩,
  fun ⟨m, c, e, ea, f, i, h, s, k', cells, h1, h2, n, h3⟩ b hb => by
    rw [ea] at hb
    have : b = m := by simpa using hb
    rw [this, h1]; exact fun z => by cases z⟩
@[reducible] def N_L_draw : List Str := ["_law_hand_here", "_law_many", "_law_cell", "_law_digit", "_law_number"]
def spo_L_draw (K : PySem.W.Frag) : Sp := fun vs H Q _ => ∃ (m c : Addr) (n : Int), vs = [.ref m, .int n] ∧ Hand H m c ∧ 0 < n ∧ n.natAbs.log2 < 9000 ∧
  ∀ d H', 0 ≤ d → d < n → KL m H H' → Hand H' m c → Q (.int d) H'
@[reducible] def to_L_draw (K : PySem.W.Frag) : TS :=
  (tSeq (tIfS (tAnd (tTest (tOp rEq (tOp (rIxL K) (tVar 0) (tC (.int 2))) (tC (.int 0)))) (tTest (tOp oLt (tOp (rIxL K) (tVar 0) (tC (.int 1))) (tCB (cLen K) (tCons (tOp (rIxL K) (tVar 0) (tC (.int 0))) tNil))))) (tSeq (tAsg (tOp (rIxL K) (tOp (rIxL K) (tVar 0) (tC (.int 0))) (tOp (rIxL K) (tVar 0) (tC (.int 1)))) (gName 2)) (tSeq (tAsg (tOp oAdd (tOp (rIxL K) (tVar 0) (tC (.int 1))) (tC (.int 1))) (gSub (tVar 0) (tC (.int 1)) rSetL)) (tSeq (tAsg (tOp oMod (tCB cInt1 (tCons (tOp oAdd (tOp oAdd (tOp oMul (tOp (rIxL K) (tVar 0) (tC (.int 3))) (tC (.int 69621))) (tVar 2)) (tC (.int 11))) tNil)) (tC (.int 2147483629))) (gSub (tVar 0) (tC (.int 3)) rSetL)) (tIfS (tTest (tOp oGe (tVar 2) (tOp oPow (tC (.int 10)) (tC (.int 18))))) (tAsg (tVar 2) (gSub (tVar 0) (tC (.int 2)) rSetL)) tNext)))) tNext) (tSeq (tIfS (tTest (tOp oGt (tOp (rIxL K) (tVar 0) (tC (.int 2))) (tC (.int 0)))) (tSeq (tAsg (tOp oMod (tCB cInt1 (tCons (tOp (rIxL K) (tVar 0) (tC (.int 2))) tNil)) (tVar 1)) (gName 3)) (tSeq (tAsg (tOp oDiv (tOp (rIxL K) (tVar 0) (tC (.int 2))) (tVar 1)) (gSub (tVar 0) (tC (.int 2)) rSetL)) (tRet (tVar 3)))) tNext) (tSeq (tAsg (tOp oAdd (tOp (rIxL K) (tVar 0) (tC (.int 4))) (tC (.int 1))) (gSub (tVar 0) (tC (.int 4)) rSetL)) (tSeq (tAsg (tOp oMod (tCB cInt1 (tCons (tOp oMul (tCB cInt1 (tCons (tOp oAdd (tOp (rIxL K) (tVar 0) (tC (.int 3))) (tOp oMul (tC (.int 7919)) (tOp (rIxL K) (tVar 0) (tC (.int 4))))) tNil)) (tC (.int 48271))) tNil)) (tC (.int 2147483647))) (gName 4)) (tSeq (tAsg (tOp oMod (tCB cInt1 (tCons (tOp oMul (tVar 4) (tOp oAdd (tOp oDiv (tVar 4) (tC (.int 1009))) (tC (.int 69621)))) tNil)) (tC (.int 2147483647))) (gName 4)) (tSeq (tAsg (tOp oMod (tCB cInt1 (tCons (tOp oMul (tVar 4) (tOp oAdd (tOp oDiv (tVar 4) (tC (.int 2003))) (tC (.int 40692)))) tNil)) (tC (.int 2147483399))) (gName 4)) (tRet (tOp oMod (tCB cInt1 (tCons (tOp oDiv (tVar 4) (tC (.int 16))) tNil)) (tVar 1)))))))))
theorem rdo_L_draw {K : PySem.W.Frag} {vs : List V} {H : Hp} {Q : VK} {E : XK} (h : spo_L_draw K vs H Q E) : to_L_draw K { nx := fun _ H' => Q .non H', rt := Q } (L2.start N_L_draw vs) H := by
  obtain ⟨m, c, n, rfl, ⟨i, x, s, k, cells, hm, hc, ne, i0⟩, n0, n1, q⟩ := h
  unfold to_L_draw
  refine i_cut (fun σ' H' => ∃ y, σ' = [some (.ref m), some (.int n), y, none, none] ∧ KL m H H' ∧ Hand H' m c) (fun N hN => ?_) ?_
  · walk_at "go"
    refine ite_d (fun hx => ?_) (fun hx => ?_)
    · walk_at "go"
      refine ite_d (fun hi => ?_) (fun hi => ?_)
      · obtain ⟨z, _, ez⟩ := atI_ints i0 (by simpa using hi)
        walk_at "go"
        refine i_ixL hc ez ?_
        walk_at "go"
        refine ite_d (fun hi => ?_) (fun hi => ?_)
        all_goals (walk_at "go"; exact hN _ _ ⟨_, rfl, by walk_at "sm", _, _, _, _, _, by assumption, by walk_at "keep", ne, by omega⟩)
      · walk_at "go"
        exact hN _ _ ⟨none, rfl, KL.refl, i, x, s, k, cells, hm, hc, ne, i0⟩
    · walk_at "go"
      exact hN _ _ ⟨none, rfl, KL.refl, i, x, s, k, cells, hm, hc, ne, i0⟩
  · rintro σ H1 ⟨y, rfl, kl, i, x, s, k, cells, hm, hc, ne, i0⟩
    walk_at "go"
    refine ite_d (fun hx => ?_) (fun hx => ?_)
    · walk_at "go"
      exact q _ _ (Int.emod_nonneg _ (by omega)) (Int.emod_lt_of_pos _ n0) (by walk_at "sm") ⟨_, _, _, _, _, by assumption, by walk_at "keep", ne, i0⟩
    · walk_at "go"
      exact q _ _ (Int.emod_nonneg _ (by omega)) (Int.emod_lt_of_pos _ n0) (by walk_at "sm") ⟨_, _, _, _, _, by assumption, by walk_at "keep", ne, i0⟩
@[reducible] def t_L_draw (C : CA) : TS := to_L_draw C.K
@[reducible] def N_L_hand : List Str := ["_law_script", "_law_cells", "_law_cell"]
@[reducible] def t_L_hand (C : CA) : TS :=
  (tSeq (tAsg (tLc (iList C.K (tSl (rSlL C.K) (tVar 0) tNoPart (tPart (tC (.int 63))))) (gName 2) tYes (tCB cAbs (tCons (tCB cInt1 (tCons (tVar 2) tNil)) tNil)) [2]) (gName 1)) (tRet (tLst (tCons (tVar 1) (tCons (tC (.int 0)) (tCons (tC (.int 0)) (tCons (tOp oAdd (tC (.int 1)) (tCB (cLen C.K) (tCons (tVar 1) tNil))) (tCons (tC (.int 0)) tNil))))))))
theorem KL.post {m c : Addr} {F : Rg} {H H' : Hp} (al : ∀ b, F b → H b ≠ none) (k : KL m H H') (h : Hand H' m c) : Post H F (fun a => a ∈ [m]) F H' :=
  ⟨fun _ f => f, fun _ f => .inl f, fun b o hb e => k.keep b o (fun z => hb (by rw [z]; simp)) e, fun b e => k.live b e, fun b f e => al b f (k.live b e)⟩
def w_L_draw (n : Int) (Q : Int → Prop) : Prop := (0 < n ∧ n.natAbs.log2 < 9000) ∧ ∀ d, 0 ≤ d → d < n → Q d
def wa_L_draw : List Sl → (Int → Dice → Prop) → Prop := fun args Q => ∃ n : Int, args = [.own Dice.mk, .dat (X := Int) n] ∧ w_L_draw n (fun r => Q r Dice.mk)
@[reducible] def sp_L_draw (C : CA) : Sp := SpO C 0 wa_L_draw
theorem rd_L_draw {C : CA} {vs : List V} {H : Hp} {Q : VK} {E : XK} (h : sp_L_draw C vs H Q E) : t_L_draw C { nx := fun _ H' => Q .non H', rt := Q } (L2.start N_L_draw vs) H := by
  obtain ⟨args, F, as, w, Qp, ha, hw, al, hf, ⟨n, rfl, ⟨h0, h1⟩, hq⟩, k⟩ := h
  match vs, ha with
  | [v, u], ha =>
    obtain ⟨bs, cs, e, ⟨m, c, rfl, eb, fc, hh⟩, hu, ec⟩ := ha
    subst eb ec
    have e' : as = [m] := by simpa using e
    subst e'
    have hu' : u = .int n := hu
    subst hu'
    have hw' : V.ref m = w := by simpa using hw
    refine rdo_L_draw (E := E) ⟨m, c, n, rfl, hh, h0, h1, fun d H' d0 d1 kl hh' => ?_⟩
    exact k d Dice.mk (.int d) F H' (hq d d0 d1) (KL.post al kl hh') hf ⟨m, c, hw'.symm, rfl, fc, hh'⟩ rfl
def w_L_hand (s : Scr) (Q : Dice → Prop) : Prop := Q Dice.mk
def wa_L_hand : List Sl → PT Dice := fun args Q => ∃ s : Scr, args = [.dat (X := Scr) s] ∧ w_L_hand s Q
@[reducible] def sp_L_hand (C : CA) : Sp := SpN C wa_L_hand
theorem rd_L_hand {C : CA} {vs : List V} {H : Hp} {Q : VK} {E : XK} (h : sp_L_hand C vs H Q E) : t_L_hand C { nx := fun _ H' => Q .non H', rt := Q } (L2.start N_L_hand vs) H :=
  def_N h fun args Qp hwa => by
    obtain ⟨s, rfl, hw⟩ := hwa
    refine ⟨rfl, 2, rfl, (∀ ns : List Int, Qp Dice.mk), fun _ => hw, fun H0 F0 D hr => ?_⟩
    refine rb_imp (w := Sz (cutL s.ns none (some 63)).length ∧ (fun ns : List Int => ∀ ns : List Int, Qp Dice.mk) ((cutL s.ns none (some 63)).map fun i => ((i.natAbs : Nat) : Int))) ?_ (fun h => ⟨by
      unfold cutL
      rw [List.length_take]
      have : HT.sIx s.ns.length s.ns.length (some 63) ≤ 63 := by unfold HT.sIx; simp; omega
      show _ ≤ 1000000
      omega, fun ns => h []⟩)
    refine rb_seq (rb_asg (m := fun Q => Sz (cutL s.ns none (some 63)).length ∧ Q ((cutL s.ns none (some 63)).map fun i => ((i.natAbs : Nat) : Int))) (w := fun ns => ∀ ns : List Int, Qp Dice.mk) (re_of_ro (ro_map (vs := [2]) (rwo_list (rv_dat (re_of_ro (ro_slScr (re_var (i := 0) rfl) rp_none (rp_some re_int))))) (notOwns_of rfl) (fun x => rl_all (rt_name (i := 2) (notOwn_of rfl) (by decide)) (fun _ => re_cb1 c_abs (re_cb1 c_int (re_var (i := 2) rfl)))))) (notOwn_of rfl) (fun ns => ?_))
    intro σ A F H E hq
    obtain ⟨v, h1, a, vs, rfl, f, ha, hl⟩ := E.dat (i := 1) (x := ns) rfl
    have hl := hl.ints
    subst hl
    refine ⟨_, h1, _, h1, .ref a, _, rfl, .inl ⟨_, SqL.of ha, rfl⟩, 1, _, rfl, rfl, by show 5 ≤ sizeLine; decide, fun p hp => ?_⟩
    have nap : a ≠ p := fun z => by rw [z, hp] at ha; cases ha
    have n : New F H F (upd H p (.lst [.ref a, .int 0, .int 0, .int (1 + (((ns.map V.int).length : Nat) : Int)), .int 0])) := New.same' (same_upd hp)
    refine hr _ σ A F _ Dice.mk (.ref p) [p] (E.newk n) ⟨p, a, rfl, rfl, f, 0, 0, _, 0, ns, upd_same, by rw [upd_ne nap]; exact ha, nap, Int.le_refl _⟩ (fun b hb => ?_) (hq [])
    have : b = p := by simpa using hb
    subst this
    exact ⟨fun f => E.ok.al _ f hp, .inr (E.ok.live _ hp)⟩
end QV

namespace QV
open PySem L2 QW

/-! ### _law_cut -/
@[reducible] def N_L_cut : List Str := ["_law_hand_here", "_law_full", "_law_many", "_law_left", "_law_parts", "_law_k", "_law_more", "_law_at"]
def w_L_cut (full : Int) (many : Int) (Qp : (List Int) → Prop) : Prop :=
  RgB (many - (1 : Int)) ∧ forP (rngI 0 (many - (1 : Int))) (([] : List Int), full - many) (fun (x_3 : Int) (s_2 : (List Int) × Int) kn_12 kb_13 => CDivW s_2.2 (many - x_3) ∧ IntMulOk (2 : Int) (s_2.2 / (many - x_3)) ∧ w_L_draw ((min s_2.2 (((2 : Int) * (s_2.2 / (many - x_3))) + (1 : Int))) + (1 : Int)) (fun x_20 => (fun more_18 : Int => Sz (s_2.1.length + 1) ∧ kn_12 (s_2.1 ++ [(1 : Int) + more_18], s_2.2 - more_18)) x_20)) (fun s_2 : (List Int) × Int => Sz (s_2.1.length + 1) ∧ w_L_draw many (fun x_23 => (fun at__22 : Int => Sz ((cutL (s_2.1 ++ [(1 : Int) + s_2.2]) (some at__22) none).length + (cutL (s_2.1 ++ [(1 : Int) + s_2.2]) none (some at__22)).length) ∧ Qp ((cutL (s_2.1 ++ [(1 : Int) + s_2.2]) (some at__22) none) ++ (cutL (s_2.1 ++ [(1 : Int) + s_2.2]) none (some at__22)))) x_23))
def wa_L_cut : List Sl → ((List Int) → Dice → Prop) → Prop := fun args Q => ∃ full : Int, ∃ many : Int, args = [.own Dice.mk, .dat (X := Int) full, .dat (X := Int) many] ∧ w_L_cut full many (fun r => Q r Dice.mk)
@[reducible] def sp_L_cut (C : CA) : Sp := SpO C 0 wa_L_cut
@[reducible] def t_L_cut (C : CA) : TS :=
  (tSeq (tAsg (tOp oSub (tVar 1) (tVar 2)) (gName 3)) (tSeq (tAsg (tLst tNil) (gName 4)) (tSeq (tFor (iRng1 (tCons (tOp oSub (tVar 2) (tC (.int 1))) tNil)) (gName 5) (tSeq (tAsg (tCall (sp_L_draw C) [] E0 (tCons (tVar 0) (tCons (tOp oAdd (tCB cMin2 (tCons (tVar 3) (tCons (tOp oAdd (tOp oMul (tC (.int 2)) (tOp oDiv (tVar 3) (tOp oSub (tVar 2) (tVar 5)))) (tC (.int 1))) tNil))) (tC (.int 1))) tNil))) (gName 6)) (tSeq (tDrop (tBM C.K "list" rAppend (tVar 4) (tCons (tOp oAdd (tC (.int 1)) (tVar 6)) tNil))) (tAsg (tOp oSub (tVar 3) (tVar 6)) (gName 3))))) (tSeq (tDrop (tBM C.K "list" rAppend (tVar 4) (tCons (tOp oAdd (tC (.int 1)) (tVar 3)) tNil))) (tSeq (tAsg (tCall (sp_L_draw C) [] E0 (tCons (tVar 0) (tCons (tVar 2) tNil))) (gName 7)) (tRet (tOp rCat (tSl (rSlL C.K) (tVar 4) (tPart (tVar 7)) tNoPart) (tSl (rSlL C.K) (tVar 4) tNoPart (tPart (tVar 7))))))))))
theorem rd_L_cut {C : CA} {vs : List V} {H : Hp} {Q : VK} {E : XK} (h : sp_L_cut C vs H Q E) : t_L_cut C { nx := fun _ H' => Q .non H', rt := Q } (L2.start N_L_cut vs) H :=
  def_O h fun args Qp hwa => by
    obtain ⟨full, many, rfl, hw⟩ := hwa
    refine ⟨rfl, ⟨_, rfl⟩, 5, rfl, _, hw, fun H0 F0 w0 as0 D hr hn => ?_⟩
    have hb : RB (GO C H0 F0 0 w0 as0) ([.own Dice.mk, .dat (X := Int) full, .dat (X := Int) many] ++ unS 5) (t_L_cut C D) _ := (rb_seq (rb_asg_v (x := full - many) (i := 3) (re_op o_sub (re_var (i := 1) rfl) (re_var (i := 2) rfl)) (notOwn_of rfl) (rb_seq (rb_asgO_v (x := ([] : List Int)) (i := 4) (ro_lst (X := Int) ral_nil) (notOwn_of rfl) (show 4 < 8 by decide) (rb_seq (rb_for (sl := [.own (X := Dice) (Dice.mk), .dat (X := Int) (full), .dat (X := Int) (many), .dat (X := Int) (full - many), .own (X := (List Int)) (([] : List Int)), .un, .un, .un]) (pin := (some 0)) (vs := [5]) (fun s_2 : (List Int) × Int => [.own (X := Dice) (Dice.mk), .dat (X := Int) (full), .dat (X := Int) (many), .dat (X := Int) (s_2.2), .own (X := (List Int)) (s_2.1), .un, .un, .un]) (([] : List Int), full - many) (rw_rng1 (re_op o_sub (re_var (i := 2) rfl) re_int)) rfl ⟨.inl rfl, .inl rfl, .inl rfl, .inl rfl, .inl rfl, .inl rfl, .inl rfl, .inl rfl, trivial⟩ (fun H_7 F_8 w_9 L_10 x_3 s_2 D_11 kn_12 kb_13 hN_14 hC_15 hB_16 hE_17 => ⟨(rt_name (i := 5) (notOwn_of rfl) (by decide)), fun _ => (rb_seq (rb_asg (i := 6) (re_imp (m' := (fun Q => CDivW s_2.2 (many - x_3) ∧ IntMulOk (2 : Int) (s_2.2 / (many - x_3)) ∧ w_L_draw ((min s_2.2 (((2 : Int) * (s_2.2 / (many - x_3))) + (1 : Int))) + (1 : Int)) Q)) (re_callD (W := Dice) (j := 0) (wa := wa_L_draw) (i := 0) rfl (ra_own (i := 0) rfl (ra_dat (re_hat (re_op o_add (re_cb2 c_min2 (re_var (i := 3) rfl) (re_op o_add (re_op o_mul re_int (re_op o_div (re_var (i := 3) rfl) (re_op o_sub (re_var (i := 2) rfl) (re_var (i := 5) rfl)))) re_int)) re_int)) ra_nil))) (fun Q h0 => ⟨_, h0, fun a0 h1 => ⟨a0, rfl, h1⟩⟩)) (notOwn_of rfl) (fun more_18 => (rb_seq (rb_drop_v (b := (1 : Int) + more_18) (reg_append (i := 4) (l := s_2.1) rfl (re_op o_add re_int (re_var (i := 6) rfl))) (rb_asg_v (x := s_2.2 - more_18) (i := 3) (re_op o_sub (re_var (i := 3) rfl) (re_var (i := 6) rfl)) (notOwn_of rfl) (rb_leh (sl := [.own (X := Dice) (Dice.mk), .dat (X := Int) (full), .dat (X := Int) (many), .dat (X := Int) (s_2.2 - more_18), .own (X := (List Int)) (s_2.1 ++ [(1 : Int) + more_18]), .dat (X := Int) (x_3), .dat (X := Int) (more_18), .un]) (pin := (some 0)) (hN_14 (s_2.1 ++ [(1 : Int) + more_18], s_2.2 - more_18)) rfl ⟨.inl rfl, .inl rfl, .inl rfl, .inl rfl, .inl rfl, .inr ⟨rfl, by decide⟩, .inr ⟨rfl, by decide⟩, .inl rfl, trivial⟩)))))))⟩) (fun s_2 => (rb_seq (rb_drop_v (b := (1 : Int) + s_2.2) (reg_append (i := 4) (l := s_2.1) rfl (re_op o_add re_int (re_var (i := 3) rfl))) (rb_seq (rb_asg (i := 7) (re_imp (m' := (fun Q => w_L_draw many Q)) (re_callD (W := Dice) (j := 0) (wa := wa_L_draw) (i := 0) rfl (ra_own (i := 0) rfl (ra_dat (re_var (i := 2) rfl) ra_nil))) (fun Q h0 => ⟨many, rfl, h0⟩)) (notOwn_of rfl) (fun at__22 => (rb_retO (i := 0) (y := fun _ => Dice.mk) (RE.g (re_of_ro (ro_cat (rv_dat (re_of_ro (ro_slL (rv_own (i := 4) rfl) (rp_some (re_var (i := 7) rfl)) rp_none))) (rv_dat (re_of_ro (ro_slL (rv_own (i := 4) rfl) rp_none (rp_some (re_var (i := 7) rfl)))))))) rfl (fun _ => rfl) hr)))))))))))))
    exact rb_imp hb (fun h => h)

/-! ### _law_numbers -/
@[reducible] def N_L_numbers : List Str := ["_law_hand_here", "_law_side", "_law_most", "_law_one", "_law_other", "_law_full", "_law_kind", "_law_owed"]
def w_L_numbers (side : Int) (most : Int) (Qp : ((List Int) × (List Int)) → Prop) : Prop :=
  w_L_draw side (fun x_13 => (fun one_1 : Int => w_L_draw side (fun x_12 => (fun other_2 : Int => w_L_draw most (fun x_11 => (fun full_3 : Int => w_L_draw (4 : Int) (fun x_10 => (fun kind_4 : Int => (if (decide (kind_4 = (0 : Int))) = true then w_L_cut full_3 one_1 (fun x_5 => w_L_cut full_3 one_1 (fun x_6 => Qp ((x_5, x_6.reverse)))) else w_L_cut full_3 one_1 (fun x_9 => (fun owed_7 : (List Int) => (if (decide (kind_4 = (1 : Int))) = true then Qp ((owed_7, owed_7.reverse)) else w_L_cut full_3 other_2 (fun x_8 => Qp ((owed_7, x_8))))) x_9))) x_10)) ((max one_1 other_2) + x_11))) ((1 : Int) + x_12))) ((1 : Int) + x_13))
def wa_L_numbers : List Sl → (((List Int) × (List Int)) → Dice → Prop) → Prop := fun args Q => ∃ side : Int, ∃ most : Int, args = [.own Dice.mk, .dat (X := Int) side, .dat (X := Int) most] ∧ w_L_numbers side most (fun r => Q r Dice.mk)
@[reducible] def sp_L_numbers (C : CA) : Sp := SpO C 0 wa_L_numbers
@[reducible] def t_L_numbers (C : CA) : TS :=
  (tSeq (tAsg (tOp oAdd (tC (.int 1)) (tCall (sp_L_draw C) [] E0 (tCons (tVar 0) (tCons (tVar 1) tNil)))) (gName 3)) (tSeq (tAsg (tOp oAdd (tC (.int 1)) (tCall (sp_L_draw C) [] E0 (tCons (tVar 0) (tCons (tVar 1) tNil)))) (gName 4)) (tSeq (tAsg (tOp oAdd (tCB cMax2 (tCons (tVar 3) (tCons (tVar 4) tNil))) (tCall (sp_L_draw C) [] E0 (tCons (tVar 0) (tCons (tVar 2) tNil)))) (gName 5)) (tSeq (tAsg (tCall (sp_L_draw C) [] E0 (tCons (tVar 0) (tCons (tC (.int 4)) tNil))) (gName 6)) (tSeq (tIfS (tTest (tOp rEq (tVar 6) (tC (.int 0)))) (tRet (tTup (tCons (tCall (sp_L_cut C) [] E0 (tCons (tVar 0) (tCons (tVar 5) (tCons (tVar 3) tNil)))) (tCons (tRevL C.K (tCall (sp_L_cut C) [] E0 (tCons (tVar 0) (tCons (tVar 5) (tCons (tVar 3) tNil))))) tNil)))) tNext) (tSeq (tAsg (tCall (sp_L_cut C) [] E0 (tCons (tVar 0) (tCons (tVar 5) (tCons (tVar 3) tNil)))) (gName 7)) (tSeq (tIfS (tTest (tOp rEq (tVar 6) (tC (.int 1)))) (tRet (tTup (tCons (tVar 7) (tCons (tRevL C.K (tVar 7)) tNil)))) tNext) (tRet (tTup (tCons (tVar 7) (tCons (tCall (sp_L_cut C) [] E0 (tCons (tVar 0) (tCons (tVar 5) (tCons (tVar 4) tNil)))) tNil)))))))))))
theorem rd_L_numbers {C : CA} {vs : List V} {H : Hp} {Q : VK} {E : XK} (h : sp_L_numbers C vs H Q E) : t_L_numbers C { nx := fun _ H' => Q .non H', rt := Q } (L2.start N_L_numbers vs) H :=
  def_O h fun args Qp hwa => by
    obtain ⟨side, most, rfl, hw⟩ := hwa
    refine ⟨rfl, ⟨_, rfl⟩, 5, rfl, _, hw, fun H0 F0 w0 as0 D hr hn => ?_⟩
    have hb : RB (GO C H0 F0 0 w0 as0) ([.own Dice.mk, .dat (X := Int) side, .dat (X := Int) most] ++ unS 5) (t_L_numbers C D) _ := (rb_seq (rb_asg (i := 3) (re_op o_add re_int (re_imp (m' := (fun Q => w_L_draw side Q)) (re_callD (W := Dice) (j := 0) (wa := wa_L_draw) (i := 0) rfl (ra_own (i := 0) rfl (ra_dat (re_var (i := 1) rfl) ra_nil))) (fun Q h0 => ⟨side, rfl, h0⟩))) (notOwn_of rfl) (fun one_1 => (rb_nx (rb_seq (rb_asg (i := 4) (re_op o_add re_int (re_imp (m' := (fun Q => w_L_draw side Q)) (re_callD (W := Dice) (j := 0) (wa := wa_L_draw) (i := 0) rfl (ra_own (i := 0) rfl (ra_dat (re_var (i := 1) rfl) ra_nil))) (fun Q h0 => ⟨side, rfl, h0⟩))) (notOwn_of rfl) (fun other_2 => (rb_nx (rb_seq (rb_asg (i := 5) (re_op o_add (re_cb2 c_max2 (re_var (i := 3) rfl) (re_var (i := 4) rfl)) (re_imp (m' := (fun Q => w_L_draw most Q)) (re_callD (W := Dice) (j := 0) (wa := wa_L_draw) (i := 0) rfl (ra_own (i := 0) rfl (ra_dat (re_var (i := 2) rfl) ra_nil))) (fun Q h0 => ⟨most, rfl, h0⟩))) (notOwn_of rfl) (fun full_3 => (rb_nx (rb_seq (rb_asg (i := 6) (re_imp (m' := (fun Q => w_L_draw (4 : Int) Q)) (re_callD (W := Dice) (j := 0) (wa := wa_L_draw) (i := 0) rfl (ra_own (i := 0) rfl (ra_dat re_int ra_nil))) (fun Q h0 => ⟨(4 : Int), rfl, h0⟩)) (notOwn_of rfl) (fun kind_4 => (rb_nx (rb_seq (rb_if (rc_test (re_op o_eqI (re_var (i := 6) rfl) re_int)) (rb_retO (i := 0) (y := fun _ => Dice.mk) (RE.g (re_pair (re_imp (m' := (fun Q => w_L_cut full_3 one_1 Q)) (re_callD (W := Dice) (j := 0) (wa := wa_L_cut) (i := 0) rfl (ra_own (i := 0) rfl (ra_dat (re_var (i := 5) rfl) (ra_dat (re_var (i := 3) rfl) ra_nil)))) (fun Q h0 => ⟨full_3, one_1, rfl, h0⟩)) (re_of_ro (ro_revL (rv_dat (re_imp (m' := (fun Q => w_L_cut full_3 one_1 Q)) (re_callD (W := Dice) (j := 0) (wa := wa_L_cut) (i := 0) rfl (ra_own (i := 0) rfl (ra_dat (re_var (i := 5) rfl) (ra_dat (re_var (i := 3) rfl) ra_nil)))) (fun Q h0 => ⟨full_3, one_1, rfl, h0⟩))))))) rfl (fun _ => rfl) hr) (rb_next (rb_nx (rb_seq (rb_asg (i := 7) (re_imp (m' := (fun Q => w_L_cut full_3 one_1 Q)) (re_callD (W := Dice) (j := 0) (wa := wa_L_cut) (i := 0) rfl (ra_own (i := 0) rfl (ra_dat (re_var (i := 5) rfl) (ra_dat (re_var (i := 3) rfl) ra_nil)))) (fun Q h0 => ⟨full_3, one_1, rfl, h0⟩)) (notOwn_of rfl) (fun owed_7 => (rb_nx (rb_seq (rb_if (rc_test (re_op o_eqI (re_var (i := 6) rfl) re_int)) (rb_retO (i := 0) (y := fun _ => Dice.mk) (RE.g (re_pair (re_var (i := 7) rfl) (re_of_ro (ro_revL (rv_dat (re_var (i := 7) rfl)))))) rfl (fun _ => rfl) hr) (rb_next (rb_nx (rb_retO (i := 0) (y := fun _ => Dice.mk) (RE.g (re_pair (re_var (i := 7) rfl) (re_imp (m' := (fun Q => w_L_cut full_3 other_2 Q)) (re_callD (W := Dice) (j := 0) (wa := wa_L_cut) (i := 0) rfl (ra_own (i := 0) rfl (ra_dat (re_var (i := 5) rfl) (ra_dat (re_var (i := 4) rfl) ra_nil)))) (fun Q h0 => ⟨full_3, other_2, rfl, h0⟩)))) rfl (fun _ => rfl) hr)))))))))))))))))))))))))))))
    exact rb_imp hb (fun h => h)

/-! ### _law_unit -/
@[reducible] def N_L_unit : List Str := ["_law_hand_here", "_law_menu"]
def w_L_unit (Qp : (Int × Int) → Prop) : Prop :=
  CPow (10 : Int) (12 : Int) ∧ CPow (10 : Int) (9 : Int) ∧ (fun menu_1 : (List (Int × Int)) => w_L_draw (9 : Int) (fun x_2 => pAt menu_1 x_2 (fun x_3 => Qp (x_3)))) ([((1 : Int), (1 : Int)), ((1 : Int), (1 : Int)), ((2 : Int), (1 : Int)), ((1 : Int), (2 : Int)), ((3 : Int), (4 : Int)), ((10 : Int), (1 : Int)), ((7 : Int), (3 : Int)), ((10 : Int) ^ ((12 : Int)).toNat, (1 : Int)), ((1 : Int), (10 : Int) ^ ((9 : Int)).toNat)] : List (Int × Int))
def wa_L_unit : List Sl → ((Int × Int) → Dice → Prop) → Prop := fun args Q => args = [.own Dice.mk] ∧ w_L_unit (fun r => Q r Dice.mk)
@[reducible] def sp_L_unit (C : CA) : Sp := SpO C 0 wa_L_unit
@[reducible] def t_L_unit (C : CA) : TS :=
  (tSeq (tAsg (tLst (tCons (tTup (tCons (tC (.int 1)) (tCons (tC (.int 1)) tNil))) (tCons (tTup (tCons (tC (.int 1)) (tCons (tC (.int 1)) tNil))) (tCons (tTup (tCons (tC (.int 2)) (tCons (tC (.int 1)) tNil))) (tCons (tTup (tCons (tC (.int 1)) (tCons (tC (.int 2)) tNil))) (tCons (tTup (tCons (tC (.int 3)) (tCons (tC (.int 4)) tNil))) (tCons (tTup (tCons (tC (.int 10)) (tCons (tC (.int 1)) tNil))) (tCons (tTup (tCons (tC (.int 7)) (tCons (tC (.int 3)) tNil))) (tCons (tTup (tCons (tOp oPow (tC (.int 10)) (tC (.int 12))) (tCons (tC (.int 1)) tNil))) (tCons (tTup (tCons (tC (.int 1)) (tCons (tOp oPow (tC (.int 10)) (tC (.int 9))) tNil))) tNil)))))))))) (gName 1)) (tRet (tOp (rIxL C.K) (tVar 1) (tCall (sp_L_draw C) [] E0 (tCons (tVar 0) (tCons (tC (.int 9)) tNil))))))
theorem rd_L_unit {C : CA} {vs : List V} {H : Hp} {Q : VK} {E : XK} (h : sp_L_unit C vs H Q E) : t_L_unit C { nx := fun _ H' => Q .non H', rt := Q } (L2.start N_L_unit vs) H :=
  def_O h fun args Qp hwa => by
    obtain ⟨rfl, hw⟩ := hwa
    refine ⟨rfl, ⟨_, rfl⟩, 1, rfl, _, hw, fun H0 F0 w0 as0 D hr hn => ?_⟩
    have hb : RB (GO C H0 F0 0 w0 as0) ([.own Dice.mk] ++ unS 1) (t_L_unit C D) _ := (rb_seq (rb_asg (i := 1) (re_of_ro (ro_lst (ral_cons (re_pair re_int re_int) (ral_cons (re_pair re_int re_int) (ral_cons (re_pair re_int re_int) (ral_cons (re_pair re_int re_int) (ral_cons (re_pair re_int re_int) (ral_cons (re_pair re_int re_int) (ral_cons (re_pair re_int re_int) (ral_cons (re_pair (re_op o_pow re_int re_int) re_int) (ral_cons (re_pair re_int (re_op o_pow re_int re_int)) ral_nil))))))))))) (notOwn_of rfl) (fun menu_1 => (rb_retO (i := 0) (y := fun _ => Dice.mk) (RE.g (re_ixL (rv_dat (re_var (i := 1) rfl)) (re_imp (m' := (fun Q => w_L_draw (9 : Int) Q)) (re_callD (W := Dice) (j := 0) (wa := wa_L_draw) (i := 0) rfl (ra_own (i := 0) rfl (ra_dat re_int ra_nil))) (fun Q h0 => ⟨(9 : Int), rfl, h0⟩)))) rfl (fun _ => rfl) hr))))
    exact rb_imp hb (fun h => h)

/-! ### _law_common -/
@[reducible] def N_L_common : List Str := ["_law_one", "_law_other", "_law_turn", "_law_rest"]
def w_L_common (one : Int) (other : Int) (Qp : Int → Prop) : Prop :=
  RgB (600 : Int) ∧ forP (rngI 0 (600 : Int)) (((one).natAbs : Int), ((other).natAbs : Int)) (fun (x_2 : Int) (s_1 : Int × Int) kn_9 kb_10 => (if (decide (s_1.2 = (0 : Int))) = true then kb_10 (s_1.1, s_1.2) else 0 < s_1.2 ∧ (fun rest_15 : Int => kn_9 (s_1.2, rest_15)) (s_1.1 % s_1.2))) (fun s_1 : Int × Int => Qp (s_1.1))
def wa_L_common : List Sl → PT Int := fun args Q => ∃ one : Int, ∃ other : Int, args = [.dat (X := Int) one, .dat (X := Int) other] ∧ w_L_common one other Q
@[reducible] def sp_L_common (C : CA) : Sp := SpA C wa_L_common
@[reducible] def t_L_common (C : CA) : TS :=
  (tSeq (tAsg (tCB cAbs (tCons (tVar 0) tNil)) (gName 0)) (tSeq (tAsg (tCB cAbs (tCons (tVar 1) tNil)) (gName 1)) (tSeq (tFor (iRng1 (tCons (tC (.int 600)) tNil)) (gName 2) (tSeq (tIfS (tTest (tOp rEq (tVar 1) (tC (.int 0)))) tBreak tNext) (tSeq (tAsg (tOp oMod (tCB cInt1 (tCons (tVar 0) tNil)) (tVar 1)) (gName 3)) (tSeq (tAsg (tVar 1) (gName 0)) (tAsg (tVar 3) (gName 1)))))) (tRet (tVar 0)))))
theorem rd_L_common {C : CA} {vs : List V} {H : Hp} {Q : VK} {E : XK} (h : sp_L_common C vs H Q E) : t_L_common C { nx := fun _ H' => Q .non H', rt := Q } (L2.start N_L_common vs) H :=
  def_A h fun args Qp hwa => by
    obtain ⟨one, other, rfl, hw⟩ := hwa
    refine ⟨rfl, 2, rfl, _, hw, fun H0 F0 D hr hn => ?_⟩
    have hb : RB (GA C H0 F0) ([.dat (X := Int) one, .dat (X := Int) other] ++ unS 2) (t_L_common C D) _ := (rb_seq (rb_asg_v (x := ((one).natAbs : Int)) (i := 0) (re_cb1 c_abs (re_var (i := 0) rfl)) (notOwn_of rfl) (rb_seq (rb_asg_v (x := ((other).natAbs : Int)) (i := 1) (re_cb1 c_abs (re_var (i := 1) rfl)) (notOwn_of rfl) (rb_seq (rb_for (sl := [.dat (X := Int) (((one).natAbs : Int)), .dat (X := Int) (((other).natAbs : Int)), .un, .un]) (pin := none) (vs := [2]) (fun s_1 : Int × Int => [.dat (X := Int) (s_1.1), .dat (X := Int) (s_1.2), .un, .un]) (((one).natAbs : Int), ((other).natAbs : Int)) (rw_rng1 re_int) rfl ⟨.inl rfl, .inl rfl, .inl rfl, .inl rfl, trivial⟩ (fun H_4 F_5 w_6 L_7 x_2 s_1 D_8 kn_9 kb_10 hN_11 hC_12 hB_13 hE_14 => ⟨(rt_name (i := 2) (notOwn_of rfl) (by decide)), fun _ => (rb_seq (rb_if (rc_test (re_op o_eqI (re_var (i := 1) rfl) re_int)) (rb_break (rb_leh (sl := [.dat (X := Int) (s_1.1), .dat (X := Int) (s_1.2), .dat (X := Int) (x_2), .un]) (pin := none) (hB_13 (s_1.1, s_1.2)) rfl ⟨.inl rfl, .inl rfl, .inr ⟨rfl, by decide⟩, .inl rfl, trivial⟩)) (rb_next (rb_seq (rb_asg (i := 3) (re_op o_mod (re_cb1 c_int (re_var (i := 0) rfl)) (re_var (i := 1) rfl)) (notOwn_of rfl) (fun rest_15 => (rb_seq (rb_asg_v (x := s_1.2) (i := 0) (re_var (i := 1) rfl) (notOwn_of rfl) (rb_asg_v (x := rest_15) (i := 1) (re_var (i := 3) rfl) (notOwn_of rfl) (rb_leh (sl := [.dat (X := Int) (s_1.2), .dat (X := Int) (rest_15), .dat (X := Int) (x_2), .dat (X := Int) (rest_15)]) (pin := none) (hN_11 (s_1.2, rest_15)) rfl ⟨.inl rfl, .inl rfl, .inr ⟨rfl, by decide⟩, .inr ⟨rfl, by decide⟩, trivial⟩))))))))))⟩) (fun s_1 => (rb_ret (re_var (i := 0) rfl) hr))))))))
    exact rb_imp hb (fun h => h)

/-! ### _law_fraction -/
@[reducible] def N_L_fraction : List Str := ["_law_top", "_law_bottom", "_law_divisor"]
def w_L_fraction (top : Int) (bottom : Int) (Qp : (Int × Int) → Prop) : Prop :=
  w_L_common top bottom (fun x_2 => (fun divisor_1 : Int => CDivW top divisor_1 ∧ CDivW bottom divisor_1 ∧ Qp ((top / divisor_1, bottom / divisor_1))) x_2)
def wa_L_fraction : List Sl → PT (Int × Int) := fun args Q => ∃ top : Int, ∃ bottom : Int, args = [.dat (X := Int) top, .dat (X := Int) bottom] ∧ w_L_fraction top bottom Q
@[reducible] def sp_L_fraction (C : CA) : Sp := SpA C wa_L_fraction
@[reducible] def t_L_fraction (C : CA) : TS :=
  (tSeq (tAsg (tCall (sp_L_common C) [] E0 (tCons (tVar 0) (tCons (tVar 1) tNil))) (gName 2)) (tRet (tTup (tCons (tOp oDiv (tVar 0) (tVar 2)) (tCons (tOp oDiv (tVar 1) (tVar 2)) tNil)))))
theorem rd_L_fraction {C : CA} {vs : List V} {H : Hp} {Q : VK} {E : XK} (h : sp_L_fraction C vs H Q E) : t_L_fraction C { nx := fun _ H' => Q .non H', rt := Q } (L2.start N_L_fraction vs) H :=
  def_A h fun args Qp hwa => by
    obtain ⟨top, bottom, rfl, hw⟩ := hwa
    refine ⟨rfl, 1, rfl, _, hw, fun H0 F0 D hr hn => ?_⟩
    have hb : RB (GA C H0 F0) ([.dat (X := Int) top, .dat (X := Int) bottom] ++ unS 1) (t_L_fraction C D) _ := (rb_seq (rb_asg (i := 2) (re_imp (m' := (fun Q => w_L_common top bottom Q)) (re_call (wa := wa_L_common) (ra_dat (re_var (i := 0) rfl) (ra_dat (re_var (i := 1) rfl) ra_nil))) (fun Q h0 => ⟨top, bottom, rfl, h0⟩)) (notOwn_of rfl) (fun divisor_1 => (rb_ret (re_pair (re_op o_div (re_var (i := 0) rfl) (re_var (i := 2) rfl)) (re_op o_div (re_var (i := 1) rfl) (re_var (i := 2) rfl))) hr))))
    exact rb_imp hb (fun h => h)

/-! ### _law_times -/
@[reducible] def N_L_times : List Str := ["_law_one", "_law_other"]
def w_L_times (one : (Int × Int)) (other : (Int × Int)) (Qp : (Int × Int) → Prop) : Prop :=
  IntMulOk one.1 other.1 ∧ IntMulOk one.2 other.2 ∧ w_L_fraction (one.1 * other.1) (one.2 * other.2) (fun x_1 => Qp (x_1))
def wa_L_times : List Sl → PT (Int × Int) := fun args Q => ∃ one : (Int × Int), ∃ other : (Int × Int), args = [.dat (X := (Int × Int)) one, .dat (X := (Int × Int)) other] ∧ w_L_times one other Q
@[reducible] def sp_L_times (C : CA) : Sp := SpA C wa_L_times
@[reducible] def t_L_times (C : CA) : TS :=
  (tRet (tCall (sp_L_fraction C) [] E0 (tCons (tOp oMul (tOp (rIxT C.K) (tVar 0) (tC (.int 0))) (tOp (rIxT C.K) (tVar 1) (tC (.int 0)))) (tCons (tOp oMul (tOp (rIxT C.K) (tVar 0) (tC (.int 1))) (tOp (rIxT C.K) (tVar 1) (tC (.int 1)))) tNil))))
theorem rd_L_times {C : CA} {vs : List V} {H : Hp} {Q : VK} {E : XK} (h : sp_L_times C vs H Q E) : t_L_times C { nx := fun _ H' => Q .non H', rt := Q } (L2.start N_L_times vs) H :=
  def_A h fun args Qp hwa => by
    obtain ⟨one, other, rfl, hw⟩ := hwa
    refine ⟨rfl, 0, rfl, _, hw, fun H0 F0 D hr hn => ?_⟩
    have hb : RB (GA C H0 F0) ([.dat (X := (Int × Int)) one, .dat (X := (Int × Int)) other] ++ unS 0) (t_L_times C D) _ := (rb_ret (re_imp (m' := (fun Q => IntMulOk one.1 other.1 ∧ IntMulOk one.2 other.2 ∧ w_L_fraction (one.1 * other.1) (one.2 * other.2) Q)) (re_call (wa := wa_L_fraction) (ra_dat (re_hat (re_op o_mul (re_fst (re_var (i := 0) rfl)) (re_fst (re_var (i := 1) rfl)))) (ra_dat (re_hat (re_op o_mul (re_snd (re_var (i := 0) rfl)) (re_snd (re_var (i := 1) rfl)))) ra_nil))) (fun Q h0 => ⟨_, h0, fun a0 h1 => ⟨_, h1, fun a1 h2 => ⟨a0, a1, rfl, h2⟩⟩⟩)) hr)
    exact rb_imp hb (fun h => h)

/-! ### _law_sums -/
@[reducible] def N_L_sums : List Str := ["_law_hand_here", "_law_side", "_law_most", "_law_owed", "_law_due", "_law_unit_here", "_law_number"]
def w_L_sums (side : Int) (most : Int) (Qp : ((Tu (Int × Int)) × (Tu (Int × Int))) → Prop) : Prop :=
  w_L_numbers side most (fun x_10 => (fun p_1 : ((List Int) × (List Int)) => w_L_unit (fun x_9 => (fun unit_2 : (Int × Int) => Sz p_1.1.length ∧ lcP p_1.1 (fun (i_3 : Int) Q => w_L_times (i_3, (1 : Int)) unit_2 (fun x_4 => Q (some x_4))) (fun x_7 => Sz p_1.2.length ∧ lcP p_1.2 (fun (i_5 : Int) Q => w_L_times (i_5, (1 : Int)) unit_2 (fun x_6 => Q (some x_6))) (fun x_8 => Qp ((Tu.mk x_7, Tu.mk x_8))))) x_9)) x_10)
def wa_L_sums : List Sl → (((Tu (Int × Int)) × (Tu (Int × Int))) → Dice → Prop) → Prop := fun args Q => ∃ side : Int, ∃ most : Int, args = [.own Dice.mk, .dat (X := Int) side, .dat (X := Int) most] ∧ w_L_sums side most (fun r => Q r Dice.mk)
@[reducible] def sp_L_sums (C : CA) : Sp := SpO C 0 wa_L_sums
@[reducible] def t_L_sums (C : CA) : TS :=
  (tSeq (tAsg (tCall (sp_L_numbers C) [] E0 (tCons (tVar 0) (tCons (tVar 1) (tCons (tVar 2) tNil)))) (gTup C.K 2 (gCons (gName 3) (gCons (gName 4) gNil)))) (tSeq (tAsg (tCall (sp_L_unit C) [] E0 (tCons (tVar 0) tNil)) (gName 5)) (tRet (tTup (tCons (tCB (cTup C.K) (tCons (tLc (iList C.K (tVar 3)) (gName 6) tYes (tCall (sp_L_times C) [] E0 (tCons (tTup (tCons (tVar 6) (tCons (tC (.int 1)) tNil))) (tCons (tVar 5) tNil))) [6]) tNil)) (tCons (tCB (cTup C.K) (tCons (tLc (iList C.K (tVar 4)) (gName 6) tYes (tCall (sp_L_times C) [] E0 (tCons (tTup (tCons (tVar 6) (tCons (tC (.int 1)) tNil))) (tCons (tVar 5) tNil))) [6]) tNil)) tNil))))))
theorem rd_L_sums {C : CA} {vs : List V} {H : Hp} {Q : VK} {E : XK} (h : sp_L_sums C vs H Q E) : t_L_sums C { nx := fun _ H' => Q .non H', rt := Q } (L2.start N_L_sums vs) H :=
  def_O h fun args Qp hwa => by
    obtain ⟨side, most, rfl, hw⟩ := hwa
    refine ⟨rfl, ⟨_, rfl⟩, 4, rfl, _, hw, fun H0 F0 w0 as0 D hr hn => ?_⟩
    have hb : RB (GO C H0 F0 0 w0 as0) ([.own Dice.mk, .dat (X := Int) side, .dat (X := Int) most] ++ unS 4) (t_L_sums C D) _ := (rb_seq (rb_asgT (vs := [3, 4]) (re_imp (m' := (fun Q => w_L_numbers side most Q)) (re_callD (W := Dice) (j := 0) (wa := wa_L_numbers) (i := 0) rfl (ra_own (i := 0) rfl (ra_dat (re_var (i := 1) rfl) (ra_dat (re_var (i := 2) rfl) ra_nil)))) (fun Q h0 => ⟨side, most, rfl, h0⟩)) (fun p_1 => (rt_pair (rt_name (i := 3) (notOwn_of rfl) (by decide)) (fun _ => (rt_name (i := 4) (notOwn_of rfl) (by decide))))) (fun p_1 _ => (rb_seq (rb_asg (i := 5) (re_imp (m' := (fun Q => w_L_unit Q)) (re_callD (W := Dice) (j := 0) (wa := wa_L_unit) (i := 0) rfl (ra_own (i := 0) rfl ra_nil)) (fun Q h0 => ⟨rfl, h0⟩)) (notOwn_of rfl) (fun unit_2 => (rb_retO (i := 0) (y := fun _ => Dice.mk) (RE.g (re_pair (re_tupL (rv_dat (re_of_ro (ro_lc (vs := [6]) (rwo_list (rv_dat (re_var (i := 3) rfl))) (notOwns_of rfl) (fun i_3 => rl_all (rt_name (i := 6) (notOwn_of rfl) (by decide)) (fun _ => (re_imp (m' := (fun Q => w_L_times (i_3, (1 : Int)) unit_2 Q)) (re_call (wa := wa_L_times) (ra_dat (re_pair (re_var (i := 6) rfl) re_int) (ra_dat (re_var (i := 5) rfl) ra_nil))) (fun Q h0 => ⟨(i_3, (1 : Int)), unit_2, rfl, h0⟩)))))))) (re_tupL (rv_dat (re_of_ro (ro_lc (vs := [6]) (rwo_list (rv_dat (re_var (i := 4) rfl))) (notOwns_of rfl) (fun i_5 => rl_all (rt_name (i := 6) (notOwn_of rfl) (by decide)) (fun _ => (re_imp (m' := (fun Q => w_L_times (i_5, (1 : Int)) unit_2 Q)) (re_call (wa := wa_L_times) (ra_dat (re_pair (re_var (i := 6) rfl) re_int) (ra_dat (re_var (i := 5) rfl) ra_nil))) (fun Q h0 => ⟨(i_5, (1 : Int)), unit_2, rfl, h0⟩)))))))))) rfl (fun _ => rfl) hr)))))))
    exact rb_imp hb (fun h => h)

/-! ### is_integer -/
@[reducible] def N_is_integer : List Str := ["thing"]
def w_is_integer (thing : Int) (Qp : Bool → Prop) : Prop :=
  Qp (true && (!false))
def wa_is_integer : List Sl → PT Bool := fun args Q => ∃ thing : Int, args = [.dat (X := Int) thing] ∧ w_is_integer thing Q
@[reducible] def sp_is_integer (C : CA) : Sp := SpA C wa_is_integer
@[reducible] def t_is_integer (C : CA) : TS :=
  (tRet (tAndV (tCB (rIsi C.K) (tCons (tVar 0) (tCons (tC (.ty "int")) tNil))) (tNotV (tCB (rIsi C.K) (tCons (tVar 0) (tCons (tC (.ty "bool")) tNil))))))
theorem rd_is_integer {C : CA} {vs : List V} {H : Hp} {Q : VK} {E : XK} (h : sp_is_integer C vs H Q E) : t_is_integer C { nx := fun _ H' => Q .non H', rt := Q } (L2.start N_is_integer vs) H :=
  def_A h fun args Qp hwa => by
    obtain ⟨thing, rfl, hw⟩ := hwa
    refine ⟨rfl, 0, rfl, _, hw, fun H0 F0 D hr hn => ?_⟩
    have hb : RB (GA C H0 F0) ([.dat (X := Int) thing] ++ unS 0) (t_is_integer C D) _ := (rb_ret (re_and_v (a := true) (b := !false) (re_isi (n := "int") (b := true) (re_var (i := 0) rfl) (show kitB "int" "int" = some true by decide +kernel)) (re_not (re_isi (n := "bool") (b := false) (re_var (i := 0) rfl) (show kitB "int" "bool" = some false by decide +kernel)))) hr)
    exact rb_imp hb (fun h => h)

/-! ### is_fraction -/
@[reducible] def N_is_fraction : List Str := ["thing", "top", "bottom"]
def w_is_fraction (thing : (Int × Int)) (Qp : Bool → Prop) : Prop :=
  (if ((!true) || (!decide ((2 : Int) = (2 : Int)))) = true then Qp (false) else (fun p_1 : (Int × Int) => (pOr (fun Q => w_is_integer p_1.1 (fun x_2 => Q (!x_2))) (fun Q => w_is_integer p_1.2 (fun x_3 => Q (!x_3)))) (fun x_4 => (if x_4 = true then Qp (false) else Qp ((decide ((0 : Int) < p_1.2)) && (decide (((Nat.gcd (p_1.1).natAbs (p_1.2).natAbs : Nat) : Int) = (1 : Int))))))) thing)
def wa_is_fraction : List Sl → PT Bool := fun args Q => ∃ thing : (Int × Int), args = [.dat (X := (Int × Int)) thing] ∧ w_is_fraction thing Q
@[reducible] def sp_is_fraction (C : CA) : Sp := SpA C wa_is_fraction
@[reducible] def t_is_fraction (C : CA) : TS :=
  (tSeq (tIfS (tOr (tNot (tB (tCB (rIsi C.K) (tCons (tVar 0) (tCons (tC (.ty "tuple")) tNil))))) (tTest (tOp rNe (tCB (cLen C.K) (tCons (tVar 0) tNil)) (tC (.int 2))))) (tRet (tC (.bl false))) tNext) (tSeq (tAsg (tVar 0) (gTup C.K 2 (gCons (gName 1) (gCons (gName 2) gNil)))) (tSeq (tIfS (tOr (tNot (tB (tCall (sp_is_integer C) [] E0 (tCons (tVar 1) tNil)))) (tNot (tB (tCall (sp_is_integer C) [] E0 (tCons (tVar 2) tNil))))) (tRet (tC (.bl false))) tNext) (tRet (tAndV (tOp oGt (tVar 2) (tC (.int 0))) (tOp rEq (tCB rGcd (tCons (tVar 1) (tCons (tVar 2) tNil))) (tC (.int 1))))))))
theorem rd_is_fraction {C : CA} {vs : List V} {H : Hp} {Q : VK} {E : XK} (h : sp_is_fraction C vs H Q E) : t_is_fraction C { nx := fun _ H' => Q .non H', rt := Q } (L2.start N_is_fraction vs) H :=
  def_A h fun args Qp hwa => by
    obtain ⟨thing, rfl, hw⟩ := hwa
    refine ⟨rfl, 2, rfl, _, hw, fun H0 F0 D hr hn => ?_⟩
    have hb : RB (GA C H0 F0) ([.dat (X := (Int × Int)) thing] ++ unS 2) (t_is_fraction C D) _ := (rb_seq (rb_if (rc_or_v (a := !true) (b := !decide ((2 : Int) = (2 : Int))) (rc_not (rc_b (re_isi (n := "tuple") (b := true) (re_var (i := 0) rfl) (show kitB "tuple" "tuple" = some true by decide +kernel)))) (rc_test (re_op o_neI (re_len2 (re_var (i := 0) rfl)) re_int))) (rb_ret re_bl hr) (rb_next (rb_nx (rb_seq (rb_asgT (vs := [1, 2]) (re_var (i := 0) rfl) (fun p_1 => (rt_pair (rt_name (i := 1) (notOwn_of rfl) (by decide)) (fun _ => (rt_name (i := 2) (notOwn_of rfl) (by decide))))) (fun p_1 _ => (rb_nx (rb_seq (rb_if (rc_orJ (rc_not (rc_b (re_imp (m' := (fun Q => w_is_integer p_1.1 Q)) (re_call (wa := wa_is_integer) (ra_dat (re_var (i := 1) rfl) ra_nil)) (fun Q h0 => ⟨p_1.1, rfl, h0⟩)))) (rc_not (rc_b (re_imp (m' := (fun Q => w_is_integer p_1.2 Q)) (re_call (wa := wa_is_integer) (ra_dat (re_var (i := 2) rfl) ra_nil)) (fun Q h0 => ⟨p_1.2, rfl, h0⟩))))) (rb_ret re_bl hr) (rb_next (rb_nx (rb_ret (re_and_v (a := decide ((0 : Int) < p_1.2)) (b := decide (((Nat.gcd (p_1.1).natAbs (p_1.2).natAbs : Nat) : Int) = (1 : Int))) (re_op o_gt (re_var (i := 2) rfl) re_int) (re_op o_eqI (re_cb2 c_gcd (re_var (i := 1) rfl) (re_var (i := 2) rfl)) re_int)) hr)))))))))))))
    exact rb_imp hb (fun h => h)

/-! ### is_amount -/
@[reducible] def N_is_amount : List Str := ["thing"]
def w_is_amount (thing : (Int × Int)) (Qp : Bool → Prop) : Prop :=
  (pAnd (fun Q => w_is_fraction thing (fun x_1 => Q (x_1))) (pR (decide ((0 : Int) < thing.1)))) (fun x_2 => Qp (x_2))
def wa_is_amount : List Sl → PT Bool := fun args Q => ∃ thing : (Int × Int), args = [.dat (X := (Int × Int)) thing] ∧ w_is_amount thing Q
@[reducible] def sp_is_amount (C : CA) : Sp := SpA C wa_is_amount
@[reducible] def t_is_amount (C : CA) : TS :=
  (tRet (tAndV (tCall (sp_is_fraction C) [] E0 (tCons (tVar 0) tNil)) (tOp oGt (tOp (rIxT C.K) (tVar 0) (tC (.int 0))) (tC (.int 0)))))
theorem rd_is_amount {C : CA} {vs : List V} {H : Hp} {Q : VK} {E : XK} (h : sp_is_amount C vs H Q E) : t_is_amount C { nx := fun _ H' => Q .non H', rt := Q } (L2.start N_is_amount vs) H :=
  def_A h fun args Qp hwa => by
    obtain ⟨thing, rfl, hw⟩ := hwa
    refine ⟨rfl, 0, rfl, _, hw, fun H0 F0 D hr hn => ?_⟩
    have hb : RB (GA C H0 F0) ([.dat (X := (Int × Int)) thing] ++ unS 0) (t_is_amount C D) _ := (rb_ret (re_andJ (re_imp (m' := (fun Q => w_is_fraction thing Q)) (re_call (wa := wa_is_fraction) (ra_dat (re_var (i := 0) rfl) ra_nil)) (fun Q h0 => ⟨thing, rfl, h0⟩)) (re_op o_gt (re_fst (re_var (i := 0) rfl)) re_int)) hr)
    exact rb_imp hb (fun h => h)

/-! ### _is_side -/
@[reducible] def N_q_is_side : List Str := ["thing", "amount"]
def w_q_is_side (thing : (Tu (Int × Int))) (Qp : Bool → Prop) : Prop :=
  (if ((!true) || (!((decide ((1 : Int) ≤ (thing.l.length : Int))) && (decide ((thing.l.length : Int) ≤ (100 : Int)))))) = true then Qp (false) else Sz thing.l.length ∧ lcP thing.l (fun (i_1 : (Int × Int)) Q => w_is_amount i_1 (fun x_2 => Q (some x_2))) (fun x_3 => Qp (x_3.all id)))
def wa_q_is_side : List Sl → PT Bool := fun args Q => ∃ thing : (Tu (Int × Int)), args = [.dat (X := (Tu (Int × Int))) thing] ∧ w_q_is_side thing Q
@[reducible] def sp_q_is_side (C : CA) : Sp := SpA C wa_q_is_side
@[reducible] def t_q_is_side (C : CA) : TS :=
  (tSeq (tIfS (tOr (tNot (tB (tCB (rIsi C.K) (tCons (tVar 0) (tCons (tC (.ty "tuple")) tNil))))) (tNot (tTest (tChain oLe oLe (tC (.int 1)) (tCB (cLen C.K) (tCons (tVar 0) tNil)) (tC (.int 100)))))) (tRet (tC (.bl false))) tNext) (tRet (tCB (rAll C.K) (tCons (tLc (iTup C.K (tVar 0)) (gName 1) tYes (tCall (sp_is_amount C) [] E0 (tCons (tVar 1) tNil)) [1]) tNil))))
theorem rd_q_is_side {C : CA} {vs : List V} {H : Hp} {Q : VK} {E : XK} (h : sp_q_is_side C vs H Q E) : t_q_is_side C { nx := fun _ H' => Q .non H', rt := Q } (L2.start N_q_is_side vs) H :=
  def_A h fun args Qp hwa => by
    obtain ⟨thing, rfl, hw⟩ := hwa
    refine ⟨rfl, 1, rfl, _, hw, fun H0 F0 D hr hn => ?_⟩
    have hb : RB (GA C H0 F0) ([.dat (X := (Tu (Int × Int))) thing] ++ unS 1) (t_q_is_side C D) _ := (rb_seq (rb_if (rc_or_v (a := !true) (b := !((decide ((1 : Int) ≤ (thing.l.length : Int))) && (decide ((thing.l.length : Int) ≤ (100 : Int))))) (rc_not (rc_b (re_isi (n := "tuple") (b := true) (re_var (i := 0) rfl) (show kitB "tuple" "tuple" = some true by decide +kernel)))) (rc_not (rc_test (re_chain_v (x := (1 : Int)) (y := (thing.l.length : Int)) (z := (100 : Int)) o_le o_le re_int (re_lenT (re_var (i := 0) rfl)) re_int)))) (rb_ret re_bl hr) (rb_next (rb_ret (re_all (rv_dat (re_of_ro (ro_lc (vs := [1]) (RW.o (rw_tup (re_var (i := 0) rfl))) (notOwns_of rfl) (fun i_1 => rl_all (rt_name (i := 1) (notOwn_of rfl) (by decide)) (fun _ => (re_imp (m' := (fun Q => w_is_amount i_1 Q)) (re_call (wa := wa_is_amount) (ra_dat (re_var (i := 1) rfl) ra_nil)) (fun Q h0 => ⟨i_1, rfl, h0⟩)))))))) hr))))
    exact rb_imp hb (fun h => h)

/-! ### common_bottom -/
@[reducible] def N_common_bottom : List Str := ["fractions", "shared", "_", "bottom"]
def w_common_bottom (fractions : (Tu (Int × Int))) (Qp : Int → Prop) : Prop :=
  forP fractions.l (1 : Int) (fun (x_2 : (Int × Int)) (s_1 : Int) kn_9 kb_10 => LcmOk s_1 x_2.2 ∧ (fun shared_15 : Int => kn_9 shared_15) ((Nat.lcm (s_1).natAbs (x_2.2).natAbs : Nat) : Int)) (fun s_1 : Int => Qp (s_1))
def wa_common_bottom : List Sl → PT Int := fun args Q => ∃ fractions : (Tu (Int × Int)), args = [.dat (X := (Tu (Int × Int))) fractions] ∧ w_common_bottom fractions Q
@[reducible] def sp_common_bottom (C : CA) : Sp := SpA C wa_common_bottom
@[reducible] def t_common_bottom (C : CA) : TS :=
  (tSeq (tAsg (tC (.int 1)) (gName 1)) (tSeq (tFor (iTup C.K (tVar 0)) (gTup C.K 2 (gCons (gName 2) (gCons (gName 3) gNil))) (tAsg (tCB rLcm (tCons (tVar 1) (tCons (tVar 3) tNil))) (gName 1))) (tRet (tVar 1))))
theorem rd_common_bottom {C : CA} {vs : List V} {H : Hp} {Q : VK} {E : XK} (h : sp_common_bottom C vs H Q E) : t_common_bottom C { nx := fun _ H' => Q .non H', rt := Q } (L2.start N_common_bottom vs) H :=
  def_A h fun args Qp hwa => by
    obtain ⟨fractions, rfl, hw⟩ := hwa
    refine ⟨rfl, 3, rfl, _, hw, fun H0 F0 D hr hn => ?_⟩
    have hb : RB (GA C H0 F0) ([.dat (X := (Tu (Int × Int))) fractions] ++ unS 3) (t_common_bottom C D) _ := (rb_seqC (x := (1 : Int)) (i := 1) re_int (notOwn_of rfl) (rb_seq (rb_for (sl := [.dat (X := (Tu (Int × Int))) (fractions), .dat (X := Int) ((1 : Int)), .un, .un]) (pin := none) (vs := [2, 3]) (fun s_1 : Int => [.dat (X := (Tu (Int × Int))) (fractions), .dat (X := Int) (s_1), .un, .un]) (1 : Int) (rw_tup (re_var (i := 0) rfl)) rfl ⟨.inl rfl, .inl rfl, .inl rfl, .inl rfl, trivial⟩ (fun H_4 F_5 w_6 L_7 x_2 s_1 D_8 kn_9 kb_10 hN_11 hC_12 hB_13 hE_14 => ⟨(rt_pair (rt_name (i := 2) (notOwn_of rfl) (by decide)) (fun _ => (rt_name (i := 3) (notOwn_of rfl) (by decide)))), fun _ => (rb_asg (i := 1) (re_cb2 c_lcm (re_var (i := 1) rfl) (re_var (i := 3) rfl)) (notOwn_of rfl) (fun shared_15 => (rb_leh (sl := [.dat (X := (Tu (Int × Int))) (fractions), .dat (X := Int) (shared_15), .dat (X := Int) (x_2.1), .dat (X := Int) (x_2.2)]) (pin := none) (hN_11 shared_15) rfl ⟨.inl rfl, .inl rfl, .inr ⟨rfl, by decide⟩, .inr ⟨rfl, by decide⟩, trivial⟩)))⟩) (fun s_1 => (rb_ret (re_var (i := 1) rfl) hr)))))
    exact rb_imp hb (fun h => h)

/-! ### in_units -/
@[reducible] def N_in_units : List Str := ["fractions", "shared", "top", "bottom"]
def w_in_units (fractions : (Tu (Int × Int))) (shared : Int) (Qp : (List Int) → Prop) : Prop :=
  Sz fractions.l.length ∧ lcP fractions.l (fun (i_1 : (Int × Int)) Q => CDivW shared i_1.2 ∧ IntMulOk i_1.1 (shared / i_1.2) ∧ Q (some (i_1.1 * (shared / i_1.2)))) (fun x_2 => Qp (x_2))
def wa_in_units : List Sl → PT (List Int) := fun args Q => ∃ fractions : (Tu (Int × Int)), ∃ shared : Int, args = [.dat (X := (Tu (Int × Int))) fractions, .dat (X := Int) shared] ∧ w_in_units fractions shared Q
@[reducible] def sp_in_units (C : CA) : Sp := SpA C wa_in_units
@[reducible] def t_in_units (C : CA) : TS :=
  (tRet (tLc (iTup C.K (tVar 0)) (gTup C.K 2 (gCons (gName 2) (gCons (gName 3) gNil))) tYes (tOp oMul (tVar 2) (tOp oDiv (tVar 1) (tVar 3))) [2, 3]))
theorem rd_in_units {C : CA} {vs : List V} {H : Hp} {Q : VK} {E : XK} (h : sp_in_units C vs H Q E) : t_in_units C { nx := fun _ H' => Q .non H', rt := Q } (L2.start N_in_units vs) H :=
  def_A h fun args Qp hwa => by
    obtain ⟨fractions, shared, rfl, hw⟩ := hwa
    refine ⟨rfl, 2, rfl, _, hw, fun H0 F0 D hr hn => ?_⟩
    have hb : RB (GA C H0 F0) ([.dat (X := (Tu (Int × Int))) fractions, .dat (X := Int) shared] ++ unS 2) (t_in_units C D) _ := (rb_ret (re_of_ro (ro_lc (vs := [2, 3]) (RW.o (rw_tup (re_var (i := 0) rfl))) (notOwns_of rfl) (fun i_1 => rl_all (rt_pair (rt_name (i := 2) (notOwn_of rfl) (by decide)) (fun _ => (rt_name (i := 3) (notOwn_of rfl) (by decide)))) (fun _ => (re_op o_mul (re_var (i := 2) rfl) (re_op o_div (re_var (i := 1) rfl) (re_var (i := 3) rfl))))))) hr)
    exact rb_imp hb (fun h => h)

/-! ### lowest -/
@[reducible] def N_lowest : List Str := ["top", "bottom", "shared"]
def w_lowest (top : Int) (bottom : Int) (Qp : (Int × Int) → Prop) : Prop :=
  (fun shared_1 : Int => CDivW top shared_1 ∧ CDivW bottom shared_1 ∧ Qp ((top / shared_1, bottom / shared_1))) ((Nat.gcd (top).natAbs (bottom).natAbs : Nat) : Int)
def wa_lowest : List Sl → PT (Int × Int) := fun args Q => ∃ top : Int, ∃ bottom : Int, args = [.dat (X := Int) top, .dat (X := Int) bottom] ∧ w_lowest top bottom Q
@[reducible] def sp_lowest (C : CA) : Sp := SpA C wa_lowest
@[reducible] def t_lowest (C : CA) : TS :=
  (tSeq (tAsg (tCB rGcd (tCons (tVar 0) (tCons (tVar 1) tNil))) (gName 2)) (tRet (tTup (tCons (tOp oDiv (tVar 0) (tVar 2)) (tCons (tOp oDiv (tVar 1) (tVar 2)) tNil)))))
theorem rd_lowest {C : CA} {vs : List V} {H : Hp} {Q : VK} {E : XK} (h : sp_lowest C vs H Q E) : t_lowest C { nx := fun _ H' => Q .non H', rt := Q } (L2.start N_lowest vs) H :=
  def_A h fun args Qp hwa => by
    obtain ⟨top, bottom, rfl, hw⟩ := hwa
    refine ⟨rfl, 1, rfl, _, hw, fun H0 F0 D hr hn => ?_⟩
    have hb : RB (GA C H0 F0) ([.dat (X := Int) top, .dat (X := Int) bottom] ++ unS 1) (t_lowest C D) _ := (rb_seq (rb_asg (i := 2) (re_cb2 c_gcd (re_var (i := 0) rfl) (re_var (i := 1) rfl)) (notOwn_of rfl) (fun shared_1 => (rb_ret (re_pair (re_op o_div (re_var (i := 0) rfl) (re_var (i := 2) rfl)) (re_op o_div (re_var (i := 1) rfl) (re_var (i := 2) rfl))) hr))))
    exact rb_imp hb (fun h => h)

/-! ### added -/
@[reducible] def N_added : List Str := ["fractions", "shared"]
def w_added (fractions : (Tu (Int × Int))) (Qp : (Int × Int) → Prop) : Prop :=
  w_common_bottom fractions (fun x_5 => (fun shared_1 : Int => w_in_units fractions shared_1 (fun x_3 => w_lowest x_3.sum shared_1 (fun x_4 => Qp (x_4)))) x_5)
def wa_added : List Sl → PT (Int × Int) := fun args Q => ∃ fractions : (Tu (Int × Int)), args = [.dat (X := (Tu (Int × Int))) fractions] ∧ w_added fractions Q
@[reducible] def sp_added (C : CA) : Sp := SpA C wa_added
@[reducible] def t_added (C : CA) : TS :=
  (tSeq (tAsg (tCall (sp_common_bottom C) [] E0 (tCons (tVar 0) tNil)) (gName 1)) (tRet (tCall (sp_lowest C) [] E0 (tCons (tCB (rSum C.K) (tCons (tCall (sp_in_units C) [] E0 (tCons (tVar 0) (tCons (tVar 1) tNil))) tNil)) (tCons (tVar 1) tNil)))))
theorem rd_added {C : CA} {vs : List V} {H : Hp} {Q : VK} {E : XK} (h : sp_added C vs H Q E) : t_added C { nx := fun _ H' => Q .non H', rt := Q } (L2.start N_added vs) H :=
  def_A h fun args Qp hwa => by
    obtain ⟨fractions, rfl, hw⟩ := hwa
    refine ⟨rfl, 1, rfl, _, hw, fun H0 F0 D hr hn => ?_⟩
    have hb : RB (GA C H0 F0) ([.dat (X := (Tu (Int × Int))) fractions] ++ unS 1) (t_added C D) _ := (rb_seq (rb_asg (i := 1) (re_imp (m' := (fun Q => w_common_bottom fractions Q)) (re_call (wa := wa_common_bottom) (ra_dat (re_var (i := 0) rfl) ra_nil)) (fun Q h0 => ⟨fractions, rfl, h0⟩)) (notOwn_of rfl) (fun shared_1 => (rb_ret (re_imp (m' := (fun Q => w_in_units fractions shared_1 (fun x_2 => w_lowest x_2.sum shared_1 Q))) (re_call (wa := wa_lowest) (ra_dat (re_hat (re_sum (rv_dat (re_imp (m' := (fun Q => w_in_units fractions shared_1 Q)) (re_call (wa := wa_in_units) (ra_dat (re_var (i := 0) rfl) (ra_dat (re_var (i := 1) rfl) ra_nil))) (fun Q h0 => ⟨fractions, shared_1, rfl, h0⟩))))) (ra_dat (re_var (i := 1) rfl) ra_nil))) (fun Q h0 => ⟨_, h0, fun a0 h1 => ⟨a0, shared_1, rfl, h1⟩⟩)) hr))))
    exact rb_imp hb (fun h => h)

/-! ### Evening.__init__ -/
@[reducible] def N_Eveningu_initu : List Str := ["self", "owed", "due"]
def w_Eveningu_initu (owed : (Tu (Int × Int))) (due : (Tu (Int × Int))) (Qp : Unit → EvI → Prop) : Prop :=
  w_q_is_side owed (fun x_6 => (if (!x_6) = true then False else w_q_is_side due (fun x_5 => (if (!x_5) = true then False else w_added owed (fun x_3 => w_added due (fun x_4 => (if (!decide (x_3 = x_4)) = true then False else (fun y_1 => (fun y_2 => Qp () (EvI.f y_1 y_2)) due) owed)))))))
def wa_Eveningu_initu : List Sl → (Unit → EvI → Prop) → Prop := fun args Q => ∃ owed : (Tu (Int × Int)), ∃ due : (Tu (Int × Int)), args = [.own (X := EvI) EvI.e, .dat (X := (Tu (Int × Int))) owed, .dat (X := (Tu (Int × Int))) due] ∧ w_Eveningu_initu owed due Q
@[reducible] def sp_Eveningu_initu (C : CA) : Sp := SpO C 0 wa_Eveningu_initu
@[reducible] def t_Eveningu_initu (C : CA) : TS :=
  (tSeq (tIfS (tNot (tB (tCall (sp_q_is_side C) [] E0 (tCons (tVar 1) tNil)))) tNever tNext) (tSeq (tIfS (tNot (tB (tCall (sp_q_is_side C) [] E0 (tCons (tVar 2) tNil)))) tNever tNext) (tSeq (tIfS (tTest (tOp (rNeD C.K) (tCall (sp_added C) [] E0 (tCons (tVar 1) tNil)) (tCall (sp_added C) [] E0 (tCons (tVar 2) tNil)))) tNever tNext) (tSeq (sFld C.K (tVar 0) (tVar 1) "owed") (sFld C.K (tVar 0) (tVar 2) "due")))))
theorem rd_Eveningu_initu {C : CA} (T : CT C.K C) {vs : List V} {H : Hp} {Q : VK} {E : XK} (h : sp_Eveningu_initu C vs H Q E) : t_Eveningu_initu C { nx := fun _ H' => Q .non H', rt := Q } (L2.start N_Eveningu_initu vs) H :=
  def_O h fun args Qp hwa => by
    obtain ⟨owed, due, rfl, hw⟩ := hwa
    refine ⟨rfl, ⟨_, rfl⟩, 0, rfl, _, hw, fun H0 F0 w0 as0 D hr hn => ?_⟩
    have hb : RB (GO C H0 F0 0 w0 as0) ([.own (X := EvI) EvI.e, .dat (X := (Tu (Int × Int))) owed, .dat (X := (Tu (Int × Int))) due] ++ unS 0) (t_Eveningu_initu C D) _ := (rb_seq (rb_if (rc_not (rc_b (re_imp (m' := (fun Q => w_q_is_side owed Q)) (re_call (wa := wa_q_is_side) (ra_dat (re_var (i := 1) rfl) ra_nil)) (fun Q h0 => ⟨owed, rfl, h0⟩)))) rb_never (rb_next (rb_nx (rb_seq (rb_if (rc_not (rc_b (re_imp (m' := (fun Q => w_q_is_side due Q)) (re_call (wa := wa_q_is_side) (ra_dat (re_var (i := 2) rfl) ra_nil)) (fun Q h0 => ⟨due, rfl, h0⟩)))) rb_never (rb_next (rb_nx (rb_seq (rb_if (rc_test (re_op o_neD (re_imp (m' := (fun Q => w_added owed Q)) (re_call (wa := wa_added) (ra_dat (re_var (i := 1) rfl) ra_nil)) (fun Q h0 => ⟨owed, rfl, h0⟩)) (re_imp (m' := (fun Q => w_added due Q)) (re_call (wa := wa_added) (ra_dat (re_var (i := 2) rfl) ra_nil)) (fun Q h0 => ⟨due, rfl, h0⟩)))) rb_never (rb_next (rb_nx (rb_seq (rb_selfO T (i := 0) rfl (re_var (i := 1) rfl) (fun y_1 => (rb_nx (rb_selfD T (i := 0) rfl (re_var (i := 2) rfl) (fun y_2 => (hn _ () _ (fun _ _ => rfl) rfl)))))))))))))))))))
    exact rb_imp hb (fun h => h)

/-! ### _law_made -/
@[reducible] def N_L_made : List Str := ["_law_sums_here"]
def w_L_made (sums : ((Tu (Int × Int)) × (Tu (Int × Int)))) (Qp : Ev → Prop) : Prop :=
  w_Eveningu_initu sums.1 sums.2 (fun _ y_1 => ∃ o_2 d_3, y_1 = EvI.f o_2 d_3 ∧ Qp (Ev.mk o_2 d_3))
def wa_L_made : List Sl → PT Ev := fun args Q => ∃ sums : ((Tu (Int × Int)) × (Tu (Int × Int))), args = [.dat (X := ((Tu (Int × Int)) × (Tu (Int × Int)))) sums] ∧ w_L_made sums Q
@[reducible] def sp_L_made (C : CA) : Sp := SpA C wa_L_made
@[reducible] def t_L_made (C : CA) : TS :=
  (tRet (tMake C.Evening (sp_Eveningu_initu C) [] E0 (tCons (tOp (rIxT C.K) (tVar 0) (tC (.int 0))) (tCons (tOp (rIxT C.K) (tVar 0) (tC (.int 1))) tNil))))
theorem rd_L_made {C : CA} {vs : List V} {H : Hp} {Q : VK} {E : XK} (h : sp_L_made C vs H Q E) : t_L_made C { nx := fun _ H' => Q .non H', rt := Q } (L2.start N_L_made vs) H :=
  def_A h fun args Qp hwa => by
    obtain ⟨sums, rfl, hw⟩ := hwa
    refine ⟨rfl, 0, rfl, _, hw, fun H0 F0 D hr hn => ?_⟩
    have hb : RB (GA C H0 F0) ([.dat (X := ((Tu (Int × Int)) × (Tu (Int × Int)))) sums] ++ unS 0) (t_L_made C D) _ := (rb_ret (re_evening (wa := wa_Eveningu_initu) (w := fun o d Q => w_Eveningu_initu o d (fun _ y => Q y)) (fun o d Q h => ⟨o, d, rfl, h⟩) (re_fst (re_var (i := 0) rfl)) (re_snd (re_var (i := 0) rfl))) hr)
    exact rb_imp hb (fun h => h)

/-! ### _figures -/
@[reducible] def N_q_figures : List Str := ["number", "chunks", "left", "chunk"]
def w_q_figures (number : Int) (Qp : Str → Prop) : Prop :=
  whP (fun s_2 : Int × (List Str) => (pR (decide ((1000000000000000000000000000000000000000000000000000000000000 : Int) ≤ s_2.1)))) (fun (s_2 : Int × (List Str)) kn_4 kb_5 => False) (number, ([] : List Str)) (fun s_2 : Int × (List Str) => (s_2.1).natAbs.log2 < 1920 ∧ Sz (s_2.2.length + 1) ∧ (fun y_10 => JnOk ("" : Str) ((s_2.2 ++ [y_10]).reverse) ∧ Qp (Txt.join ("" : Str) ((s_2.2 ++ [y_10]).reverse))) (strI s_2.1))
def wa_q_figures : List Sl → PT Str := fun args Q => ∃ number : Int, args = [.dat (X := Int) number] ∧ w_q_figures number Q
@[reducible] def sp_q_figures (C : CA) : Sp := SpA C wa_q_figures
@[reducible] def t_q_figures (C : CA) : TS :=
  (tSeq (tAsg (tLst tNil) (gName 1)) (tSeq (tAsg (tVar 0) (gName 2)) (tSeq (tWhile (tTest (tOp oGe (tVar 2) (tC (.int 1000000000000000000000000000000000000000000000000000000000000)))) tNever) (tSeq (tDrop (tBM C.K "list" rAppend (tVar 1) (tCons (tCB rStrI (tCons (tVar 2) tNil)) tNil))) (tRet (tM1 (rJoin C.K) (tC (.str "")) (tRevL C.K (tVar 1))))))))
theorem rd_q_figures {C : CA} {vs : List V} {H : Hp} {Q : VK} {E : XK} (h : sp_q_figures C vs H Q E) : t_q_figures C { nx := fun _ H' => Q .non H', rt := Q } (L2.start N_q_figures vs) H :=
  def_A h fun args Qp hwa => by
    obtain ⟨number, rfl, hw⟩ := hwa
    refine ⟨rfl, 3, rfl, _, hw, fun H0 F0 D hr hn => ?_⟩
    have hb : RB (GA C H0 F0) ([.dat (X := Int) number] ++ unS 3) (t_q_figures C D) _ := (rb_seq (rb_asgO_v (x := ([] : List Str)) (i := 1) (ro_lst (X := Str) ral_nil) (notOwn_of rfl) (show 1 < 4 by decide) (rb_seq (rb_asg_v (x := number) (i := 2) (re_var (i := 0) rfl) (notOwn_of rfl) (rb_seq (rb_whileN (sl := [.dat (X := Int) (number), .own (X := (List Str)) (([] : List Str)), .dat (X := Int) (number), .un]) (pin := none) (slS := (fun s_2 : Int × (List Str) => [.dat (X := Int) (number), .own (X := (List Str)) (s_2.2), .dat (X := Int) (s_2.1), .un])) (s0 := (number, ([] : List Str))) rfl ⟨.inl rfl, .inl rfl, .inl rfl, .inl rfl, trivial⟩ (fun s_2 => (rc_test (re_op o_ge (re_var (i := 2) rfl) re_int))) (fun s_2 D_3 kn_4 kb_5 hN_6 hC_7 hB_8 hE_9 => rb_never) (fun s_2 => (rb_seq (rb_drop (reg_append (i := 1) (l := s_2.2) rfl (re_strI (re_var (i := 2) rfl))) (fun y_10 => (rb_ret (re_join (re_str (z := ("" : Str))) (rv_dat (re_of_ro (ro_revL (rv_own (i := 1) rfl))))) hr)))))))))))
    exact rb_imp hb (fun h => h)

/-! ### amount_text -/
@[reducible] def N_amount_text : List Str := ["amount", "top", "bottom"]
def w_amount_text (amount : (Int × Int)) (Qp : Str → Prop) : Prop :=
  (fun p_1 : (Int × Int) => (pIf (pR (decide (p_1.2 = (1 : Int)))) (fun Q => w_q_figures p_1.1 (fun x_2 => Q (x_2))) (fun Q => w_q_figures p_1.1 (fun x_3 => Sz (x_3.length + ("/" : Str).length) ∧ w_q_figures p_1.2 (fun x_4 => Sz ((x_3 ++ ("/" : Str)).length + x_4.length) ∧ Q ((x_3 ++ ("/" : Str)) ++ x_4))))) (fun x_5 => Qp (x_5))) amount
def wa_amount_text : List Sl → PT Str := fun args Q => ∃ amount : (Int × Int), args = [.dat (X := (Int × Int)) amount] ∧ w_amount_text amount Q
@[reducible] def sp_amount_text (C : CA) : Sp := SpA C wa_amount_text
@[reducible] def t_amount_text (C : CA) : TS :=
  (tSeq (tAsg (tVar 0) (gTup C.K 2 (gCons (gName 1) (gCons (gName 2) gNil)))) (tRet (tIf (tTest (tOp rEq (tVar 2) (tC (.int 1)))) (tCall (sp_q_figures C) [] E0 (tCons (tVar 1) tNil)) (tOp rCatS (tOp rCatS (tCall (sp_q_figures C) [] E0 (tCons (tVar 1) tNil)) (tC (.str "/"))) (tCall (sp_q_figures C) [] E0 (tCons (tVar 2) tNil))))))
theorem rd_amount_text {C : CA} {vs : List V} {H : Hp} {Q : VK} {E : XK} (h : sp_amount_text C vs H Q E) : t_amount_text C { nx := fun _ H' => Q .non H', rt := Q } (L2.start N_amount_text vs) H :=
  def_A h fun args Qp hwa => by
    obtain ⟨amount, rfl, hw⟩ := hwa
    refine ⟨rfl, 2, rfl, _, hw, fun H0 F0 D hr hn => ?_⟩
    have hb : RB (GA C H0 F0) ([.dat (X := (Int × Int)) amount] ++ unS 2) (t_amount_text C D) _ := (rb_seq (rb_asgT (vs := [1, 2]) (re_var (i := 0) rfl) (fun p_1 => (rt_pair (rt_name (i := 1) (notOwn_of rfl) (by decide)) (fun _ => (rt_name (i := 2) (notOwn_of rfl) (by decide))))) (fun p_1 _ => (rb_ret (re_ifJ (rc_test (re_op o_eqI (re_var (i := 2) rfl) re_int)) (re_imp (m' := (fun Q => w_q_figures p_1.1 Q)) (re_call (wa := wa_q_figures) (ra_dat (re_var (i := 1) rfl) ra_nil)) (fun Q h0 => ⟨p_1.1, rfl, h0⟩)) (re_op o_catS (re_op o_catS (re_imp (m' := (fun Q => w_q_figures p_1.1 Q)) (re_call (wa := wa_q_figures) (ra_dat (re_var (i := 1) rfl) ra_nil)) (fun Q h0 => ⟨p_1.1, rfl, h0⟩)) (re_str (z := ("/" : Str)))) (re_imp (m' := (fun Q => w_q_figures p_1.2 Q)) (re_call (wa := wa_q_figures) (ra_dat (re_var (i := 2) rfl) ra_nil)) (fun Q h0 => ⟨p_1.2, rfl, h0⟩)))) hr))))
    exact rb_imp hb (fun h => h)

/-! ### _side_text -/
@[reducible] def N_q_side_text : List Str := ["word", "amounts", "amount"]
def w_q_side_text (word : Str) (amounts : (Tu (Int × Int))) (Qp : Str → Prop) : Prop :=
  Sz amounts.l.length ∧ lcP amounts.l (fun (i_1 : (Int × Int)) Q => w_amount_text i_1 (fun x_2 => Q (some x_2))) (fun x_3 => Sz (([word] : List Str).length + x_3.length) ∧ JnOk (" " : Str) (([word] : List Str) ++ x_3) ∧ Sz ((Txt.join (" " : Str) (([word] : List Str) ++ x_3)).length + ("\n" : Str).length) ∧ Qp ((Txt.join (" " : Str) (([word] : List Str) ++ x_3)) ++ ("\n" : Str)))
def wa_q_side_text : List Sl → PT Str := fun args Q => ∃ word : Str, ∃ amounts : (Tu (Int × Int)), args = [.dat (X := Str) word, .dat (X := (Tu (Int × Int))) amounts] ∧ w_q_side_text word amounts Q
@[reducible] def sp_q_side_text (C : CA) : Sp := SpA C wa_q_side_text
@[reducible] def t_q_side_text (C : CA) : TS :=
  (tRet (tOp rCatS (tM1 (rJoin C.K) (tC (.str " ")) (tOp rCat (tLst (tCons (tVar 0) tNil)) (tLc (iTup C.K (tVar 1)) (gName 2) tYes (tCall (sp_amount_text C) [] E0 (tCons (tVar 2) tNil)) [2]))) (tC (.str "\n"))))
theorem rd_q_side_text {C : CA} {vs : List V} {H : Hp} {Q : VK} {E : XK} (h : sp_q_side_text C vs H Q E) : t_q_side_text C { nx := fun _ H' => Q .non H', rt := Q } (L2.start N_q_side_text vs) H :=
  def_A h fun args Qp hwa => by
    obtain ⟨word, amounts, rfl, hw⟩ := hwa
    refine ⟨rfl, 1, rfl, _, hw, fun H0 F0 D hr hn => ?_⟩
    have hb : RB (GA C H0 F0) ([.dat (X := Str) word, .dat (X := (Tu (Int × Int))) amounts] ++ unS 1) (t_q_side_text C D) _ := (rb_ret (re_op o_catS (re_join (re_str (z := (" " : Str))) (rv_dat (re_of_ro (ro_cat (rv_dat (re_of_ro (ro_lst (ral_cons (re_var (i := 0) rfl) ral_nil)))) (rv_dat (re_of_ro (ro_lc (vs := [2]) (RW.o (rw_tup (re_var (i := 1) rfl))) (notOwns_of rfl) (fun i_1 => rl_all (rt_name (i := 2) (notOwn_of rfl) (by decide)) (fun _ => (re_imp (m' := (fun Q => w_amount_text i_1 Q)) (re_call (wa := wa_amount_text) (ra_dat (re_var (i := 2) rfl) ra_nil)) (fun Q h0 => ⟨i_1, rfl, h0⟩))))))))))) (re_str (z := ("\n" : Str)))) hr)
    exact rb_imp hb (fun h => h)

/-! ### evening_text -/
@[reducible] def N_evening_text : List Str := ["evening"]
def w_evening_text (evening : Ev) (Qp : Str → Prop) : Prop :=
  w_q_side_text ("owed" : Str) evening.o (fun x_1 => w_q_side_text ("due" : Str) evening.d (fun x_2 => Sz (x_1.length + x_2.length) ∧ Qp (x_1 ++ x_2)))
def wa_evening_text : List Sl → PT Str := fun args Q => ∃ evening : Ev, args = [.dat (X := Ev) evening] ∧ w_evening_text evening Q
@[reducible] def sp_evening_text (C : CA) : Sp := SpA C wa_evening_text
@[reducible] def t_evening_text (C : CA) : TS :=
  (tRet (tOp rCatS (tCall (sp_q_side_text C) [] E0 (tCons (tC (.str "owed")) (tCons (tFld C.K (tVar 0) "owed") tNil))) (tCall (sp_q_side_text C) [] E0 (tCons (tC (.str "due")) (tCons (tFld C.K (tVar 0) "due") tNil)))))
theorem rd_evening_text {C : CA} (T : CT C.K C) {vs : List V} {H : Hp} {Q : VK} {E : XK} (h : sp_evening_text C vs H Q E) : t_evening_text C { nx := fun _ H' => Q .non H', rt := Q } (L2.start N_evening_text vs) H :=
  def_A h fun args Qp hwa => by
    obtain ⟨evening, rfl, hw⟩ := hwa
    refine ⟨rfl, 0, rfl, _, hw, fun H0 F0 D hr hn => ?_⟩
    have hb : RB (GA C H0 F0) ([.dat (X := Ev) evening] ++ unS 0) (t_evening_text C D) _ := (rb_ret (re_op o_catS (re_imp (m' := (fun Q => w_q_side_text ("owed" : Str) evening.o Q)) (re_call (wa := wa_q_side_text) (ra_dat (re_str (z := ("owed" : Str))) (ra_dat (re_owed T (re_var (i := 0) rfl)) ra_nil))) (fun Q h0 => ⟨("owed" : Str), evening.o, rfl, h0⟩)) (re_imp (m' := (fun Q => w_q_side_text ("due" : Str) evening.d Q)) (re_call (wa := wa_q_side_text) (ra_dat (re_str (z := ("due" : Str))) (ra_dat (re_due T (re_var (i := 0) rfl)) ra_nil))) (fun Q h0 => ⟨("due" : Str), evening.d, rfl, h0⟩))) hr)
    exact rb_imp hb (fun h => h)

/-! ### _parted -/
@[reducible] def N_q_parted : List Str := ["text"]
def w_q_parted (text : Str) (Qp : (List Str) → Prop) : Prop :=
  (if (!true) = true then False else (SepOk ("\n" : Str) ∧ Sz text.length) ∧ Qp (Txt.split text ("\n" : Str)))
def wa_q_parted : List Sl → PT (List Str) := fun args Q => ∃ text : Str, args = [.dat (X := Str) text] ∧ w_q_parted text Q
@[reducible] def sp_q_parted (C : CA) : Sp := SpA C wa_q_parted
@[reducible] def t_q_parted (C : CA) : TS :=
  (tSeq (tIfS (tNot (tB (tCB (rIsi C.K) (tCons (tVar 0) (tCons (tC (.ty "str")) tNil))))) tNever tNext) (tRet (tM1 rSplit (tVar 0) (tC (.str "\n")))))
theorem rd_q_parted {C : CA} {vs : List V} {H : Hp} {Q : VK} {E : XK} (h : sp_q_parted C vs H Q E) : t_q_parted C { nx := fun _ H' => Q .non H', rt := Q } (L2.start N_q_parted vs) H :=
  def_A h fun args Qp hwa => by
    obtain ⟨text, rfl, hw⟩ := hwa
    refine ⟨rfl, 0, rfl, _, hw, fun H0 F0 D hr hn => ?_⟩
    have hb : RB (GA C H0 F0) ([.dat (X := Str) text] ++ unS 0) (t_q_parted C D) _ := (rb_seq (rb_if (rc_not (rc_b (re_isi (n := "str") (b := true) (re_var (i := 0) rfl) (show kitB "str" "str" = some true by decide +kernel)))) rb_never (rb_next (rb_ret (re_of_ro (ro_split (re_var (i := 0) rfl) (re_str (z := ("\n" : Str))))) hr))))
    exact rb_imp hb (fun h => h)

/-! ### is_spelt_number -/
@[reducible] def N_is_spelt_number : List Str := ["word", "most", "sign"]
def w_is_spelt_number (word : Str) (most : Int) (Qp : Bool → Prop) : Prop :=
  (pOr (fun Q => Sz word.length ∧ (pAnd (pR (decide ((1 : Int) ≤ (word.length : Int)))) (fun Q => Q (decide ((word.length : Int) ≤ most)))) (fun x_5 => Q (!x_5))) (fun Q => Sz ((TL.tl word).map sg).length ∧ lcP ((TL.tl word).map sg) (fun (i_1 : Str) Q => ∃ c_2, i_1 = sg c_2 ∧ Q (some (decide (c_2 ∈ TL.tl ("0123456789" : Str))))) (fun x_6 => Q (!(x_6.all id))))) (fun x_7 => (if x_7 = true then Qp (false) else (pOr (pR (decide (word = ("0" : Str)))) (fun Q => Sz word.length ∧ ∃ c_3, atI (TL.tl word) (0 : Int) = some c_3 ∧ Q (!decide (sg c_3 = ("0" : Str))))) (fun x_4 => Qp (x_4))))
def wa_is_spelt_number : List Sl → PT Bool := fun args Q => ∃ word : Str, ∃ most : Int, args = [.dat (X := Str) word, .dat (X := Int) most] ∧ w_is_spelt_number word most Q
@[reducible] def sp_is_spelt_number (C : CA) : Sp := SpA C wa_is_spelt_number
@[reducible] def t_is_spelt_number (C : CA) : TS :=
  (tSeq (tIfS (tOr (tNot (tTest (tChain oLe oLe (tC (.int 1)) (tCB (cLen C.K) (tCons (tVar 0) tNil)) (tVar 1)))) (tNot (tB (tCB (rAll C.K) (tCons (tLc (iStr (tVar 0)) (gName 2) tYes (tOp rInSg (tVar 2) (tC (.str "0123456789"))) [2]) tNil))))) (tRet (tC (.bl false))) tNext) (tRet (tOrV (tOp rEq (tVar 0) (tC (.str "0"))) (tOp rNe (tOp rIxS (tVar 0) (tC (.int 0))) (tC (.str "0"))))))
theorem rd_is_spelt_number {C : CA} {vs : List V} {H : Hp} {Q : VK} {E : XK} (h : sp_is_spelt_number C vs H Q E) : t_is_spelt_number C { nx := fun _ H' => Q .non H', rt := Q } (L2.start N_is_spelt_number vs) H :=
  def_A h fun args Qp hwa => by
    obtain ⟨word, most, rfl, hw⟩ := hwa
    refine ⟨rfl, 1, rfl, _, hw, fun H0 F0 D hr hn => ?_⟩
    have hb : RB (GA C H0 F0) ([.dat (X := Str) word, .dat (X := Int) most] ++ unS 1) (t_is_spelt_number C D) _ := (rb_seq (rb_if (rc_orJ (rc_not (rc_test (re_chain o_le o_le re_int (re_lenS (re_var (i := 0) rfl)) (re_var (i := 1) rfl)))) (rc_not (rc_b (re_all (rv_dat (re_of_ro (ro_lc (vs := [2]) (RW.o (rw_str (re_var (i := 0) rfl))) (notOwns_of rfl) (fun i_1 => rl_all (rt_name (i := 2) (notOwn_of rfl) (by decide)) (fun _ => (re_op o_inSg (re_var (i := 2) rfl) (re_str (z := ("0123456789" : Str))))))))))))) (rb_ret re_bl hr) (rb_next (rb_ret (re_orJ (re_op o_eqS (re_var (i := 0) rfl) (re_str (z := ("0" : Str)))) (re_op o_neS (re_ixS (re_var (i := 0) rfl) re_int) (re_str (z := ("0" : Str))))) hr))))
    exact rb_imp hb (fun h => h)

/-! ### _read_amount -/
@[reducible] def N_q_read_amount : List Str := ["word", "top", "slash", "bottom", "amount"]
def w_q_read_amount (word : Str) (Qp : (Option (Int × Int)) → Prop) : Prop :=
  (SepOk ("/" : Str) ∧ Sz word.length) ∧ (fun p_1 : (T3 Str Str Str) => w_is_spelt_number p_1.a (40 : Int) (fun x_21 => (if (!x_21) = true then Qp ((none : Option (Int × Int))) else pJoin (fun kj_11 : ((Int × Int)) → Prop => (if (decide (p_1.b = ("" : Str))) = true then ∃ n_15, PySem.intText? p_1.a = some n_15 ∧ p_1.a.length ≤ 640 ∧ (fun amount_14 : (Int × Int) => kj_11 amount_14) (n_15, (1 : Int)) else (pAnd (fun Q => w_is_spelt_number p_1.c (40 : Int) (fun x_19 => Q (x_19))) (pR (!decide (p_1.c = ("1" : Str))))) (fun x_20 => (if x_20 = true then ∃ n_17, PySem.intText? p_1.a = some n_17 ∧ p_1.a.length ≤ 640 ∧ ∃ n_18, PySem.intText? p_1.c = some n_18 ∧ p_1.c.length ≤ 640 ∧ (fun amount_16 : (Int × Int) => kj_11 amount_16) (n_17, n_18) else Qp ((none : Option (Int × Int))))))) (fun s_9 : (Int × Int) => (pIf (fun Q => w_is_amount s_9 (fun x_12 => Q (x_12))) (pR (some s_9)) (pR ((none : Option (Int × Int))))) (fun x_13 => Qp (x_13)))))) (T3.mk (Txt.partition word ("/" : Str)).1 (Txt.partition word ("/" : Str)).2.1 (Txt.partition word ("/" : Str)).2.2)
def wa_q_read_amount : List Sl → PT (Option (Int × Int)) := fun args Q => ∃ word : Str, args = [.dat (X := Str) word] ∧ w_q_read_amount word Q
@[reducible] def sp_q_read_amount (C : CA) : Sp := SpA C wa_q_read_amount
@[reducible] def t_q_read_amount (C : CA) : TS :=
  (tSeq (tAsg (tM1 rPart (tVar 0) (tC (.str "/"))) (gTup C.K 3 (gCons (gName 1) (gCons (gName 2) (gCons (gName 3) gNil))))) (tSeq (tIfS (tNot (tB (tCall (sp_is_spelt_number C) [] E0 (tCons (tVar 1) (tCons (tC (.int 40)) tNil))))) (tRet (tC .non)) tNext) (tSeq (tIfS (tTest (tOp rEq (tVar 2) (tC (.str "")))) (tAsg (tTup (tCons (tCB rIntS (tCons (tVar 1) tNil)) (tCons (tC (.int 1)) tNil))) (gName 4)) (tIfS (tAnd (tB (tCall (sp_is_spelt_number C) [] E0 (tCons (tVar 3) (tCons (tC (.int 40)) tNil)))) (tTest (tOp rNe (tVar 3) (tC (.str "1"))))) (tAsg (tTup (tCons (tCB rIntS (tCons (tVar 1) tNil)) (tCons (tCB rIntS (tCons (tVar 3) tNil)) tNil))) (gName 4)) (tRet (tC .non)))) (tRet (tIf (tB (tCall (sp_is_amount C) [] E0 (tCons (tVar 4) tNil))) (tVar 4) (tC .non))))))
theorem rd_q_read_amount {C : CA} {vs : List V} {H : Hp} {Q : VK} {E : XK} (h : sp_q_read_amount C vs H Q E) : t_q_read_amount C { nx := fun _ H' => Q .non H', rt := Q } (L2.start N_q_read_amount vs) H :=
  def_A h fun args Qp hwa => by
    obtain ⟨word, rfl, hw⟩ := hwa
    refine ⟨rfl, 4, rfl, _, hw, fun H0 F0 D hr hn => ?_⟩
    have hb : RB (GA C H0 F0) ([.dat (X := Str) word] ++ unS 4) (t_q_read_amount C D) _ := (rb_seq (rb_asgT (vs := [1, 2, 3]) (re_part (re_var (i := 0) rfl) (re_str (z := ("/" : Str)))) (fun p_1 => (rt_t3 (rt_name (i := 1) (notOwn_of rfl) (by decide)) (fun _ => (rt_name (i := 2) (notOwn_of rfl) (by decide))) (fun _ _ => (rt_name (i := 3) (notOwn_of rfl) (by decide))))) (fun p_1 _ => (rb_nx (rb_seq (rb_if (rc_not (rc_b (re_imp (m' := (fun Q => w_is_spelt_number p_1.a (40 : Int) Q)) (re_call (wa := wa_is_spelt_number) (ra_dat (re_var (i := 1) rfl) (ra_dat re_int ra_nil))) (fun Q h0 => ⟨p_1.a, (40 : Int), rfl, h0⟩)))) (rb_ret (re_none (X := (Int × Int))) hr) (rb_next (rb_nx (rb_seq (have hk_10 : ∀ s_9 : (Int × Int), RB (GA C H0 F0) [.dat (X := Str) (word), .dat (X := Str) (p_1.a), .dat (X := Str) (p_1.b), .dat (X := Str) (p_1.c), .dat (X := (Int × Int)) (s_9)] ((tRet (tIf (tB (tCall (sp_is_amount C) [] E0 (tCons (tVar 4) tNil))) (tVar 4) (tC .non))) D) ((pIf (fun Q => w_is_amount s_9 (fun x_12 => Q (x_12))) (pR (some s_9)) (pR ((none : Option (Int × Int))))) (fun x_13 => Qp (x_13))) := fun s_9 => (have hb : RB (GA C H0 F0) [.dat (X := Str) (word), .dat (X := Str) (p_1.a), .dat (X := Str) (p_1.b), .dat (X := Str) (p_1.c), .dat (X := (Int × Int)) (s_9)] ((tRet (tIf (tB (tCall (sp_is_amount C) [] E0 (tCons (tVar 4) tNil))) (tVar 4) (tC .non))) D) _ := (rb_ret (re_ifJ (rc_b (re_imp (m' := (fun Q => w_is_amount s_9 Q)) (re_call (wa := wa_is_amount) (ra_dat (re_var (i := 4) rfl) ra_nil)) (fun Q h0 => ⟨s_9, rfl, h0⟩))) (re_some (re_var (i := 4) rfl)) (re_none (X := (Int × Int)))) hr); rb_imp hb (fun h => h)); rb_if (rc_test (re_op o_eqS (re_var (i := 2) rfl) (re_str (z := ("" : Str))))) (rb_asg (i := 4) (re_pair (re_intS (re_var (i := 1) rfl)) re_int) (notOwn_of rfl) (fun amount_14 => (rb_leh (sl := [.dat (X := Str) (word), .dat (X := Str) (p_1.a), .dat (X := Str) (p_1.b), .dat (X := Str) (p_1.c), .dat (X := (Int × Int)) (amount_14)]) (pin := none) (hk_10 amount_14) rfl ⟨.inl rfl, .inl rfl, .inl rfl, .inl rfl, .inl rfl, trivial⟩))) (rb_if (rc_andJ (rc_b (re_imp (m' := (fun Q => w_is_spelt_number p_1.c (40 : Int) Q)) (re_call (wa := wa_is_spelt_number) (ra_dat (re_var (i := 3) rfl) (ra_dat re_int ra_nil))) (fun Q h0 => ⟨p_1.c, (40 : Int), rfl, h0⟩))) (rc_test (re_op o_neS (re_var (i := 3) rfl) (re_str (z := ("1" : Str)))))) (rb_asg (i := 4) (re_pair (re_intS (re_var (i := 1) rfl)) (re_intS (re_var (i := 3) rfl))) (notOwn_of rfl) (fun amount_16 => (rb_leh (sl := [.dat (X := Str) (word), .dat (X := Str) (p_1.a), .dat (X := Str) (p_1.b), .dat (X := Str) (p_1.c), .dat (X := (Int × Int)) (amount_16)]) (pin := none) (hk_10 amount_16) rfl ⟨.inl rfl, .inl rfl, .inl rfl, .inl rfl, .inl rfl, trivial⟩))) (rb_ret (re_none (X := (Int × Int))) hr))))))))))))
    exact rb_imp hb (fun h => h)

/-! ### _read_side -/
@[reducible] def N_q_read_side : List Str := ["line", "word", "words", "amounts", "each"]
def w_q_read_side (line : Str) (word : Str) (Qp : (Option (Tu (Option (Int × Int)))) → Prop) : Prop :=
  (SepOk (" " : Str) ∧ Sz line.length) ∧ (fun words_1 : (List Str) => Sz (cutL words_1 (some (1 : Int)) none).length ∧ lcP (cutL words_1 (some (1 : Int)) none) (fun (i_2 : Str) Q => w_q_read_amount i_2 (fun x_3 => Q (some x_3))) (fun x_7 => (fun amounts_4 : (List (Option (Int × Int))) => (pOr (fun Q => pAt words_1 (0 : Int) (fun x_5 => Q (!decide (x_5 = word)))) (pR ((!(!amounts_4.isEmpty)) || (inB (none : Option (Int × Int)) amounts_4)))) (fun x_6 => (if x_6 = true then Qp ((none : Option (Tu (Option (Int × Int))))) else Qp (some (Tu.mk amounts_4))))) x_7)) (Txt.split line (" " : Str))
def wa_q_read_side : List Sl → PT (Option (Tu (Option (Int × Int)))) := fun args Q => ∃ line : Str, ∃ word : Str, args = [.dat (X := Str) line, .dat (X := Str) word] ∧ w_q_read_side line word Q
@[reducible] def sp_q_read_side (C : CA) : Sp := SpA C wa_q_read_side
@[reducible] def t_q_read_side (C : CA) : TS :=
  (tSeq (tAsg (tM1 rSplit (tVar 0) (tC (.str " "))) (gName 2)) (tSeq (tAsg (tLc (iList C.K (tSl (rSlL C.K) (tVar 2) (tPart (tC (.int 1))) tNoPart)) (gName 4) tYes (tCall (sp_q_read_amount C) [] E0 (tCons (tVar 4) tNil)) [4]) (gName 3)) (tSeq (tIfS (tOr (tTest (tOp rNe (tOp (rIxL C.K) (tVar 2) (tC (.int 0))) (tVar 1))) (tOr (tNot (tTruv C.K (tVar 3))) (tTest (tOp (rInD C.K) (tC .non) (tVar 3))))) (tRet (tC .non)) tNext) (tRet (tCB (cTup C.K) (tCons (tVar 3) tNil))))))
theorem rd_q_read_side {C : CA} {vs : List V} {H : Hp} {Q : VK} {E : XK} (h : sp_q_read_side C vs H Q E) : t_q_read_side C { nx := fun _ H' => Q .non H', rt := Q } (L2.start N_q_read_side vs) H :=
  def_A h fun args Qp hwa => by
    obtain ⟨line, word, rfl, hw⟩ := hwa
    refine ⟨rfl, 3, rfl, _, hw, fun H0 F0 D hr hn => ?_⟩
    have hb : RB (GA C H0 F0) ([.dat (X := Str) line, .dat (X := Str) word] ++ unS 3) (t_q_read_side C D) _ := (rb_seq (rb_asg (i := 2) (re_of_ro (ro_split (re_var (i := 0) rfl) (re_str (z := (" " : Str))))) (notOwn_of rfl) (fun words_1 => (rb_seq (rb_asg (i := 3) (re_of_ro (ro_lc (vs := [4]) (rwo_list (rv_dat (re_of_ro (ro_slL (rv_dat (re_var (i := 2) rfl)) (rp_some re_int) rp_none)))) (notOwns_of rfl) (fun i_2 => rl_all (rt_name (i := 4) (notOwn_of rfl) (by decide)) (fun _ => (re_imp (m' := (fun Q => w_q_read_amount i_2 Q)) (re_call (wa := wa_q_read_amount) (ra_dat (re_var (i := 4) rfl) ra_nil)) (fun Q h0 => ⟨i_2, rfl, h0⟩)))))) (notOwn_of rfl) (fun amounts_4 => (rb_seq (rb_if (rc_orJ (rc_test (re_op o_neS (re_ixL (rv_dat (re_var (i := 2) rfl)) re_int) (re_var (i := 1) rfl))) (rc_or_v (a := !(!amounts_4.isEmpty)) (b := inB (none : Option (Int × Int)) amounts_4) (rc_not (rc_truL (rv_dat (re_var (i := 3) rfl)))) (rc_test (re_inB (re_none (X := (Int × Int))) (rv_dat (re_var (i := 3) rfl)))))) (rb_ret (re_none (X := (Tu (Option (Int × Int))))) hr) (rb_next (rb_ret (re_some (re_tupL (rv_dat (re_var (i := 3) rfl)))) hr))))))))))
    exact rb_imp hb (fun h => h)

/-! ### read_evening -/
@[reducible] def N_read_evening : List Str := ["text", "parted", "sides", "place", "line", "side", "owed", "due"]
def w_read_evening (text : Str) (Qp : Ev → Prop) : Prop :=
  w_q_parted text (fun x_40 => (fun parted_1 : (List Str) => forP (enumI (cutL parted_1 none (some (-(1 : Int))))) ([] : List (Option (Tu (Option (Int × Int))))) (fun (x_4 : (Int × Str)) (s_3 : (List (Option (Tu (Option (Int × Int)))))) kn_16 kb_17 => (pIf (pR (decide (x_4.1 < (2 : Int)))) (fun Q => pAt [("owed" : Str), ("due" : Str)] x_4.1 (fun x_25 => w_q_read_side x_4.2 x_25 (fun x_26 => Q (x_26)))) (pR ((none : Option (Tu (Option (Int × Int))))))) (fun x_27 => (fun side_23 : (Option (Tu (Option (Int × Int)))) => (if side_23.isNone = true then False else Sz (s_3.length + 1) ∧ kn_16 (s_3 ++ [side_23]))) x_27)) (fun s_3 : (List (Option (Tu (Option (Int × Int))))) => (pOr (pR (decide ((s_3.length : Int) < (2 : Int)))) (fun Q => pAt parted_1 (-(1 : Int)) (fun x_38 => Q (!decide (x_38 = ("" : Str)))))) (fun x_39 => (if x_39 = true then False else ∃ u_29 u_30, s_3 = [u_29, u_30] ∧ ∃ y_31, u_29 = some y_31 ∧ ∃ y_32 : List (Int × Int), y_31.l = y_32.map some ∧ ∃ y_33, u_30 = some y_33 ∧ ∃ y_34 : List (Int × Int), y_33.l = y_34.map some ∧ w_Eveningu_initu (Tu.mk y_32) (Tu.mk y_34) (fun _ y_35 => ∃ o_36 d_37, y_35 = EvI.f o_36 d_37 ∧ Qp (Ev.mk o_36 d_37)))))) x_40)
def wa_read_evening : List Sl → PT Ev := fun args Q => ∃ text : Str, args = [.dat (X := Str) text] ∧ w_read_evening text Q
@[reducible] def sp_read_evening (C : CA) : Sp := SpA C wa_read_evening
@[reducible] def t_read_evening (C : CA) : TS :=
  (tSeq (tAsg (tCall (sp_q_parted C) [] E0 (tCons (tVar 0) tNil)) (gName 1)) (tSeq (tAsg (tLst tNil) (gName 2)) (tSeq (tFor (iEnum C.K (tCons (tSl (rSlL C.K) (tVar 1) tNoPart (tPart (tUn uNeg (tC (.int 1))))) tNil)) (gTup C.K 2 (gCons (gName 3) (gCons (gName 4) gNil))) (tSeq (tAsg (tIf (tTest (tOp oLt (tVar 3) (tCB (cLen C.K) (tCons (tKT C.K [("owed" : Str), ("due" : Str)]) tNil)))) (tCall (sp_q_read_side C) [] E0 (tCons (tVar 4) (tCons (tOp (rIxT C.K) (tKT C.K [("owed" : Str), ("due" : Str)]) (tVar 3)) tNil))) (tC .non)) (gName 5)) (tSeq (tIfS (tTest (tOp oIsN (tVar 5) (tC .non))) tNever tNext) (tDrop (tBM C.K "list" rAppend (tVar 2) (tCons (tVar 5) tNil)))))) (tSeq (tIfS (tOr (tTest (tOp oLt (tCB (cLen C.K) (tCons (tVar 2) tNil)) (tCB (cLen C.K) (tCons (tKT C.K [("owed" : Str), ("due" : Str)]) tNil)))) (tTest (tOp rNe (tOp (rIxL C.K) (tVar 1) (tUn uNeg (tC (.int 1)))) (tC (.str ""))))) tNever tNext) (tSeq (tAsg (tVar 2) (gUnl C.K 2 (gCons (gName 6) (gCons (gName 7) gNil)))) (tRet (tMake C.Evening (sp_Eveningu_initu C) [] E0 (tCons (tVar 6) (tCons (tVar 7) tNil)))))))))
theorem rd_read_evening {C : CA} {vs : List V} {H : Hp} {Q : VK} {E : XK} (h : sp_read_evening C vs H Q E) : t_read_evening C { nx := fun _ H' => Q .non H', rt := Q } (L2.start N_read_evening vs) H :=
  def_A h fun args Qp hwa => by
    obtain ⟨text, rfl, hw⟩ := hwa
    refine ⟨rfl, 7, rfl, _, hw, fun H0 F0 D hr hn => ?_⟩
    have hb : RB (GA C H0 F0) ([.dat (X := Str) text] ++ unS 7) (t_read_evening C D) _ := (rb_seq (rb_asg (i := 1) (re_imp (m' := (fun Q => w_q_parted text Q)) (re_call (wa := wa_q_parted) (ra_dat (re_var (i := 0) rfl) ra_nil)) (fun Q h0 => ⟨text, rfl, h0⟩)) (notOwn_of rfl) (fun parted_1 => (rb_seq (rb_asgO_v (x := ([] : List (Option (Tu (Option (Int × Int)))))) (i := 2) (ro_lst (X := (Option (Tu (Option (Int × Int))))) ral_nil) (notOwn_of rfl) (show 2 < 8 by decide) (rb_seq (rb_for (sl := [.dat (X := Str) (text), .dat (X := (List Str)) (parted_1), .own (X := (List (Option (Tu (Option (Int × Int)))))) (([] : List (Option (Tu (Option (Int × Int)))))), .un, .un, .un, .un, .un]) (pin := none) (vs := [3, 4]) (fun s_3 : (List (Option (Tu (Option (Int × Int))))) => [.dat (X := Str) (text), .dat (X := (List Str)) (parted_1), .own (X := (List (Option (Tu (Option (Int × Int)))))) (s_3), .un, .un, .un, .un, .un]) ([] : List (Option (Tu (Option (Int × Int))))) (rw_enum (re_of_ro (ro_slL (rv_dat (re_var (i := 1) rfl)) rp_none (rp_some (re_un o_neg re_int))))) rfl ⟨.inl rfl, .inl rfl, .inl rfl, .inl rfl, .inl rfl, .inl rfl, .inl rfl, .inl rfl, trivial⟩ (fun H_11 F_12 w_13 L_14 x_4 s_3 D_15 kn_16 kb_17 hN_18 hC_19 hB_20 hE_21 => ⟨(rt_pair (rt_name (i := 3) (notOwn_of rfl) (by decide)) (fun _ => (rt_name (i := 4) (notOwn_of rfl) (by decide)))), fun _ => (rb_seq (rb_asg (i := 5) (re_ifJ (rc_test (re_op o_lt (re_var (i := 3) rfl) (re_lenK (n := 2) rfl))) (re_imp (m' := (fun Q => pAt [("owed" : Str), ("due" : Str)] x_4.1 (fun x_22 => w_q_read_side x_4.2 x_22 Q))) (re_call (wa := wa_q_read_side) (ra_dat (re_var (i := 4) rfl) (ra_dat (re_hat (re_ixK (re_var (i := 3) rfl))) ra_nil))) (fun Q h0 => ⟨_, h0, fun a0 h1 => ⟨x_4.2, a0, rfl, h1⟩⟩)) (re_none (X := (Tu (Option (Int × Int)))))) (notOwn_of rfl) (fun side_23 => (rb_seq (rb_if (rc_test (re_isN (tb := tC .non) (re_var (i := 5) rfl))) rb_never (rb_next (rb_drop_v (b := side_23) (reg_append (i := 2) (l := s_3) rfl (re_var (i := 5) rfl)) (rb_leh (sl := [.dat (X := Str) (text), .dat (X := (List Str)) (parted_1), .own (X := (List (Option (Tu (Option (Int × Int)))))) (s_3 ++ [side_23]), .dat (X := Int) (x_4.1), .dat (X := Str) (x_4.2), .dat (X := (Option (Tu (Option (Int × Int))))) (side_23), .un, .un]) (pin := none) (hN_18 (s_3 ++ [side_23])) rfl ⟨.inl rfl, .inl rfl, .inl rfl, .inr ⟨rfl, by decide⟩, .inr ⟨rfl, by decide⟩, .inr ⟨rfl, by decide⟩, .inl rfl, .inl rfl, trivial⟩))))))))⟩) (fun s_3 => (rb_seq (rb_if (rc_orJ (rc_test (re_op o_lt (re_lenL (rv_own (i := 2) rfl)) (re_lenK (n := 2) rfl))) (rc_test (re_op o_neS (re_ixL (rv_dat (re_var (i := 1) rfl)) (re_un o_neg re_int)) (re_str (z := ("" : Str)))))) rb_never (rb_next (rb_seq (rb_freeze (i := 2) rfl (by intro q e; cases e <;> exact Nat.ne_of_beq_eq_false rfl) (rb_asgL2 (vs := [6, 7]) (re_var (i := 2) rfl) (fun p_28 => (rt_li2n (i := 6) (j := 7) (notOwn_of rfl) (fun _ => notOwn_of rfl) (by decide) (by decide))) (fun u_29 u_30 => (rb_ret (re_evening (wa := wa_Eveningu_initu) (w := fun o d Q => w_Eveningu_initu o d (fun _ y => Q y)) (fun o d Q h => ⟨o, d, rfl, h⟩) (re_allSome (re_got (re_var (i := 6) rfl))) (re_allSome (re_got (re_var (i := 7) rfl)))) hr))))))))))))))))
    exact rb_imp hb (fun h => h)

/-! ### _law_amount_text -/
@[reducible] def N_L_amount_text : List Str := ["_law_amount"]
def w_L_amount_text (amount : (Int × Int)) (Qp : Str → Prop) : Prop :=
  (if (decide (amount.2 = (1 : Int))) = true then (amount.1).natAbs.log2 < 1920 ∧ Qp (strI amount.1) else (amount.1).natAbs.log2 < 1920 ∧ Sz ((strI amount.1).length + ("/" : Str).length) ∧ (amount.2).natAbs.log2 < 1920 ∧ Sz (((strI amount.1) ++ ("/" : Str)).length + (strI amount.2).length) ∧ Qp (((strI amount.1) ++ ("/" : Str)) ++ (strI amount.2)))
def wa_L_amount_text : List Sl → PT Str := fun args Q => ∃ amount : (Int × Int), args = [.dat (X := (Int × Int)) amount] ∧ w_L_amount_text amount Q
@[reducible] def sp_L_amount_text (C : CA) : Sp := SpA C wa_L_amount_text
@[reducible] def t_L_amount_text (C : CA) : TS :=
  (tSeq (tIfS (tTest (tOp rEq (tOp (rIxT C.K) (tVar 0) (tC (.int 1))) (tC (.int 1)))) (tRet (tCB rStrI (tCons (tOp (rIxT C.K) (tVar 0) (tC (.int 0))) tNil))) tNext) (tRet (tOp rCatS (tOp rCatS (tCB rStrI (tCons (tOp (rIxT C.K) (tVar 0) (tC (.int 0))) tNil)) (tC (.str "/"))) (tCB rStrI (tCons (tOp (rIxT C.K) (tVar 0) (tC (.int 1))) tNil)))))
theorem rd_L_amount_text {C : CA} {vs : List V} {H : Hp} {Q : VK} {E : XK} (h : sp_L_amount_text C vs H Q E) : t_L_amount_text C { nx := fun _ H' => Q .non H', rt := Q } (L2.start N_L_amount_text vs) H :=
  def_A h fun args Qp hwa => by
    obtain ⟨amount, rfl, hw⟩ := hwa
    refine ⟨rfl, 0, rfl, _, hw, fun H0 F0 D hr hn => ?_⟩
    have hb : RB (GA C H0 F0) ([.dat (X := (Int × Int)) amount] ++ unS 0) (t_L_amount_text C D) _ := (rb_seq (rb_if (rc_test (re_op o_eqI (re_snd (re_var (i := 0) rfl)) re_int)) (rb_ret (re_strI (re_fst (re_var (i := 0) rfl))) hr) (rb_next (rb_ret (re_op o_catS (re_op o_catS (re_strI (re_fst (re_var (i := 0) rfl))) (re_str (z := ("/" : Str)))) (re_strI (re_snd (re_var (i := 0) rfl)))) hr))))
    exact rb_imp hb (fun h => h)

/-! ### _law_text -/
@[reducible] def N_L_text : List Str := ["_law_sums_here", "_law_text_here", "_law_item"]
def w_L_text (sums : ((Tu (Int × Int)) × (Tu (Int × Int)))) (Qp : Str → Prop) : Prop :=
  Sz sums.1.l.length ∧ lcP sums.1.l (fun (i_1 : (Int × Int)) Q => w_L_amount_text i_1 (fun x_2 => Q (some x_2))) (fun x_7 => Sz (([("owed" : Str)] : List Str).length + x_7.length) ∧ JnOk (" " : Str) (([("owed" : Str)] : List Str) ++ x_7) ∧ Sz ((Txt.join (" " : Str) (([("owed" : Str)] : List Str) ++ x_7)).length + ("\n" : Str).length) ∧ (fun text_3 : Str => Sz sums.2.l.length ∧ lcP sums.2.l (fun (i_4 : (Int × Int)) Q => w_L_amount_text i_4 (fun x_5 => Q (some x_5))) (fun x_6 => Sz (([("due" : Str)] : List Str).length + x_6.length) ∧ JnOk (" " : Str) (([("due" : Str)] : List Str) ++ x_6) ∧ Sz (text_3.length + (Txt.join (" " : Str) (([("due" : Str)] : List Str) ++ x_6)).length) ∧ Sz ((text_3 ++ (Txt.join (" " : Str) (([("due" : Str)] : List Str) ++ x_6))).length + ("\n" : Str).length) ∧ Qp ((text_3 ++ (Txt.join (" " : Str) (([("due" : Str)] : List Str) ++ x_6))) ++ ("\n" : Str)))) ((Txt.join (" " : Str) (([("owed" : Str)] : List Str) ++ x_7)) ++ ("\n" : Str)))
def wa_L_text : List Sl → PT Str := fun args Q => ∃ sums : ((Tu (Int × Int)) × (Tu (Int × Int))), args = [.dat (X := ((Tu (Int × Int)) × (Tu (Int × Int)))) sums] ∧ w_L_text sums Q
@[reducible] def sp_L_text (C : CA) : Sp := SpA C wa_L_text
@[reducible] def t_L_text (C : CA) : TS :=
  (tSeq (tAsg (tOp rCatS (tM1 (rJoin C.K) (tC (.str " ")) (tOp rCat (tLst (tCons (tC (.str "owed")) tNil)) (tLc (iTup C.K (tOp (rIxT C.K) (tVar 0) (tC (.int 0)))) (gName 2) tYes (tCall (sp_L_amount_text C) [] E0 (tCons (tVar 2) tNil)) [2]))) (tC (.str "\n"))) (gName 1)) (tRet (tOp rCatS (tOp rCatS (tVar 1) (tM1 (rJoin C.K) (tC (.str " ")) (tOp rCat (tLst (tCons (tC (.str "due")) tNil)) (tLc (iTup C.K (tOp (rIxT C.K) (tVar 0) (tC (.int 1)))) (gName 2) tYes (tCall (sp_L_amount_text C) [] E0 (tCons (tVar 2) tNil)) [2])))) (tC (.str "\n")))))
theorem rd_L_text {C : CA} {vs : List V} {H : Hp} {Q : VK} {E : XK} (h : sp_L_text C vs H Q E) : t_L_text C { nx := fun _ H' => Q .non H', rt := Q } (L2.start N_L_text vs) H :=
  def_A h fun args Qp hwa => by
    obtain ⟨sums, rfl, hw⟩ := hwa
    refine ⟨rfl, 2, rfl, _, hw, fun H0 F0 D hr hn => ?_⟩
    have hb : RB (GA C H0 F0) ([.dat (X := ((Tu (Int × Int)) × (Tu (Int × Int)))) sums] ++ unS 2) (t_L_text C D) _ := (rb_seq (rb_asg (i := 1) (re_op o_catS (re_join (re_str (z := (" " : Str))) (rv_dat (re_of_ro (ro_cat (rv_dat (re_of_ro (ro_lst (ral_cons (re_str (z := ("owed" : Str))) ral_nil)))) (rv_dat (re_of_ro (ro_lc (vs := [2]) (RW.o (rw_tup (re_fst (re_var (i := 0) rfl)))) (notOwns_of rfl) (fun i_1 => rl_all (rt_name (i := 2) (notOwn_of rfl) (by decide)) (fun _ => (re_imp (m' := (fun Q => w_L_amount_text i_1 Q)) (re_call (wa := wa_L_amount_text) (ra_dat (re_var (i := 2) rfl) ra_nil)) (fun Q h0 => ⟨i_1, rfl, h0⟩))))))))))) (re_str (z := ("\n" : Str)))) (notOwn_of rfl) (fun text_3 => (rb_ret (re_op o_catS (re_op o_catS (re_var (i := 1) rfl) (re_join (re_str (z := (" " : Str))) (rv_dat (re_of_ro (ro_cat (rv_dat (re_of_ro (ro_lst (ral_cons (re_str (z := ("due" : Str))) ral_nil)))) (rv_dat (re_of_ro (ro_lc (vs := [2]) (RW.o (rw_tup (re_snd (re_var (i := 0) rfl)))) (notOwns_of rfl) (fun i_4 => rl_all (rt_name (i := 2) (notOwn_of rfl) (by decide)) (fun _ => (re_imp (m' := (fun Q => w_L_amount_text i_4 Q)) (re_call (wa := wa_L_amount_text) (ra_dat (re_var (i := 2) rfl) ra_nil)) (fun Q h0 => ⟨i_4, rfl, h0⟩)))))))))))) (re_str (z := ("\n" : Str)))) hr))))
    exact rb_imp hb (fun h => h)

/-! ### Evening.__eq__ -/
@[reducible] def N_Eveningu_equ : List Str := ["self", "other"]
def w_Eveningu_equ (self : Ev) (other : Ev) (Qp : Bool → Prop) : Prop :=
  Qp (true && ((decide (self.o = other.o)) && (decide (self.d = other.d))))
def wa_Eveningu_equ : List Sl → PT Bool := fun args Q => ∃ self : Ev, ∃ other : Ev, args = [.dat (X := Ev) self, .dat (X := Ev) other] ∧ w_Eveningu_equ self other Q
@[reducible] def sp_Eveningu_equ (C : CA) : Sp := SpA C wa_Eveningu_equ
@[reducible] def t_Eveningu_equ (C : CA) : TS :=
  (tRet (tAndV (tCB (rIsi C.K) (tCons (tVar 1) (tCons (tC (.ref C.Evening)) tNil))) (tAndV (tOp (rEqD C.K) (tFld C.K (tVar 0) "owed") (tFld C.K (tVar 1) "owed")) (tOp (rEqD C.K) (tFld C.K (tVar 0) "due") (tFld C.K (tVar 1) "due")))))
theorem rd_Eveningu_equ {C : CA} (T : CT C.K C) (TI : EvIs C.K C) {vs : List V} {H : Hp} {Q : VK} {E : XK} (h : sp_Eveningu_equ C vs H Q E) : t_Eveningu_equ C { nx := fun _ H' => Q .non H', rt := Q } (L2.start N_Eveningu_equ vs) H :=
  def_A h fun args Qp hwa => by
    obtain ⟨self, other, rfl, hw⟩ := hwa
    refine ⟨rfl, 0, rfl, _, hw, fun H0 F0 D hr hn => ?_⟩
    have hb : RB (GA C H0 F0) ([.dat (X := Ev) self, .dat (X := Ev) other] ++ unS 0) (t_Eveningu_equ C D) _ := (rb_ret (re_and_v (a := true) (b := (decide (self.o = other.o)) && (decide (self.d = other.d))) (re_isiEv TI (re_var (i := 1) rfl)) (re_and_v (a := decide (self.o = other.o)) (b := decide (self.d = other.d)) (re_op o_eqD (re_owed T (re_var (i := 0) rfl)) (re_owed T (re_var (i := 1) rfl))) (re_op o_eqD (re_due T (re_var (i := 0) rfl)) (re_due T (re_var (i := 1) rfl))))) hr)
    exact rb_imp hb (fun h => h)

/-! ### law -/
@[reducible] def N_law : List Str := ["_law_script", "_law_hand_here", "_law_turn", "_law_one", "_law_other", "_law_sums_here", "_law_text_here", "_law_read"]
def w_law (script : Scr) (Qp : Bool → Prop) : Prop :=
  w_L_hand script (fun x_127 => (fun hand_1 : Dice => RgB (3 : Int) ∧ forP (rngI 0 (3 : Int)) () (fun (x_3 : Int) (s_2 : Unit) kn_65 kb_66 => w_L_draw (4 : Int) (fun x_122 => pAt ([(5 : Int), (5 : Int), (5 : Int), (100 : Int)] : List Int) x_122 (fun x_123 => CPow (10 : Int) (20 : Int) ∧ w_L_draw (2 : Int) (fun x_124 => pAt ([(9 : Int), (10 : Int) ^ ((20 : Int)).toNat] : List Int) x_124 (fun x_125 => w_L_sums x_123 x_125 (fun x_126 => (fun one_75 : ((Tu (Int × Int)) × (Tu (Int × Int))) => Sz ((Tu.mk (cutL one_75.1.l (some (1 : Int)) none)).l.length + (Tu.mk (cutL one_75.1.l none (some (1 : Int)))).l.length) ∧ w_L_draw (3 : Int) (fun x_120 => pAt ([one_75, (one_75.2, one_75.1), (Tu.mk ((Tu.mk (cutL one_75.1.l (some (1 : Int)) none)).l ++ (Tu.mk (cutL one_75.1.l none (some (1 : Int)))).l), one_75.2)] : List ((Tu (Int × Int)) × (Tu (Int × Int)))) x_120 (fun x_121 => (fun other_76 : ((Tu (Int × Int)) × (Tu (Int × Int))) => forP ([one_75, other_76] : List ((Tu (Int × Int)) × (Tu (Int × Int)))) () (fun (x_78 : ((Tu (Int × Int)) × (Tu (Int × Int)))) (s_77 : Unit) kn_96 kb_97 => w_L_made x_78 (fun x_112 => w_evening_text x_112 (fun x_113 => (fun text_103 : Str => w_read_evening text_103 (fun x_111 => (fun read_104 : Ev => (pOr (fun Q => w_L_text x_78 (fun x_106 => Q (!decide (text_103 = x_106)))) (fun Q => (pOr (fun Q => w_L_made x_78 (fun x_108 => w_Eveningu_equ read_104 x_108 (fun x_107 => Q (!x_107)))) (pR (!decide ((read_104.o, read_104.d) = x_78)))) (fun x_109 => Q (x_109)))) (fun x_110 => (if x_110 = true then Qp (false) else kn_96 ()))) x_111)) x_113))) (fun s_77 : Unit => w_L_made one_75 (fun x_116 => w_evening_text x_116 (fun x_117 => w_L_made other_76 (fun x_118 => w_evening_text x_118 (fun x_119 => (if (!decide (decide (x_117 = x_119) = decide (one_75 = other_76))) = true then Qp (false) else kn_65 ()))))))) x_121))) x_126)))))) (fun s_2 : Unit => Qp (true))) x_127)
def wa_law : List Sl → PT Bool := fun args Q => ∃ script : Scr, args = [.dat (X := Scr) script] ∧ w_law script Q
@[reducible] def sp_law (C : CA) : Sp := SpA C wa_law
@[reducible] def t_law (C : CA) : TS :=
  (tSeq (tAsg (tCall (sp_L_hand C) [] E0 (tCons (tVar 0) tNil)) (gName 1)) (tSeq (tFor (iRng1 (tCons (tC (.int 3)) tNil)) (gName 2) (tSeq (tAsg (tCall (sp_L_sums C) [] E0 (tCons (tVar 1) (tCons (tOp (rIxL C.K) (tLst (tCons (tC (.int 5)) (tCons (tC (.int 5)) (tCons (tC (.int 5)) (tCons (tC (.int 100)) tNil))))) (tCall (sp_L_draw C) [] E0 (tCons (tVar 1) (tCons (tC (.int 4)) tNil)))) (tCons (tOp (rIxL C.K) (tLst (tCons (tC (.int 9)) (tCons (tOp oPow (tC (.int 10)) (tC (.int 20))) tNil))) (tCall (sp_L_draw C) [] E0 (tCons (tVar 1) (tCons (tC (.int 2)) tNil)))) tNil)))) (gName 3)) (tSeq (tAsg (tOp (rIxL C.K) (tLst (tCons (tVar 3) (tCons (tTup (tCons (tOp (rIxT C.K) (tVar 3) (tC (.int 1))) (tCons (tOp (rIxT C.K) (tVar 3) (tC (.int 0))) tNil))) (tCons (tTup (tCons (tOp (rCatA C.K) (tSl (rSlA C.K) (tOp (rIxT C.K) (tVar 3) (tC (.int 0))) (tPart (tC (.int 1))) tNoPart) (tSl (rSlA C.K) (tOp (rIxT C.K) (tVar 3) (tC (.int 0))) tNoPart (tPart (tC (.int 1))))) (tCons (tOp (rIxT C.K) (tVar 3) (tC (.int 1))) tNil))) tNil)))) (tCall (sp_L_draw C) [] E0 (tCons (tVar 1) (tCons (tC (.int 3)) tNil)))) (gName 4)) (tSeq (tFor (iList C.K (tLst (tCons (tVar 3) (tCons (tVar 4) tNil)))) (gName 5) (tSeq (tAsg (tCall (sp_evening_text C) [] E0 (tCons (tCall (sp_L_made C) [] E0 (tCons (tVar 5) tNil)) tNil)) (gName 6)) (tSeq (tAsg (tCall (sp_read_evening C) [] E0 (tCons (tVar 6) tNil)) (gName 7)) (tIfS (tOr (tTest (tOp rNe (tVar 6) (tCall (sp_L_text C) [] E0 (tCons (tVar 5) tNil)))) (tOr (tTest (tOp (rOwnNe C.Evening (sp_Eveningu_equ C)) (tVar 7) (tCall (sp_L_made C) [] E0 (tCons (tVar 5) tNil)))) (tTest (tOp (rNeD C.K) (tTup (tCons (tFld C.K (tVar 7) "owed") (tCons (tFld C.K (tVar 7) "due") tNil))) (tVar 5))))) (tRet (tC (.bl false))) tNext)))) (tIfS (tTest (tOp rNe (tOp rEq (tCall (sp_evening_text C) [] E0 (tCons (tCall (sp_L_made C) [] E0 (tCons (tVar 3) tNil)) tNil)) (tCall (sp_evening_text C) [] E0 (tCons (tCall (sp_L_made C) [] E0 (tCons (tVar 4) tNil)) tNil))) (tOp (rEqD C.K) (tVar 3) (tVar 4)))) (tRet (tC (.bl false))) tNext))))) (tRet (tC (.bl true)))))
theorem rd_law {C : CA} (T : CT C.K C) (TE : CTE C.K C) {vs : List V} {H : Hp} {Q : VK} {E : XK} (h : sp_law C vs H Q E) : t_law C { nx := fun _ H' => Q .non H', rt := Q } (L2.start N_law vs) H :=
  def_A h fun args Qp hwa => by
    obtain ⟨script, rfl, hw⟩ := hwa
    refine ⟨rfl, 7, rfl, _, hw, fun H0 F0 D hr hn => ?_⟩
    have hb : RB (GA C H0 F0) ([.dat (X := Scr) script] ++ unS 7) (t_law C D) _ := (rb_seq (rb_asgO (i := 1) (ro_imp (m' := (fun Q => w_L_hand script Q)) (ro_call (wa := wa_L_hand) (ra_dat (re_var (i := 0) rfl) ra_nil)) (fun Q h0 => ⟨script, rfl, h0⟩)) (notOwn_of rfl) (show 1 < 8 by decide) (fun hand_1 => (rb_seq (rb_for (sl := [.dat (X := Scr) (script), .own (X := Dice) (Dice.mk), .un, .un, .un, .un, .un, .un]) (pin := none) (vs := [2]) (fun s_2 : Unit => [.dat (X := Scr) (script), .own (X := Dice) (Dice.mk), .un, .un, .un, .un, .un, .un]) () (rw_rng1 re_int) rfl ⟨.inl rfl, .inl rfl, .inl rfl, .inl rfl, .inl rfl, .inl rfl, .inl rfl, .inl rfl, trivial⟩ (fun H_60 F_61 w_62 L_63 x_3 s_2 D_64 kn_65 kb_66 hN_67 hC_68 hB_69 hE_70 => ⟨(rt_name (i := 2) (notOwn_of rfl) (by decide)), fun _ => (rb_seq (rb_asg (i := 3) (re_imp (m' := (fun Q => w_L_draw (4 : Int) (fun x_71 => pAt ([(5 : Int), (5 : Int), (5 : Int), (100 : Int)] : List Int) x_71 (fun x_72 => CPow (10 : Int) (20 : Int) ∧ w_L_draw (2 : Int) (fun x_73 => pAt ([(9 : Int), (10 : Int) ^ ((20 : Int)).toNat] : List Int) x_73 (fun x_74 => w_L_sums x_72 x_74 Q)))))) (re_callD (W := Dice) (j := 0) (wa := wa_L_sums) (i := 1) rfl (ra_own (i := 1) rfl (ra_dat (re_hat (re_ixL (rv_dat (re_of_ro (ro_lst (ral_cons re_int (ral_cons re_int (ral_cons re_int (ral_cons re_int ral_nil))))))) (re_imp (m' := (fun Q => w_L_draw (4 : Int) Q)) (re_callD (W := Dice) (j := 0) (wa := wa_L_draw) (i := 1) rfl (ra_own (i := 1) rfl (ra_dat re_int ra_nil))) (fun Q h0 => ⟨(4 : Int), rfl, h0⟩)))) (ra_dat (re_hat (re_ixL (rv_dat (re_of_ro (ro_lst (ral_cons re_int (ral_cons (re_op o_pow re_int re_int) ral_nil))))) (re_imp (m' := (fun Q => w_L_draw (2 : Int) Q)) (re_callD (W := Dice) (j := 0) (wa := wa_L_draw) (i := 1) rfl (ra_own (i := 1) rfl (ra_dat re_int ra_nil))) (fun Q h0 => ⟨(2 : Int), rfl, h0⟩)))) ra_nil)))) (fun Q h0 => ⟨_, h0, fun a0 h1 => ⟨_, h1, fun a1 h2 => ⟨a0, a1, rfl, h2⟩⟩⟩)) (notOwn_of rfl) (fun one_75 => (rb_seq (rb_asg (i := 4) (re_ixL (rv_dat (re_of_ro (ro_lst (ral_cons (re_var (i := 3) rfl) (ral_cons (re_pair (re_snd (re_var (i := 3) rfl)) (re_fst (re_var (i := 3) rfl))) (ral_cons (re_pair (re_op o_catT (re_slT (re_fst (re_var (i := 3) rfl)) (rp_some re_int) rp_none) (re_slT (re_fst (re_var (i := 3) rfl)) rp_none (rp_some re_int))) (re_snd (re_var (i := 3) rfl))) ral_nil)))))) (re_imp (m' := (fun Q => w_L_draw (3 : Int) Q)) (re_callD (W := Dice) (j := 0) (wa := wa_L_draw) (i := 1) rfl (ra_own (i := 1) rfl (ra_dat re_int ra_nil))) (fun Q h0 => ⟨(3 : Int), rfl, h0⟩))) (notOwn_of rfl) (fun other_76 => (rb_seq (rb_for (sl := [.dat (X := Scr) (script), .own (X := Dice) (Dice.mk), .dat (X := Int) (x_3), .dat (X := ((Tu (Int × Int)) × (Tu (Int × Int)))) (one_75), .dat (X := ((Tu (Int × Int)) × (Tu (Int × Int)))) (other_76), .un, .un, .un]) (pin := none) (vs := [5]) (fun s_77 : Unit => [.dat (X := Scr) (script), .own (X := Dice) (Dice.mk), .dat (X := Int) (x_3), .dat (X := ((Tu (Int × Int)) × (Tu (Int × Int)))) (one_75), .dat (X := ((Tu (Int × Int)) × (Tu (Int × Int)))) (other_76), .un, .un, .un]) () (rw_list (re_of_ro (ro_lst (ral_cons (re_var (i := 3) rfl) (ral_cons (re_var (i := 4) rfl) ral_nil))))) rfl ⟨.inl rfl, .inl rfl, .inl rfl, .inl rfl, .inl rfl, .inl rfl, .inl rfl, .inl rfl, trivial⟩ (fun H_91 F_92 w_93 L_94 x_78 s_77 D_95 kn_96 kb_97 hN_98 hC_99 hB_100 hE_101 => ⟨(rt_name (i := 5) (notOwn_of rfl) (by decide)), fun _ => (rb_seq (rb_asg (i := 6) (re_imp (m' := (fun Q => w_L_made x_78 (fun x_102 => w_evening_text x_102 Q))) (re_call (wa := wa_evening_text) (ra_dat (re_hat (re_imp (m' := (fun Q => w_L_made x_78 Q)) (re_call (wa := wa_L_made) (ra_dat (re_var (i := 5) rfl) ra_nil)) (fun Q h0 => ⟨x_78, rfl, h0⟩))) ra_nil)) (fun Q h0 => ⟨_, h0, fun a0 h1 => ⟨a0, rfl, h1⟩⟩)) (notOwn_of rfl) (fun text_103 => (rb_seq (rb_asg (i := 7) (re_imp (m' := (fun Q => w_read_evening text_103 Q)) (re_call (wa := wa_read_evening) (ra_dat (re_var (i := 6) rfl) ra_nil)) (fun Q h0 => ⟨text_103, rfl, h0⟩)) (notOwn_of rfl) (fun read_104 => (rb_if (rc_orJ (rc_test (re_op o_neS (re_var (i := 6) rfl) (re_imp (m' := (fun Q => w_L_text x_78 Q)) (re_call (wa := wa_L_text) (ra_dat (re_var (i := 5) rfl) ra_nil)) (fun Q h0 => ⟨x_78, rfl, h0⟩)))) (rc_orJ (rc_test (re_imp (m' := (fun Q => w_L_made x_78 (fun x_105 => w_Eveningu_equ read_104 x_105 (fun x => Q (!x))))) (re_evNe (wa := wa_Eveningu_equ) (re_var (i := 7) rfl) (re_hat (re_imp (m' := (fun Q => w_L_made x_78 Q)) (re_call (wa := wa_L_made) (ra_dat (re_var (i := 5) rfl) ra_nil)) (fun Q h0 => ⟨x_78, rfl, h0⟩)))) (fun Q h0 => ⟨_, h0, fun a0 h1 => ⟨read_104, a0, rfl, h1⟩⟩))) (rc_test (re_op o_neD (re_pair (re_owed T (re_var (i := 7) rfl)) (re_due T (re_var (i := 7) rfl))) (re_var (i := 5) rfl))))) (rb_ret re_bl ((((hr.lift L_63).rt hE_70).lift L_94).rt hE_101)) (rb_next (rb_leh (sl := [.dat (X := Scr) (script), .own (X := Dice) (Dice.mk), .dat (X := Int) (x_3), .dat (X := ((Tu (Int × Int)) × (Tu (Int × Int)))) (one_75), .dat (X := ((Tu (Int × Int)) × (Tu (Int × Int)))) (other_76), .dat (X := ((Tu (Int × Int)) × (Tu (Int × Int)))) (x_78), .dat (X := Str) (text_103), .dat (X := Ev) (read_104)]) (pin := none) (hN_98 ()) rfl ⟨.inl rfl, .inl rfl, .inl rfl, .inl rfl, .inl rfl, .inr ⟨rfl, by decide⟩, .inr ⟨rfl, by decide⟩, .inr ⟨rfl, by decide⟩, trivial⟩)))))))))⟩) (fun s_77 => (rb_if (rc_test (re_op o_neB (re_op o_eqS (re_imp (m' := (fun Q => w_L_made one_75 (fun x_114 => w_evening_text x_114 Q))) (re_call (wa := wa_evening_text) (ra_dat (re_hat (re_imp (m' := (fun Q => w_L_made one_75 Q)) (re_call (wa := wa_L_made) (ra_dat (re_var (i := 3) rfl) ra_nil)) (fun Q h0 => ⟨one_75, rfl, h0⟩))) ra_nil)) (fun Q h0 => ⟨_, h0, fun a0 h1 => ⟨a0, rfl, h1⟩⟩)) (re_imp (m' := (fun Q => w_L_made other_76 (fun x_115 => w_evening_text x_115 Q))) (re_call (wa := wa_evening_text) (ra_dat (re_hat (re_imp (m' := (fun Q => w_L_made other_76 Q)) (re_call (wa := wa_L_made) (ra_dat (re_var (i := 4) rfl) ra_nil)) (fun Q h0 => ⟨other_76, rfl, h0⟩))) ra_nil)) (fun Q h0 => ⟨_, h0, fun a0 h1 => ⟨a0, rfl, h1⟩⟩))) (re_op o_eqD (re_var (i := 3) rfl) (re_var (i := 4) rfl)))) (rb_ret re_bl ((hr.lift L_63).rt hE_70)) (rb_next (rb_leh (sl := [.dat (X := Scr) (script), .own (X := Dice) (Dice.mk), .dat (X := Int) (x_3), .dat (X := ((Tu (Int × Int)) × (Tu (Int × Int)))) (one_75), .dat (X := ((Tu (Int × Int)) × (Tu (Int × Int)))) (other_76), .un, .un, .un]) (pin := none) (hN_67 ()) rfl ⟨.inl rfl, .inl rfl, .inr ⟨rfl, by decide⟩, .inr ⟨rfl, by decide⟩, .inr ⟨rfl, by decide⟩, .inl rfl, .inl rfl, .inl rfl, trivial⟩))))))))))))⟩) (fun s_2 => (rb_ret re_bl hr)))))))
    exact rb_imp hb (fun h => h)


/-! ### family B: fractions, what is drawn -/
def am (q : Rat) : Int × Int := (q.num, (q.den : Int))
def Bq (k : Nat) (q : Rat) : Prop := q.num.natAbs ≤ 2 ^ k ∧ q.den ≤ 2 ^ k
theorem p2_le {a j k : Nat} (h : a ≤ 2 ^ j) (i : j ≤ k) : a ≤ 2 ^ k := Nat.le_trans h (Nat.pow_le_pow_right (by decide) i)
theorem Bq.mono {j k : Nat} {q : Rat} (b : Bq j q) (h : j ≤ k) : Bq k q := ⟨p2_le b.1 h, p2_le b.2 h⟩
theorem bits_of {a : Int} {j : Nat} (h : a.natAbs ≤ 2 ^ j) : Builtin.Int.intBits a ≤ j + 1 := PyProof.Rows.intBits_le (Nat.lt_of_le_of_lt h (Nat.pow_lt_pow_right (by decide) (by omega)))
theorem mul_bits {a b : Int} {j k : Nat} (ha : a.natAbs ≤ 2 ^ j) (hb : b.natAbs ≤ 2 ^ k) (h : j ≤ 100000) (h' : k ≤ 100000) : IntMulOk a b := IntMulOk.of_le (bits_of ha) (bits_of hb) (by omega)
theorem log_bits {n k : Nat} (h : n ≤ 2 ^ k) (hk : k < 8000) : n.log2 < 9000 := Nat.lt_of_lt_of_le (log2_of_lt (k := k + 1) (Nat.lt_of_le_of_lt h (Nat.pow_lt_pow_right (by decide) (by omega))) (by omega)) (by omega)
theorem den0 (q : Rat) : 0 < q.den := Nat.pos_of_ne_zero q.den_nz
theorem am_inj {p q : Rat} : am p = am q ↔ p = q := by
  constructor
  · intro h
    have h1 : p.num = q.num := congrArg Prod.fst h
    have h2 : (p.den : Int) = q.den := congrArg Prod.snd h
    exact Rat.ext h1 (by omega)
  · rintro rfl; rfl
theorem am_mk (q : Rat) : mkRat q.num ((q.den : Int)).toNat = q := by
  rw [Int.toNat_natCast]; exact Rat.mkRat_self q
theorem am_int (i : Int) : (i, (1 : Int)) = am (i : Rat) := rfl
theorem Bq.int {i : Int} {k : Nat} (h : i.natAbs ≤ 2 ^ k) : Bq k (i : Rat) := ⟨h, by show 1 ≤ _; exact Nat.one_le_two_pow⟩
theorem Bq.mk {t : Int} {b k : Nat} (h0 : 0 < b) (ht : t.natAbs ≤ 2 ^ k) (hb : b ≤ 2 ^ k) : Bq k (mkRat t b) := ⟨Nat.le_trans (mkRat_num_le t b h0) ht, Nat.le_trans (Nat.le_of_dvd h0 (mkRat_den_dvd t b h0)) hb⟩
theorem Bq.neg {q : Rat} {k : Nat} (h : Bq k q) : Bq k (-q) := ⟨by rw [Rat.neg_num, Int.natAbs_neg]; exact h.1, by rw [Rat.neg_den]; exact h.2⟩
theorem Bq.mul {p q : Rat} {j k : Nat} (hp : Bq j p) (hq : Bq k q) : Bq (j + k) (p * q) := by
  rw [Rat.mul_def']
  refine Bq.mk (Nat.mul_pos (den0 p) (den0 q)) ?_ ?_
  · rw [Int.natAbs_mul, Nat.pow_add]; exact Nat.mul_le_mul hp.1 hq.1
  · rw [Nat.pow_add]; exact Nat.mul_le_mul hp.2 hq.2
theorem Bq.add {p q : Rat} {j k : Nat} (hp : Bq j p) (hq : Bq k q) : Bq (j + k + 1) (p + q) := by
  rw [Rat.add_def']
  refine Bq.mk (Nat.mul_pos (den0 p) (den0 q)) ?_ ?_
  · refine Nat.le_trans (Int.natAbs_add_le _ _) ?_
    rw [Int.natAbs_mul, Int.natAbs_mul, Int.natAbs_natCast, Int.natAbs_natCast, Nat.pow_succ, Nat.pow_add, Nat.mul_two]
    exact Nat.add_le_add (Nat.mul_le_mul hp.1 hq.2) (by rw [Nat.mul_comm (2 ^ j)]; exact Nat.mul_le_mul hq.1 hp.2)
  · exact p2_le (by rw [Nat.pow_add]; exact Nat.mul_le_mul hp.2 hq.2) (by omega : j + k ≤ _)
theorem ncast {n k : Nat} (h : n ≤ 2 ^ k) : ((n : Int)).natAbs ≤ 2 ^ k := by rw [Int.natAbs_natCast]; exact h
theorem low_of {t : Int} {b : Nat} {Q : Int × Int → Prop} (hb : 0 < b) (hl : b.log2 < 9000) (h : Q (am (mkRat t b))) : w_lowest t (b : Int) Q := by
  show (fun shared : Int => CDivW t shared ∧ CDivW (b : Int) shared ∧ Q (t / shared, (b : Int) / shared)) ((Nat.gcd t.natAbs (b : Int).natAbs : Nat) : Int)
  rw [Int.natAbs_natCast]
  have gp := gcd_le t b hb
  have g9 : (((Nat.gcd t.natAbs b : Nat) : Int)).natAbs.log2 < 9000 := by rw [Int.natAbs_natCast]; exact log2_lt_of_le gp.2 hl (by decide)
  refine ⟨⟨by omega, g9⟩, ⟨by omega, g9⟩, ?_⟩
  rw [← low_num t b hb, ← low_den t b hb]
  exact h
theorem x_lcm {k : Nat} {Q : Int → Prop} : ∀ (qs : List Rat) (j L : Nat), (∀ q ∈ qs, Bq k q) → 0 < L → L ≤ 2 ^ j → j + k * qs.length < 8000 → (∀ L' : Nat, 0 < L' → L' ≤ 2 ^ (j + k * qs.length) → L ∣ L' → (∀ q ∈ qs, q.den ∣ L') → Q (L' : Int)) →
    forP (qs.map am) (L : Int) (fun (x_2 : (Int × Int)) (s_1 : Int) kn_9 kb_10 => LcmOk s_1 x_2.2 ∧ (fun shared_15 : Int => kn_9 shared_15) ((Nat.lcm (s_1).natAbs (x_2.2).natAbs : Nat) : Int)) (fun s_1 : Int => Q (s_1))
  | [], j, L, _, h0, h1, _, hk => hk L h0 h1 (Nat.dvd_refl _) fun _ hz => by cases hz
  | q :: qs, j, L, hx, h0, h1, hj, hk => by
    have qd := den0 q
    have q1 := hx q List.mem_cons_self
    rw [List.length_cons, Nat.mul_succ] at hj hk
    refine ⟨⟨by omega, by show (0 : Int) < (q.den : Int); omega, by rw [Int.natAbs_natCast]; exact Nat.lt_trans (log_bits h1 (by omega)) (by decide), by show ((q.den : Int)).natAbs.log2 < 13000; rw [Int.natAbs_natCast]; exact Nat.lt_trans (log_bits q1.2 (by omega)) (by decide)⟩, ?_⟩
    show forP (qs.map am) ((Nat.lcm (L : Int).natAbs (q.den : Int).natAbs : Nat) : Int) _ _
    rw [Int.natAbs_natCast, Int.natAbs_natCast]
    have hm : Nat.lcm L q.den ≤ 2 ^ (j + k) := by
      rw [Nat.pow_add]
      exact Nat.le_trans (Nat.le_of_dvd (Nat.mul_pos h0 qd) (Nat.lcm_dvd (Nat.dvd_mul_right _ _) (Nat.dvd_mul_left _ _))) (Nat.mul_le_mul h1 q1.2)
    refine x_lcm qs (j + k) (Nat.lcm L q.den) (fun z hz => hx z (List.mem_cons_of_mem _ hz)) (Nat.lcm_pos h0 qd) hm (by omega) fun L' p1 p2 p3 p4 => hk L' p1 (by rw [show j + (k * qs.length + k) = j + k + k * qs.length by omega]; exact p2) (Nat.dvd_trans (Nat.dvd_lcm_left _ _) p3) fun z hz => ?_
    rcases List.mem_cons.mp hz with rfl | hz
    · exact Nat.dvd_trans (Nat.dvd_lcm_right _ _) p3
    · exact p4 z hz
theorem x_sumq {k : Nat} {qs : List Rat} {Q : Int × Int → Prop} (hq : ∀ q ∈ qs, Bq k q) (hk : k + k * qs.length < 8000) (hl : qs.length ≤ 1000) (h : Q (am qs.sum)) : w_added ⟨qs.map am⟩ Q := by
  unfold w_added w_common_bottom
  refine x_lcm qs 0 1 hq (by decide) (by decide) (by omega) fun L L0 L1 _ hL => ?_
  dsimp only [pAt, pIf, pR, pAnd, pOr, pJoin]
  unfold w_in_units
  rw [Nat.zero_add] at L1
  refine ⟨sz_of (by rw [List.length_map]; omega), lcP_det (fun x : Int × Int => x.1 * ((L : Int) / x.2)) _ (fun x hx kn hk' => ?_) ?_⟩
  · obtain ⟨q, hq', rfl⟩ := List.mem_map.mp hx
    have qd := den0 q
    have h1 := hq q hq'
    have h2 : ((L : Int) / (q.den : Int)).natAbs ≤ 2 ^ (k * qs.length) := by
      rw [← Int.natCast_ediv, Int.natAbs_natCast]
      exact Nat.le_trans (Nat.div_le_self _ _) L1
    exact ⟨⟨by show (0 : Int) < (q.den : Int); omega, by show ((q.den : Int)).natAbs.log2 < 9000; rw [Int.natAbs_natCast]; exact log_bits h1.2 (by omega)⟩, mul_bits h1.1 h2 (by omega) (by omega), hk'⟩
  · rw [List.map_map]
    have e := units_sum L L0 qs hL
    show w_lowest (List.map ((fun x : Int × Int => x.1 * ((L : Int) / x.2)) ∘ am) qs).sum (L : Int) (fun x => Q x)
    generalize hS : (qs.map ((fun x : Int × Int => x.1 * ((L : Int) / x.2)) ∘ am)).sum = S
    have hS' : (qs.map fun q => q.num * ((L : Int) / (q.den : Int))).sum = S := hS
    rw [hS'] at e
    exact low_of L0 (log_bits L1 (by omega)) (by rw [e]; exact h)
theorem sum_set : ∀ {l : List Int} {i : Nat} {x p : Int}, l[i]? = some x → (l.set i (x + p)).sum = l.sum + p
  | [], _, _, _, h => by simp at h
  | a :: l, 0, x, p, h => by
    have : a = x := by simpa using h
    subst this
    simp only [List.set_cons_zero, List.sum_cons]
    omega
  | a :: l, i + 1, x, p, h => by
    have := sum_set (l := l) (i := i) (x := x) (p := p) (by simpa using h)
    simp only [List.set_cons_succ, List.sum_cons]
    omega
theorem all_set {P : Int → Prop} {l : List Int} {i : Nat} {x : Int} (h : ∀ y ∈ l, P y) (hx : P x) : ∀ y ∈ l.set i x, P y := fun y hy => (List.mem_or_eq_of_mem_set hy).elim (h y) fun e => e ▸ hx
theorem perm_sum {l r : List Int} (h : l.Perm r) : l.sum = r.sum := by
  induction h with
  | nil => rfl
  | cons x _ ih => simp only [List.sum_cons, ih]
  | swap x y l => simp only [List.sum_cons]; omega
  | trans _ _ a b => exact a.trans b
theorem sum_le {B : Int} : ∀ {l : List Int}, (∀ x ∈ l, x ≤ B) → l.sum ≤ B * l.length
  | [], _ => by simp
  | x :: l, h => by
    have h1 := h x List.mem_cons_self
    have h2 := sum_le (B := B) (l := l) fun y hy => h y (List.mem_cons_of_mem _ hy)
    rw [List.sum_cons, List.length_cons]
    have : B * ((l.length + 1 : Nat) : Int) = B * l.length + B := by rw [Int.natCast_add, Int.mul_add]; simp
    omega
theorem len_le_sum : ∀ {l : List Int}, (∀ x ∈ l, 1 ≤ x) → (l.length : Int) ≤ l.sum
  | [], _ => by simp
  | x :: l, h => by
    have h1 := h x List.mem_cons_self
    have h2 := len_le_sum (l := l) fun y hy => h y (List.mem_cons_of_mem _ hy)
    rw [List.sum_cons, List.length_cons]
    omega
theorem draw_of {n : Int} {Q : Int → Prop} (h0 : 0 < n) (h1 : n < 18446744073709551616) (h : ∀ d, 0 ≤ d → d < n → Q d) : w_L_draw n Q := ⟨⟨h0, log_small h0 h1⟩, h⟩
structure Side2 (M : Int) (o d : List Int) : Prop where
  o1 : 1 ≤ o.length
  d1 : 1 ≤ d.length
  le : (o.length : Int) + d.length ≤ M
  op : ∀ x ∈ o, 1 ≤ x
  dp : ∀ x ∈ d, 1 ≤ x
  eq : o.sum = d.sum
theorem sum_app (a b : List Int) : (a ++ b).sum = a.sum + b.sum := List.sum_append_int
theorem num_pos {t : Int} {b : Nat} (ht : 0 < t) (hb : 0 < b) : 0 < (mkRat t b).num := by
  rw [low_num _ _ hb]
  have g0 := (gcd_le t b hb).1
  have gd : (((t.natAbs.gcd b : Nat)) : Int) ∣ t := Int.dvd_trans (Int.natCast_dvd_natCast.mpr (Nat.gcd_dvd_left _ _)) (Int.natAbs_dvd.mpr (Int.dvd_refl _))
  exact Int.ediv_pos_of_pos_of_dvd ht (by omega) gd
theorem am_ok (q : Rat) : ((decide ((0 : Int) < (am q).2)) && (decide (((Nat.gcd (am q).1.natAbs (am q).2.natAbs : Nat) : Int) = (1 : Int)))) = true := by
  have hd := den0 q
  unfold am
  simp only [Bool.and_eq_true, decide_eq_true_eq]
  refine ⟨by omega, ?_⟩
  have := q.reduced
  rw [Int.natAbs_natCast]
  have : Nat.gcd q.num.natAbs q.den = 1 := this
  rw [this]; rfl
theorem ifn {b : Bool} {x y : Prop} (e : b = false) (h : y) : if b = true then x else y := by rw [if_neg (by rw [e]; decide)]; exact h
theorem ify {b : Bool} {x y : Prop} (e : b = true) (h : x) : if b = true then x else y := by rw [if_pos e]; exact h
theorem div_go {Q : Int → Prop} {k : Int × Int → Prop} : ∀ (n : Nat) (xs : List Int) (a b : Int), 0 ≤ a → 0 ≤ b → b.natAbs < 2 ^ n → 2 * n + 1 ≤ xs.length → Q ((Nat.gcd a.natAbs b.natAbs : Nat) : Int) →
    forP xs (a, b) (fun (x_2 : Int) (s_1 : Int × Int) kn_10 kb_11 => (if (decide (s_1.2 = (0 : Int))) = true then Q (s_1.1) else (fun v_16 : Int => 0 < s_1.2 ∧ (fun v_17 : Int => kn_10 (v_16, v_17)) (s_1.1 % s_1.2)) s_1.2)) k
  | _, [], a, b, _, _, _, hl, _ => by simp at hl
  | n, x :: xs, a, b, ha, hb, hn, hl, h => by
    show (if (decide (b = (0 : Int))) = true then Q a else (0 < b ∧ forP xs (b, a % b) _ k))
    by_cases hz : b = 0
    · rw [if_pos (by simpa using hz)]
      rw [hz] at h
      have e : ((Nat.gcd a.natAbs (0 : Int).natAbs : Nat) : Int) = a := by simp; omega
      rw [e] at h; exact h
    rw [if_neg (by simpa using hz)]
    refine ⟨by omega, ?_⟩
    have hg : ∀ a b : Int, 0 ≤ a → 0 < b → Nat.gcd b.natAbs (a % b).natAbs = Nat.gcd a.natAbs b.natAbs := fun a b h0 h1 => by
      rw [Int.natAbs_emod_of_nonneg h0, Nat.gcd_comm a.natAbs]
      rw [Nat.gcd_comm b.natAbs (a.natAbs % b.natAbs)]
      exact (Nat.gcd_rec _ _).symm
    have r0 := Int.emod_nonneg a hz
    have r1 := Int.emod_lt_of_pos a (show 0 < b by omega)
    cases n with
    | zero => simp at hn; omega
    | succ n =>
      cases xs with
      | nil => simp at hl
      | cons y xs =>
        show (if (decide (a % b = (0 : Int))) = true then Q b else (0 < a % b ∧ forP xs (a % b, b % (a % b)) _ k))
        rw [← hg a b ha (by omega)] at h
        by_cases hr : a % b = 0
        · rw [if_pos (by simpa using hr)]
          rw [hr] at h
          have e : ((Nat.gcd b.natAbs (0 : Int).natAbs : Nat) : Int) = b := by simp; omega
          rw [e] at h; exact h
        rw [if_neg (by simpa using hr)]
        refine ⟨by omega, div_go n xs _ _ r0 (Int.emod_nonneg _ hr) ?_ (by simp at hl; omega) ?_⟩
        · have q0 := Int.emod_nonneg b hr
          have q1 := Int.emod_lt_of_pos b (show 0 < a % b by omega)
          have q2 : b % (a % b) ≤ b - a % b := by
            have e := Int.emod_add_mul_ediv b (a % b)
            have d : 1 ≤ b / (a % b) := Int.le_ediv_of_mul_le (by omega) (by omega)
            have := Int.mul_le_mul_of_nonneg_left d r0
            omega
          rw [Nat.pow_succ] at hn
          omega
        · rw [hg b (a % b) hb (by omega)]; exact h
theorem rep_ok {c n : Int} (h0 : 1 ≤ n) (hc : 1 ≤ c) : ((List.replicate n.toNat ([c] : List Int)).flatten).length = n.toNat ∧ (∀ x ∈ (List.replicate n.toNat ([c] : List Int)).flatten, x = c) ∧ (List.replicate n.toNat ([c] : List Int)).flatten.sum = n * c := by
  have : ∀ k : Nat, ((List.replicate k ([c] : List Int)).flatten).length = k ∧ (∀ x ∈ (List.replicate k ([c] : List Int)).flatten, x = c) ∧ (List.replicate k ([c] : List Int)).flatten.sum = (k : Int) * c := by
    intro k
    induction k with
    | zero => simp
    | succ k ih =>
      rw [List.replicate_succ, List.flatten_cons]
      refine ⟨by rw [List.length_append, ih.1]; simp; omega, fun x hx => ?_, by rw [sum_app, ih.2.2, Int.natCast_succ, Int.add_mul]; simp; omega⟩
      rcases List.mem_append.mp hx with hx | hx
      · simpa using hx
      · exact ih.2.1 x hx
  obtain ⟨a, b, e⟩ := this n.toNat
  exact ⟨a, b, by rw [e, Int.toNat_of_nonneg (by omega)]⟩
/-! ### family A: sums that are drawn -/
theorem logP {n k : Nat} (h : n < 2 ^ k) (hk : k < 8000) : n.log2 < 9000 := log_bits (Nat.le_of_lt h) hk
theorem drawA {n : Int} {Q : Int → Prop} (h0 : 0 < n) (h1 : n.natAbs < 2 ^ 200) (h : ∀ d, 0 ≤ d → d < n → Q d) : w_L_draw n Q := ⟨⟨h0, logP h1 (by decide)⟩, h⟩
theorem sum_dt (l : List Int) (k : Nat) : (l.drop k ++ l.take k).sum = l.sum := by
  rw [sum_app]
  have := congrArg List.sum (List.take_append_drop k l)
  rw [sum_app] at this
  omega
theorem lcutA {full many : Int} {Q : List Int → Prop} (m1 : 1 ≤ many) (m2 : many ≤ 100) (f1 : many ≤ full) (f2 : full.natAbs < 2 ^ 100) (h : ∀ l : List Int, (l.length : Int) = many → (∀ x ∈ l, 1 ≤ x) → l.sum = full → Q l) : w_L_cut full many Q := by
  refine ⟨⟨by omega, by omega⟩, forP_rng (fun i (s : List Int × Int) => (s.1.length = i) ∧ (∀ x ∈ s.1, 1 ≤ x) ∧ 0 ≤ s.2 ∧ s.1.sum + s.2 = full - many + i) ⟨rfl, (fun x hx => by cases hx), by show 0 ≤ full - many; omega, by show (0 : Int) + (full - many) = _; omega⟩ (fun i s kn hi hI hn => ?_) fun s hI => ?_⟩
  · obtain ⟨parts, left⟩ := s
    obtain ⟨h1, h2, h3, h4⟩ := hI
    have h1 : parts.length = i := h1
    have h3 : 0 ≤ left := h3
    have h4 : parts.sum + left = full - many + i := h4
    have sp : 0 ≤ parts.sum := by have := len_le_sum h2; omega
    have d0 : 0 < many - i := by omega
    have q0 : 0 ≤ left / (many - i) := Int.ediv_nonneg h3 (by omega)
    have q1 : left / (many - i) ≤ left := Int.ediv_le_self _ h3
    dsimp only
    refine ⟨⟨d0, log_small d0 (by omega)⟩, mul_bits (j := 2) (k := 101) (by decide) (by omega) (by decide) (by decide), drawA (by omega) (by omega) fun d d0' d1 => ⟨sz_of (by show parts.length + 1 ≤ _; omega), hn _ ⟨?_, fun x hx => ?_, ?_, ?_⟩⟩⟩
    · show (parts ++ [1 + d]).length = i + 1
      rw [List.length_append, h1]; rfl
    · rcases List.mem_append.mp hx with hx | hx
      · exact h2 x hx
      · have : x = 1 + d := by simpa using hx
        omega
    · show 0 ≤ left - d; omega
    · show (parts ++ [1 + d]).sum + (left - d) = full - many + ((i + 1 : Nat) : Int)
      rw [sum_app]
      show parts.sum + ((1 + d) + 0) + (left - d) = _
      omega
  · obtain ⟨parts, left⟩ := s
    obtain ⟨h1, h2, h3, h4⟩ := hI
    have h3 : 0 ≤ left := h3
    have e0 : ((many - 1).toNat : Int) = many - 1 := by omega
    have h4 : parts.sum + left = full - many + ((many - 1).toNat : Int) := h4
    have h1 : parts.length = (many - 1).toNat := h1
    have ll : (parts ++ [1 + left]).length = parts.length + 1 := by rw [List.length_append]; rfl
    refine ⟨sz_of (by show parts.length + 1 ≤ _; omega), drawA (by omega) (by omega) fun a a0 a1 => ?_⟩
    show Sz ((cutL (parts ++ [1 + left]) (some a) none).length + (cutL (parts ++ [1 + left]) none (some a)).length) ∧ Q (cutL (parts ++ [1 + left]) (some a) none ++ cutL (parts ++ [1 + left]) none (some a))
    rw [cut_lo _ _ a0, cut_hi _ _ a0]
    have lt : ((parts ++ [1 + left]).drop a.toNat).length + ((parts ++ [1 + left]).take a.toNat).length = (parts ++ [1 + left]).length := by rw [List.length_drop, List.length_take]; omega
    refine ⟨sz_of (by omega), h _ (by rw [List.length_append]; omega) (fun x hx => ?_) ?_⟩
    · have hx : x ∈ parts ++ [1 + left] := by
        rcases List.mem_append.mp hx with hx | hx
        · exact List.mem_of_mem_drop hx
        · exact List.mem_of_mem_take hx
      rcases List.mem_append.mp hx with hx | hx
      · exact h2 x hx
      · have : x = 1 + left := by simpa using hx
        omega
    · rw [sum_dt, sum_app]
      show parts.sum + ((1 + left) + 0) = full
      omega
/-- two sides of whole sums -/
structure SA (B : Nat) (o d : List Int) : Prop where
  o1 : 1 ≤ o.length
  d1 : 1 ≤ d.length
  o2 : o.length ≤ 100
  d2 : d.length ≤ 100
  op : ∀ x ∈ o, 1 ≤ x
  dp : ∀ x ∈ d, 1 ≤ x
  eq : o.sum = d.sum
  b : o.sum.natAbs < 2 ^ B
theorem SA.swap {B : Nat} {o d : List Int} (s : SA B o d) : SA B d o := ⟨s.d1, s.o1, s.d2, s.o2, s.dp, s.op, s.eq.symm, by rw [← s.eq]; exact s.b⟩
theorem sum_rev (l : List Int) : l.reverse.sum = l.sum := perm_sum (List.reverse_perm l)
theorem lnumA {side most : Int} {Q : List Int × List Int → Prop} (s1 : 1 ≤ side) (s2 : side ≤ 100) (m1 : 1 ≤ most) (m2 : most.natAbs < 2 ^ 80) (h : ∀ o d, SA 90 o d → Q (o, d)) : w_L_numbers side most Q := by
  refine drawA (by omega) (by omega) fun a a0 a1 => drawA (by omega) (by omega) fun b b0 b1 => drawA (by omega) (by omega) fun c c0 c1 => ?_
  have f0 : (1 + a) ≤ max (1 + a) (1 + b) + c := by omega
  have f1 : (1 + b) ≤ max (1 + a) (1 + b) + c := by omega
  have f2 : (max (1 + a) (1 + b) + c).natAbs < 2 ^ 90 := by omega
  have f3 : (max (1 + a) (1 + b) + c).natAbs < 2 ^ 100 := by omega
  refine drawA (by decide) (by decide) fun e e0 e1 => ?_
  show (if (decide (e = (0 : Int))) = true then w_L_cut (max (1 + a) (1 + b) + c) (1 + a) _ else w_L_cut (max (1 + a) (1 + b) + c) (1 + a) _)
  split
  · refine lcutA (by omega) (by omega) f0 f3 fun l l1 l2 l3 => lcutA (by omega) (by omega) f0 f3 fun m m1 m2 m3 => h _ _ ⟨by omega, by rw [List.length_reverse]; omega, by omega, by rw [List.length_reverse]; omega, l2, fun x hx => m2 x (List.mem_reverse.mp hx), by rw [sum_rev, l3, m3], by rw [l3]; exact f2⟩
  · refine lcutA (by omega) (by omega) f0 f3 fun l l1 l2 l3 => ?_
    show (if (decide (e = (1 : Int))) = true then Q (l, l.reverse) else w_L_cut (max (1 + a) (1 + b) + c) (1 + b) _)
    split
    · exact h _ _ ⟨by omega, by rw [List.length_reverse]; omega, by omega, by rw [List.length_reverse]; omega, l2, fun x hx => l2 x (List.mem_reverse.mp hx), by rw [sum_rev], by rw [l3]; exact f2⟩
    · exact lcutA (by omega) (by omega) f1 f3 fun m m1 m2 m3 => h _ _ ⟨by omega, by omega, by omega, by omega, l2, m2, by rw [l3, m3], by rw [l3]; exact f2⟩
theorem lunitA {Q : Int × Int → Prop} (h : ∀ q : Rat, 0 < q.num → Bq 40 q → Q (am q)) : w_L_unit Q := by
  refine ⟨⟨by decide, by decide, by decide⟩, ⟨by decide, by decide, by decide⟩, drawA (by decide) (by decide) fun x x0 x1 => pAt_mem x0 x1 fun z hz => ?_⟩
  have hz : z = (1, 1) ∨ z = (2, 1) ∨ z = (1, 2) ∨ z = (3, 4) ∨ z = (10, 1) ∨ z = (7, 3) ∨ z = (1000000000000, 1) ∨ z = (1, 1000000000) := by simpa using hz
  rcases hz with rfl | rfl | rfl | rfl | rfl | rfl | rfl | rfl
  · exact h 1 (by decide) ⟨by decide, by decide⟩
  · exact h 2 (by decide) ⟨by decide, by decide⟩
  · exact h (mkRat 1 2) (by decide) ⟨by decide, by decide⟩
  · exact h (mkRat 3 4) (by decide) ⟨by decide, by decide⟩
  · exact h 10 (by decide) ⟨by decide, by decide⟩
  · exact h (mkRat 7 3) (by decide) ⟨by decide, by decide⟩
  · exact h 1000000000000 (by decide) ⟨by decide, by decide⟩
  · exact h (mkRat 1 1000000000) (by decide) ⟨by decide, by decide⟩
theorem com_go {Q : Int → Prop} : ∀ (n : Nat) (xs : List Int) (a b : Int), 0 ≤ a → 0 ≤ b → b.natAbs < 2 ^ n → 2 * n + 1 ≤ xs.length → Q ((Nat.gcd a.natAbs b.natAbs : Nat) : Int) →
    forP xs (a, b) (fun (x_2 : Int) (s_1 : Int × Int) kn_9 kb_10 => (if (decide (s_1.2 = (0 : Int))) = true then kb_10 (s_1.1, s_1.2) else 0 < s_1.2 ∧ (fun rest_15 : Int => kn_9 (s_1.2, rest_15)) (s_1.1 % s_1.2))) (fun s_1 : Int × Int => Q (s_1.1))
  | _, [], a, b, _, _, _, hl, _ => by simp at hl
  | n, x :: xs, a, b, ha, hb, hn, hl, h => by
    show (if (decide (b = (0 : Int))) = true then Q a else (0 < b ∧ forP xs (b, a % b) _ _))
    by_cases hz : b = 0
    · rw [if_pos (by simpa using hz)]
      rw [hz] at h
      have e : ((Nat.gcd a.natAbs (0 : Int).natAbs : Nat) : Int) = a := by simp; omega
      rw [e] at h; exact h
    rw [if_neg (by simpa using hz)]
    refine ⟨by omega, ?_⟩
    have hg : ∀ a b : Int, 0 ≤ a → 0 < b → Nat.gcd b.natAbs (a % b).natAbs = Nat.gcd a.natAbs b.natAbs := fun a b h0 h1 => by
      rw [Int.natAbs_emod_of_nonneg h0, Nat.gcd_comm a.natAbs]
      rw [Nat.gcd_comm b.natAbs (a.natAbs % b.natAbs)]
      exact (Nat.gcd_rec _ _).symm
    have r0 := Int.emod_nonneg a hz
    have r1 := Int.emod_lt_of_pos a (show 0 < b by omega)
    cases n with
    | zero => simp at hn; omega
    | succ n =>
      cases xs with
      | nil => simp at hl
      | cons y xs =>
        show (if (decide (a % b = (0 : Int))) = true then Q b else (0 < a % b ∧ forP xs (a % b, b % (a % b)) _ _))
        rw [← hg a b ha (by omega)] at h
        by_cases hr : a % b = 0
        · rw [if_pos (by simpa using hr)]
          rw [hr] at h
          have e : ((Nat.gcd b.natAbs (0 : Int).natAbs : Nat) : Int) = b := by simp; omega
          rw [e] at h; exact h
        rw [if_neg (by simpa using hr)]
        refine ⟨by omega, com_go n xs _ _ r0 (Int.emod_nonneg _ hr) ?_ (by simp at hl; omega) ?_⟩
        · have q0 := Int.emod_nonneg b hr
          have q1 := Int.emod_lt_of_pos b (show 0 < a % b by omega)
          have q2 : b % (a % b) ≤ b - a % b := by
            have e := Int.emod_add_mul_ediv b (a % b)
            have d : 1 ≤ b / (a % b) := Int.le_ediv_of_mul_le (by omega) (by omega)
            have := Int.mul_le_mul_of_nonneg_left d r0
            omega
          rw [Nat.pow_succ] at hn
          omega
        · rw [hg b (a % b) hb (by omega)]; exact h
theorem lcomA {a b : Int} {Q : Int → Prop} (hk : b.natAbs < 2 ^ 299) (h : Q ((Nat.gcd a.natAbs b.natAbs : Nat) : Int)) : w_L_common a b Q :=
  ⟨⟨by decide, by decide⟩, com_go 299 _ _ _ (by omega) (by omega) (by rw [Int.natAbs_natCast]; exact hk) (by rw [rngI_len]; decide) (by rw [Int.natAbs_natCast, Int.natAbs_natCast]; exact h)⟩
theorem lfracA {t b : Int} {Q : Int × Int → Prop} (hb : 0 < b) (hk : b.natAbs < 2 ^ 299) (h : Q (am (mkRat t b.toNat))) : w_L_fraction t b Q := by
  have hb' : 0 < b.toNat := by omega
  refine lcomA hk ?_
  have gp := gcd_le t b.toNat hb'
  have e : b.natAbs = b.toNat := by omega
  have g9 : (((Nat.gcd t.natAbs b.natAbs : Nat) : Int)).natAbs.log2 < 9000 := by
    rw [Int.natAbs_natCast, e]
    exact log2_lt_of_le gp.2 (log_bits (k := 299) (by omega) (by decide)) (by decide)
  refine ⟨⟨by rw [e]; omega, g9⟩, ⟨by rw [e]; omega, g9⟩, ?_⟩
  have e1 := low_num t b.toNat hb'
  have e2 := low_den t b.toNat hb'
  rw [e]
  unfold am at h
  rw [e1, e2] at h
  rwa [show ((b.toNat : Nat) : Int) = b by omega] at h
def mulq (u : Rat) (ns : List Int) : List Rat := ns.map fun n : Int => (n : Rat) * u
theorem scale_am (n : Int) (u : Rat) : mkRat (n * u.num) u.den = (n : Rat) * u := by
  rw [Rat.mul_def']
  show _ = mkRat (n * u.num) (1 * u.den)
  rw [Nat.one_mul]
theorem ltimesA {n : Int} {u : Rat} {Q : Int × Int → Prop} (hn : n.natAbs ≤ 2 ^ 90) (hu : Bq 40 u) (h : Q (am ((n : Rat) * u))) : w_L_times (n, (1 : Int)) (am u) Q := by
  have u0 := den0 u
  refine ⟨mul_bits hn hu.1 (by decide) (by decide), mul_bits (j := 1) (k := 40) (by show (1 : Int).natAbs ≤ 2 ^ 1; decide) (ncast hu.2) (by decide) (by decide), ?_⟩
  show w_L_fraction (n * u.num) (1 * (u.den : Int)) Q
  rw [Int.one_mul]
  refine lfracA (by omega) ?_ ?_
  · rw [Int.natAbs_natCast]
    exact Nat.lt_of_le_of_lt hu.2 (by decide)
  · rw [Int.toNat_natCast, scale_am]; exact h
/-- two sides of amounts -/
structure SQ (p q : List Rat) : Prop where
  p1 : 1 ≤ p.length
  q1 : 1 ≤ q.length
  p2 : p.length ≤ 100
  q2 : q.length ≤ 100
  pp : ∀ x ∈ p, 0 < x.num ∧ Bq 130 x
  qp : ∀ x ∈ q, 0 < x.num ∧ Bq 130 x
  eq : p.sum = q.sum
  dn : ∃ D : Nat, 0 < D ∧ D ≤ 2 ^ 40 ∧ (∀ x ∈ p, x.den ∣ D) ∧ ∀ x ∈ q, x.den ∣ D
theorem SQ.swap {p q : List Rat} (s : SQ p q) : SQ q p := ⟨s.q1, s.p1, s.q2, s.p2, s.qp, s.pp, s.eq.symm, let ⟨D, a, b, c, d⟩ := s.dn; ⟨D, a, b, d, c⟩⟩
theorem rsum_app (a b : List Rat) : (a ++ b).sum = a.sum + b.sum := by
  induction a with
  | nil => rw [List.nil_append, List.sum_nil, Rat.zero_add]
  | cons x a ih => rw [List.cons_append, List.sum_cons, List.sum_cons, ih, Rat.add_assoc]
theorem SQ.rot {p q : List Rat} (s : SQ p q) : SQ (p.drop 1 ++ p.take 1) q := by
  have hm : ∀ x ∈ p.drop 1 ++ p.take 1, x ∈ p := fun x hx => by
    rcases List.mem_append.mp hx with hx | hx
    · exact List.mem_of_mem_drop hx
    · exact List.mem_of_mem_take hx
  have hl : (p.drop 1 ++ p.take 1).length = p.length := by rw [List.length_append, List.length_drop, List.length_take]; have := s.p1; omega
  refine ⟨by rw [hl]; exact s.p1, s.q1, by rw [hl]; exact s.p2, s.q2, fun x hx => s.pp x (hm x hx), s.qp, ?_, ?_⟩
  · rw [rsum_app, ← s.eq]
    have := congrArg List.sum (List.take_append_drop 1 p)
    rw [rsum_app] at this
    rw [← this, Rat.add_comm]
  · obtain ⟨D, a, b, c, d⟩ := s.dn
    exact ⟨D, a, b, fun x hx => c x (hm x hx), d⟩
theorem SA.sq {o d : List Int} (s : SA 90 o d) {u : Rat} (u0 : 0 < u.num) (hu : Bq 40 u) : SQ (mulq u o) (mulq u d) := by
  have num : ∀ {ns : List Int}, (∀ x ∈ ns, 1 ≤ x) → ns.sum.natAbs < 2 ^ 90 → ∀ q ∈ mulq u ns, 0 < q.num ∧ Bq 130 q := fun h1 h2 q hq => by
    obtain ⟨n, hn, rfl⟩ := List.mem_map.mp hq
    have n1 := h1 n hn
    have n2 := le_sum h1 n hn
    exact ⟨(times_num n1 u0).1, (Bq.int (k := 90) (by omega)).mul hu⟩
  have dn : ∀ {ns : List Int}, (∀ x ∈ ns, 1 ≤ x) → ∀ q ∈ mulq u ns, q.den ∣ u.den := fun h1 q hq => by
    obtain ⟨n, hn, rfl⟩ := List.mem_map.mp hq
    exact (times_num (h1 n hn) u0).2.2
  refine ⟨by unfold mulq; rw [List.length_map]; exact s.o1, by unfold mulq; rw [List.length_map]; exact s.d1, by unfold mulq; rw [List.length_map]; exact s.o2, by unfold mulq; rw [List.length_map]; exact s.d2, num s.op s.b, num s.dp (by rw [← s.eq]; exact s.b), ?_, u.den, den0 u, hu.2, dn s.op, dn s.dp⟩
  unfold mulq
  rw [sum_mul, sum_mul, s.eq]
theorem lsumsA {side most : Int} {Q : Tu (Int × Int) × Tu (Int × Int) → Prop} (s1 : 1 ≤ side) (s2 : side ≤ 100) (m1 : 1 ≤ most) (m2 : most.natAbs < 2 ^ 80) (h : ∀ p q, SQ p q → Q (⟨p.map am⟩, ⟨q.map am⟩)) : w_L_sums side most Q := by
  refine lnumA s1 s2 m1 m2 fun o d s => lunitA fun u u0 hu => ?_
  have go : ∀ {ns : List Int}, (∀ x ∈ ns, 1 ≤ x) → ns.sum.natAbs < 2 ^ 90 → ∀ x ∈ ns, x.natAbs ≤ 2 ^ 90 := fun h1 h2 x hx => by
    have := h1 x hx
    have := le_sum h1 x hx
    omega
  have l1 := s.o2
  have l2 := s.d2
  have g1 := go s.op s.b
  have g2 := go s.dp (by rw [← s.eq]; exact s.b)
  show Sz o.length ∧ lcP o _ _
  refine ⟨sz_of (by omega), lcP_det (fun n : Int => am ((n : Rat) * u)) _ (fun n hn kn hk => ltimesA (g1 n hn) hu hk) ⟨sz_of (by show d.length ≤ _; omega), lcP_det (fun n : Int => am ((n : Rat) * u)) _ (fun n hn kn hk => ltimesA (g2 n hn) hu hk) ?_⟩⟩
  have := h _ _ (s.sq u0 hu)
  unfold mulq at this
  rw [List.map_map, List.map_map] at this
  exact this
/-! ### the program's evening -/
theorem x_lcmD {D : Nat} (D0 : 0 < D) {j : Nat} (hD : D ≤ 2 ^ j) (hj : j < 8000) {Q : Int → Prop} : ∀ (qs : List Rat) (L : Nat), (∀ q ∈ qs, q.den ∣ D) → 0 < L → L ∣ D → (∀ L' : Nat, 0 < L' → L' ≤ 2 ^ j → L ∣ L' → (∀ q ∈ qs, q.den ∣ L') → Q (L' : Int)) →
    forP (qs.map am) (L : Int) (fun (x_2 : (Int × Int)) (s_1 : Int) kn_9 kb_10 => LcmOk s_1 x_2.2 ∧ (fun shared_15 : Int => kn_9 shared_15) ((Nat.lcm (s_1).natAbs (x_2.2).natAbs : Nat) : Int)) (fun s_1 : Int => Q (s_1))
  | [], L, _, h0, h1, hk => hk L h0 (Nat.le_trans (Nat.le_of_dvd D0 h1) hD) (Nat.dvd_refl _) fun _ hz => by cases hz
  | q :: qs, L, hx, h0, h1, hk => by
    have qd := den0 q
    have q1 := hx q List.mem_cons_self
    have l1 : L ≤ 2 ^ j := Nat.le_trans (Nat.le_of_dvd D0 h1) hD
    have l2 : q.den ≤ 2 ^ j := Nat.le_trans (Nat.le_of_dvd D0 q1) hD
    refine ⟨⟨by omega, by show (0 : Int) < (q.den : Int); omega, by rw [Int.natAbs_natCast]; exact Nat.lt_trans (log_bits l1 hj) (by decide), by show ((q.den : Int)).natAbs.log2 < 13000; rw [Int.natAbs_natCast]; exact Nat.lt_trans (log_bits l2 hj) (by decide)⟩, ?_⟩
    show forP (qs.map am) ((Nat.lcm (L : Int).natAbs (q.den : Int).natAbs : Nat) : Int) _ _
    rw [Int.natAbs_natCast, Int.natAbs_natCast]
    refine x_lcmD D0 hD hj qs (Nat.lcm L q.den) (fun z hz => hx z (List.mem_cons_of_mem _ hz)) (Nat.lcm_pos h0 qd) (Nat.lcm_dvd h1 q1) fun L' p1 p2 p3 p4 => hk L' p1 p2 (Nat.dvd_trans (Nat.dvd_lcm_left _ _) p3) fun z hz => ?_
    rcases List.mem_cons.mp hz with rfl | hz
    · exact Nat.dvd_trans (Nat.dvd_lcm_right _ _) p3
    · exact p4 z hz
theorem x_sumD {k D j : Nat} (D0 : 0 < D) (hD : D ≤ 2 ^ j) (hj : j < 8000) {qs : List Rat} {Q : Int × Int → Prop} (hq : ∀ q ∈ qs, Bq k q) (hd : ∀ q ∈ qs, q.den ∣ D) (hk : k < 8000) (hl : qs.length ≤ 1000) (h : Q (am qs.sum)) : w_added ⟨qs.map am⟩ Q := by
  unfold w_added w_common_bottom
  refine x_lcmD D0 hD hj qs 1 hd (by decide) (Nat.one_dvd _) fun L L0 L1 _ hL => ?_
  dsimp only [pAt, pIf, pR, pAnd, pOr, pJoin]
  unfold w_in_units
  refine ⟨sz_of (by rw [List.length_map]; omega), lcP_det (fun x : Int × Int => x.1 * ((L : Int) / x.2)) _ (fun x hx kn hk' => ?_) ?_⟩
  · obtain ⟨q, hq', rfl⟩ := List.mem_map.mp hx
    have qd := den0 q
    have h1 := hq q hq'
    have h2 : ((L : Int) / (q.den : Int)).natAbs ≤ 2 ^ j := by
      rw [← Int.natCast_ediv, Int.natAbs_natCast]
      exact Nat.le_trans (Nat.div_le_self _ _) L1
    exact ⟨⟨by show (0 : Int) < (q.den : Int); omega, by show ((q.den : Int)).natAbs.log2 < 9000; rw [Int.natAbs_natCast]; exact log_bits h1.2 hk⟩, mul_bits h1.1 h2 (by omega) (by omega), hk'⟩
  · rw [List.map_map]
    have e := units_sum L L0 qs hL
    show w_lowest (List.map ((fun x : Int × Int => x.1 * ((L : Int) / x.2)) ∘ am) qs).sum (L : Int) (fun x => Q x)
    generalize hS : (qs.map ((fun x : Int × Int => x.1 * ((L : Int) / x.2)) ∘ am)).sum = S
    have hS' : (qs.map fun q => q.num * ((L : Int) / (q.den : Int))).sum = S := hS
    rw [hS'] at e
    exact low_of L0 (log_bits L1 hj) (by rw [e]; exact h)
theorem x_fr {q : Rat} {Q : Bool → Prop} (h : Q true) : w_is_fraction (am q) Q := by
  unfold w_is_fraction w_is_integer
  dsimp only [pAt, pIf, pR, pAnd, pOr, pJoin]
  refine ifn rfl (ifn rfl (ifn rfl ?_))
  rw [am_ok q]; exact h
theorem x_amt {q : Rat} {Q : Bool → Prop} (h0 : 0 < q.num) (h : Q true) : w_is_amount (am q) Q := by
  unfold w_is_amount
  dsimp only [pAnd]
  refine x_fr ?_
  rw [if_pos rfl]
  have : decide (0 < (am q).1) = true := decide_eq_true h0
  show Q (decide (0 < (am q).1))
  rw [this]; exact h
theorem x_sideok {l : List Rat} {Q : Bool → Prop} (h0 : 1 ≤ l.length) (h1 : l.length ≤ 100) (hl : ∀ q ∈ l, 0 < q.num) (h : Q true) : w_q_is_side ⟨l.map am⟩ Q := by
  unfold w_q_is_side
  rw [if_neg (by simp; omega)]
  refine ⟨sz_of (by show (l.map am).length ≤ _; rw [List.length_map]; omega), lcP_det (fun _ => true) _ (fun x hx kn hk => ?_) ?_⟩
  · obtain ⟨q, hq, rfl⟩ := List.mem_map.mp hx
    exact x_amt (hl q hq) hk
  · have : ((l.map am).map fun _ => true).all id = true := by simp
    rw [this]; exact h
theorem x_ev {p q : List Rat} (s : SQ p q) {Qp : Unit → EvI → Prop} (h : Qp () (EvI.f ⟨p.map am⟩ ⟨q.map am⟩)) : w_Eveningu_initu ⟨p.map am⟩ ⟨q.map am⟩ Qp := by
  have p2 := s.p2
  have q2 := s.q2
  obtain ⟨D, D0, D1, d1, d2⟩ := s.dn
  unfold w_Eveningu_initu
  refine x_sideok (l := p) s.p1 s.p2 (fun x hx => (s.pp x hx).1) ?_
  rw [if_neg (by decide)]
  refine x_sideok (l := q) s.q1 s.q2 (fun x hx => (s.qp x hx).1) ?_
  rw [if_neg (by decide)]
  refine x_sumD (k := 130) D0 D1 (by decide) (qs := p) (fun x hx => (s.pp x hx).2) d1 (by decide) (by omega) (x_sumD (k := 130) D0 D1 (by decide) (qs := q) (fun x hx => (s.qp x hx).2) d2 (by decide) (by omega) ?_)
  rw [s.eq, if_neg (by simp)]
  exact h
/-! ### numbers as texts -/
open TL in
theorem tl_strI (n : Nat) : tl (strI (n : Int)) = numL n := tl_num n
open TL in
theorem lenI (n : Nat) : (strI (n : Int)).length = (numL n).length := by rw [len_tl, tl_strI]
open TL in
theorem lenI_le {n k : Nat} (hk : 0 < k) (h : n < 10 ^ k) : (strI (n : Int)).length ≤ k := by rw [lenI]; exact numL_len hk h
open TL in
theorem lenI_pos (n : Nat) : 1 ≤ (strI (n : Int)).length := by
  rw [lenI]
  have := numL_ne n
  cases h : numL n with
  | nil => exact absurd h this
  | cons a l => rw [List.length_cons]; omega
open TL in
theorem strI_inj {m n : Nat} (h : strI (m : Int) = strI (n : Int)) : m = n := numL_inj (by rw [← tl_strI, ← tl_strI, h])
open TL in
theorem numL_head : ∀ n : Nat, 0 < n → ∃ c r, numL n = c :: r ∧ c ≠ 48 := by
  intro n
  induction n using Nat.strongRecOn with
  | ind n ih =>
    intro h0
    by_cases h : n < 10
    · exact ⟨48 + n, [], numL_lt h, by omega⟩
    · obtain ⟨c, r, e, hc⟩ := ih (n / 10) (by omega) (by omega)
      exact ⟨c, r ++ [48 + n % 10], by rw [numL_step (by omega), e]; rfl, hc⟩
open TL in
theorem x_spelt {n k : Nat} (hk : 0 < k) (h : n < 10 ^ k) (k2 : k ≤ 1000) {Q : Bool → Prop} (hQ : Q true) : w_is_spelt_number (strI (n : Int)) (k : Int) Q := by
  have l1 := lenI_le hk h
  have l2 := lenI_pos n
  unfold w_is_spelt_number
  dsimp only [pOr, pAnd, pR]
  refine ⟨sz_of (by omega), ?_⟩
  rw [if_pos (decide_eq_true (by omega : (1 : Int) ≤ ((strI (n : Int)).length : Int)))]
  rw [decide_eq_true (by omega : ((strI (n : Int)).length : Int) ≤ (k : Int))]
  refine ifn rfl ⟨sz_of (by rw [List.length_map, ← len_tl]; omega), lcP_det (fun _ => true) _ (fun x hx kn hkn => ?_) ?_⟩
  · obtain ⟨c, hc, rfl⟩ := List.mem_map.mp hx
    rw [tl_strI] at hc
    refine ⟨c, rfl, ?_⟩
    have hd : ¬ (c < 48 ∨ 57 < c) := fun z => numL_free z hc
    have hm : c ∈ tl ("0123456789" : Str) := by
      show c ∈ [48, 49, 50, 51, 52, 53, 54, 55, 56, 57]
      simp only [List.mem_cons, List.not_mem_nil, or_false]
      omega
    rw [decide_eq_true hm]
    exact hkn
  · have e : ((((tl (strI (n : Int))).map sg).map fun _ => true).all id) = true := by simp
    rw [e]
    refine ifn rfl ?_
    by_cases z : strI (n : Int) = ("0" : Str)
    · exact ify (decide_eq_true z) hQ
    · refine ifn (decide_eq_false z) ⟨sz_of (by omega), ?_⟩
      have n0 : 0 < n := by
        refine Nat.pos_of_ne_zero fun e0 => z ?_
        subst e0
        rfl
      obtain ⟨c, r, e1, hc⟩ := numL_head n n0
      refine ⟨c, ?_, ?_⟩
      · rw [tl_strI, e1]; exact atI_0
      · have : sg c ≠ ("0" : Str) := fun z => hc (by
          have := congrArg tl z
          have h2 : [c] = [48] := this
          simpa using h2)
        rw [decide_eq_false this]; exact hQ
open TL in
theorem x_intI {n : Nat} (h : n < 10 ^ 600) : PySem.intText? (strI (n : Int)) = some (n : Int) ∧ (strI (n : Int)).length ≤ 640 := by
  have := lenI_le (k := 600) (by decide) h
  exact ⟨int_num (by rw [← lenI]; omega), by omega⟩
/-! ### amounts as texts -/
def atx (q : Rat) : Str := if q.den = 1 then strI q.num else strI q.num ++ ("/" : Str) ++ strI (q.den : Int)
structure AQ (q : Rat) : Prop where
  p : 0 < q.num
  n : q.num.natAbs < 10 ^ 40
  d : q.den < 10 ^ 40
theorem AQ.of {q : Rat} (h : 0 < q.num ∧ Bq 130 q) : AQ q := ⟨h.1, Nat.lt_of_le_of_lt h.2.1 (by decide), Nat.lt_of_le_of_lt h.2.2 (by decide)⟩
theorem AQ.num {q : Rat} (h : AQ q) : (q.num.natAbs : Int) = q.num := by have := h.p; omega
theorem pow40 : (10 : Nat) ^ 40 = 10000000000000000000000000000000000000000 := by decide
open TL in
theorem len_app (a b : Str) : (a ++ b).length = a.length + b.length := by rw [len_tl, len_tl, len_tl, tl_append, List.length_append]
theorem atx_len {q : Rat} (h : AQ q) : (atx q).length ≤ 81 := by
  have e := h.num
  have l1 := lenI_le (k := 40) (by decide) h.n
  have l2 := lenI_le (k := 40) (by decide) h.d
  rw [e] at l1
  unfold atx
  split
  · omega
  · rw [len_app, len_app]
    have : ("/" : Str).length = 1 := rfl
    omega
open TL in
theorem atx_mem {q : Rat} (h : AQ q) {c : Nat} (hc : c ∈ tl (atx q)) : 47 ≤ c ∧ c ≤ 57 := by
  have e := h.num
  have num : ∀ n : Nat, c ∈ tl (strI (n : Int)) → 47 ≤ c ∧ c ≤ 57 := fun n hm => by
    rw [tl_strI] at hm
    have : ¬ (c < 48 ∨ 57 < c) := fun z => numL_free z hm
    omega
  unfold atx at hc
  rw [← e] at hc
  split at hc
  · exact num _ hc
  · rw [tl_append, tl_append] at hc
    rcases List.mem_append.mp hc with hc | hc
    · rcases List.mem_append.mp hc with hc | hc
      · exact num _ hc
      · have : c = 47 := by
          have hc : c ∈ [47] := hc
          simpa using hc
        omega
    · exact num _ hc
theorem whP_no {S : Type} {c : S → PT Bool} {b : S → (S → Prop) → (S → Prop) → Prop} {s : S} {k : S → Prop} (hc : ∀ Q : Bool → Prop, Q false → c s Q) (hk : k s) : whP c b s k := by
  refine ⟨fun _ s' => s' = s, ⟨0, rfl⟩, fun n s' e => ?_⟩
  subst e
  exact hc _ (ifn rfl hk)
theorem logI {i : Int} (h : i.natAbs < 10 ^ 60) : i.natAbs.log2 < 1920 := by
  have : (10 : Nat) ^ 60 ≤ 2 ^ 200 := by decide
  exact Nat.lt_of_lt_of_le (log2_of_lt (k := 200) (Nat.lt_of_lt_of_le h this) (by decide)) (by decide)
theorem x_fig {i : Int} (h0 : 0 ≤ i) (h : i.natAbs < 10 ^ 60) {Q : Str → Prop} (hQ : Q (strI i)) : w_q_figures i Q := by
  have e : (10 : Nat) ^ 60 = 1000000000000000000000000000000000000000000000000000000000000 := by decide
  have en : (i.natAbs : Int) = i := by omega
  have l1 := lenI_le (k := 60) (by decide) h
  rw [en] at l1
  refine whP_no (fun R hR => ?_) ⟨logI h, sz_of (by show 0 + 1 ≤ _; omega), ?_⟩
  · show R (decide ((1000000000000000000000000000000000000000000000000000000000000 : Int) ≤ i))
    rw [decide_eq_false (by omega)]; exact hR
  · have ej : Txt.join ("" : Str) [strI i] = strI i := by rw [TL.join_eq]; rfl
    refine ⟨?_, ?_⟩
    · show (([strI i] : List Str).map (·.length)).sum + 1 * ("" : Str).length ≤ 1000000
      have : ("" : Str).length = 0 := rfl
      simp only [List.map_cons, List.map_nil, List.sum_cons, List.sum_nil]
      omega
    · show Q (Txt.join ("" : Str) [strI i])
      rw [ej]; exact hQ
theorem lt60 {n : Nat} (h : n < 10 ^ 40) : n < 10 ^ 60 := Nat.lt_trans h (by decide)
theorem x_atext {q : Rat} (h : AQ q) {Q : Str → Prop} (hQ : Q (atx q)) : w_amount_text (am q) Q := by
  have e := h.num
  have p := h.p
  have l1 := lenI_le (k := 40) (by decide) h.n
  have l2 := lenI_le (k := 40) (by decide) h.d
  rw [e] at l1
  have l3 : ("/" : Str).length = 1 := rfl
  unfold w_amount_text
  dsimp only [pIf, pR]
  unfold atx at hQ
  by_cases hd : q.den = 1
  · rw [if_pos hd] at hQ
    refine ify (decide_eq_true (by show ((q.den : Int)) = 1; omega)) (x_fig (Int.le_of_lt p) (lt60 h.n) hQ)
  · rw [if_neg hd] at hQ
    refine ifn (decide_eq_false (by show ¬ ((q.den : Int)) = 1; omega)) (x_fig (Int.le_of_lt p) (lt60 h.n) ⟨sz_of ?_, x_fig (by show (0 : Int) ≤ (q.den : Int); omega) (by show ((q.den : Int)).natAbs < _; rw [Int.natAbs_natCast]; exact lt60 h.d) ⟨sz_of ?_, hQ⟩⟩)
    · show (strI q.num).length + _ ≤ _; omega
    · show ((strI q.num) ++ _).length + (strI (q.den : Int)).length ≤ _
      rw [len_app]; omega
theorem x_latext {q : Rat} (h : AQ q) {Q : Str → Prop} (hQ : Q (atx q)) : w_L_amount_text (am q) Q := by
  have e := h.num
  have p := h.p
  have l1 := lenI_le (k := 40) (by decide) h.n
  have l2 := lenI_le (k := 40) (by decide) h.d
  rw [e] at l1
  have l3 : ("/" : Str).length = 1 := rfl
  unfold w_L_amount_text
  unfold atx at hQ
  by_cases hd : q.den = 1
  · rw [if_pos hd] at hQ
    exact ify (decide_eq_true (by show ((q.den : Int)) = 1; omega)) ⟨logI (lt60 h.n), hQ⟩
  · rw [if_neg hd] at hQ
    refine ifn (decide_eq_false (by show ¬ ((q.den : Int)) = 1; omega)) ⟨logI (lt60 h.n), sz_of ?_, logI (by show ((q.den : Int)).natAbs < _; rw [Int.natAbs_natCast]; exact lt60 h.d), sz_of ?_, hQ⟩
    · show (strI q.num).length + _ ≤ _; omega
    · show ((strI q.num) ++ _).length + (strI (q.den : Int)).length ≤ _
      rw [len_app]; omega
/-! ### lines -/
def lineT (word : Str) (p : List Rat) : Str := Txt.join (" " : Str) (([word] : List Str) ++ p.map atx)
theorem sum_lens {B : Nat} : ∀ {l : List Str}, (∀ x ∈ l, x.length ≤ B) → (l.map (·.length)).sum ≤ B * l.length
  | [], _ => by simp
  | x :: l, h => by
    have h1 := h x List.mem_cons_self
    have h2 := sum_lens (l := l) fun y hy => h y (List.mem_cons_of_mem _ hy)
    rw [List.map_cons, List.sum_cons, List.length_cons, Nat.mul_succ]
    omega
theorem parts_len {word : Str} (hw : word.length ≤ 81) {p : List Rat} (hp : ∀ q ∈ p, AQ q) : ∀ x ∈ ([word] : List Str) ++ p.map atx, x.length ≤ 81 := fun x hx => by
  rcases List.mem_append.mp hx with hx | hx
  · have : x = word := by simpa using hx
    rw [this]; exact hw
  · obtain ⟨q, hq, rfl⟩ := List.mem_map.mp hx
    exact atx_len (hp q hq)
open TL in
theorem joinL_len (S : List Nat) : ∀ ps : List (List Nat), (joinL S ps).length ≤ (ps.map List.length).sum + ps.length * S.length
  | [] => Nat.zero_le _
  | [p] => by show p.length ≤ _; simp
  | p :: q :: r => by
    have ih := joinL_len S (q :: r)
    show (p ++ (S ++ joinL S (q :: r))).length ≤ _
    rw [List.length_append, List.length_append, List.map_cons, List.sum_cons, List.length_cons, Nat.succ_mul]
    omega
open TL in
theorem join_len (a : Str) (ys : List Str) : (Txt.join a ys).length ≤ (ys.map (·.length)).sum + ys.length * a.length := by
  rw [len_tl, join_eq, tl_join]
  have h := joinL_len (tl a) (ys.map tl)
  have e : (ys.map tl).map List.length = ys.map (·.length) := by
    rw [List.map_map]
    exact List.map_congr_left fun y _ => (len_tl y).symm
  rw [e, List.length_map, ← len_tl] at h
  exact h
theorem line_ok {word : Str} (hw : word.length ≤ 81) {p : List Rat} (hp : ∀ q ∈ p, AQ q) (hl : p.length ≤ 100) : JnOk (" " : Str) (([word] : List Str) ++ p.map atx) ∧ (lineT word p).length ≤ 9000 := by
  have h1 := sum_lens (parts_len hw hp)
  have h2 : (([word] : List Str) ++ p.map atx).length = p.length + 1 := by rw [List.length_append, List.length_map]; show 1 + _ = _; omega
  have h3 : (" " : Str).length = 1 := rfl
  have h4 := join_len (" " : Str) (([word] : List Str) ++ p.map atx)
  rw [h2] at h1 h4
  rw [h3] at h4
  refine ⟨?_, by unfold lineT; omega⟩
  unfold JnOk
  rw [h2, h3]
  omega
/-! ### texts of evenings -/
def SQ.ap {p q : List Rat} (s : SQ p q) : ∀ x ∈ p, AQ x := fun x hx => AQ.of (s.pp x hx)
def SQ.aq {p q : List Rat} (s : SQ p q) : ∀ x ∈ q, AQ x := fun x hx => AQ.of (s.qp x hx)
def txt (p q : List Rat) : Str := (lineT "owed" p ++ ("\n" : Str)) ++ (lineT "due" q ++ ("\n" : Str))
theorem x_stext {word : Str} (hw : word.length ≤ 81) {p : List Rat} (hp : ∀ q ∈ p, AQ q) (hl : p.length ≤ 100) {Q : Str → Prop} (hQ : Q (lineT word p ++ ("\n" : Str))) : w_q_side_text word ⟨p.map am⟩ Q := by
  obtain ⟨h1, h2⟩ := line_ok hw hp hl
  have h3 : ("\n" : Str).length = 1 := rfl
  refine ⟨sz_of (by show (p.map am).length ≤ _; rw [List.length_map]; omega), lcP_det (fun x : Int × Int => atx (mkRat x.1 x.2.toNat)) _ (fun x hx kn hk => ?_) ?_⟩
  · obtain ⟨q, hq, rfl⟩ := List.mem_map.mp hx
    refine x_atext (hp q hq) ?_
    have hk : kn (some (atx (mkRat q.num ((q.den : Int)).toNat))) := hk
    rw [am_mk] at hk
    exact hk
  · have e : (p.map am).map (fun x : Int × Int => atx (mkRat x.1 x.2.toNat)) = p.map atx := by
      rw [List.map_map]
      exact List.map_congr_left fun q _ => by show atx (mkRat q.num ((q.den : Int)).toNat) = _; rw [am_mk]
    show Sz (([word] : List Str).length + ((p.map am).map (fun x : Int × Int => atx (mkRat x.1 x.2.toNat))).length) ∧ JnOk (" " : Str) (([word] : List Str) ++ ((p.map am).map (fun x : Int × Int => atx (mkRat x.1 x.2.toNat)))) ∧ _
    rw [e]
    refine ⟨sz_of (by rw [List.length_map]; show 1 + _ ≤ _; omega), h1, sz_of ?_, hQ⟩
    show (lineT word p).length + _ ≤ _
    omega
theorem x_etext {p q : List Rat} (s : SQ p q) {Q : Str → Prop} (hQ : Q (txt p q)) : w_evening_text (Ev.mk ⟨p.map am⟩ ⟨q.map am⟩) Q := by
  have p2 := s.p2
  have q2 := s.q2
  have l1 := (line_ok (word := ("owed" : Str)) (by decide) s.ap p2).2
  have l2 := (line_ok (word := ("due" : Str)) (by decide) s.aq q2).2
  have h3 : ("\n" : Str).length = 1 := rfl
  refine x_stext (by decide) s.ap p2 (x_stext (by decide) s.aq q2 ⟨sz_of ?_, hQ⟩)
  rw [len_app, len_app]; omega
theorem x_ltext {p q : List Rat} (s : SQ p q) {Q : Str → Prop} (hQ : Q (txt p q)) : w_L_text (⟨p.map am⟩, ⟨q.map am⟩) Q := by
  have p2 := s.p2
  have q2 := s.q2
  obtain ⟨j1, l1⟩ := line_ok (word := ("owed" : Str)) (by decide) s.ap p2
  obtain ⟨j2, l2⟩ := line_ok (word := ("due" : Str)) (by decide) s.aq q2
  have h3 : ("\n" : Str).length = 1 := rfl
  have e : ∀ r : List Rat, (r.map am).map (fun x : Int × Int => atx (mkRat x.1 x.2.toNat)) = r.map atx := fun r => by
    rw [List.map_map]
    exact List.map_congr_left fun q _ => by show atx (mkRat q.num ((q.den : Int)).toNat) = _; rw [am_mk]
  have one : ∀ {r : List Rat}, (∀ x ∈ r, AQ x) → ∀ x ∈ r.map am, ∀ kn : Option Str → Prop, kn (some (atx (mkRat x.1 x.2.toNat))) → w_L_amount_text x (fun x_2 => kn (some x_2)) := fun hr x hx kn hk => by
    obtain ⟨q, hq, rfl⟩ := List.mem_map.mp hx
    refine x_latext (hr q hq) ?_
    have hk : kn (some (atx (mkRat q.num ((q.den : Int)).toNat))) := hk
    rw [am_mk] at hk
    exact hk
  refine ⟨sz_of (by show (p.map am).length ≤ _; rw [List.length_map]; omega), lcP_det (fun x : Int × Int => atx (mkRat x.1 x.2.toNat)) _ (one s.ap) ?_⟩
  show Sz (([("owed" : Str)] : List Str).length + ((p.map am).map (fun x : Int × Int => atx (mkRat x.1 x.2.toNat))).length) ∧ JnOk (" " : Str) (([("owed" : Str)] : List Str) ++ ((p.map am).map (fun x : Int × Int => atx (mkRat x.1 x.2.toNat)))) ∧ _
  rw [e]
  refine ⟨sz_of (by rw [List.length_map]; show 1 + _ ≤ _; omega), j1, sz_of (by show (lineT "owed" p).length + _ ≤ _; omega), ?_⟩
  refine ⟨sz_of (by show (q.map am).length ≤ _; rw [List.length_map]; omega), lcP_det (fun x : Int × Int => atx (mkRat x.1 x.2.toNat)) _ (one s.aq) ?_⟩
  show Sz (([("due" : Str)] : List Str).length + ((q.map am).map (fun x : Int × Int => atx (mkRat x.1 x.2.toNat))).length) ∧ JnOk (" " : Str) (([("due" : Str)] : List Str) ++ ((q.map am).map (fun x : Int × Int => atx (mkRat x.1 x.2.toNat)))) ∧ _
  rw [e]
  refine ⟨sz_of (by rw [List.length_map]; show 1 + _ ≤ _; omega), j2, sz_of (by show (lineT "owed" p ++ ("\n" : Str)).length + (lineT "due" q).length ≤ _; rw [len_app]; omega), sz_of (by show ((lineT "owed" p ++ ("\n" : Str)) ++ lineT "due" q).length + _ ≤ _; rw [len_app, len_app]; omega), ?_⟩
  have ea : ((lineT "owed" p ++ ("\n" : Str)) ++ lineT "due" q) ++ ("\n" : Str) = txt p q := by
    refine TL.ext_tl ?_
    unfold txt
    rw [TL.tl_append, TL.tl_append, TL.tl_append, TL.tl_append, TL.tl_append, TL.tl_append]
    simp only [List.append_assoc]
  show Q (((lineT "owed" p ++ ("\n" : Str)) ++ lineT "due" q) ++ ("\n" : Str))
  rw [ea]; exact hQ
/-! ### reading them -/
open TL in
theorem line_no {word : Str} {p : List Rat} (hp : ∀ q ∈ p, AQ q) {s : Nat} (hs : s ≠ 32) (hs2 : s < 47) (hw : s ∉ tl word) : s ∉ tl (lineT word p) := fun hm => by
  unfold lineT at hm
  rw [join_eq, tl_join] at hm
  rcases joinL_mem _ _ _ hm with h | ⟨x, hx, h⟩
  · have h : s ∈ [32] := h
    exact hs (by simpa using h)
  · obtain ⟨y, hy, rfl⟩ := List.mem_map.mp hx
    rcases List.mem_append.mp hy with hy | hy
    · have : y = word := by simpa using hy
      rw [this] at h; exact hw h
    · obtain ⟨q, hq, rfl⟩ := List.mem_map.mp hy
      have := atx_mem (hp q hq) h
      omega
theorem split_line {word : Str} {p : List Rat} (hp : ∀ q ∈ p, AQ q) (hw : 32 ∉ TL.tl word) : Txt.split (lineT word p) (" " : Str) = word :: p.map atx := by
  unfold lineT
  refine TL.split_join (s := 32) (S := []) rfl (by decide +kernel) (by simp) fun x hx => ?_
  rcases List.mem_append.mp hx with hx | hx
  · have : x = word := by simpa using hx
    rw [this]; exact hw
  · obtain ⟨q, hq, rfl⟩ := List.mem_map.mp hx
    exact fun h => by have := atx_mem (hp q hq) h; omega
theorem split_txt {p q : List Rat} (s : SQ p q) : Txt.split (txt p q) ("\n" : Str) = [lineT "owed" p, lineT "due" q, ("" : Str)] := by
  have e : txt p q = Txt.join ("\n" : Str) [lineT "owed" p, lineT "due" q, ("" : Str)] := by
    refine TL.ext_tl ?_
    unfold txt
    rw [TL.join_eq, TL.tl_join, TL.tl_append, TL.tl_append, TL.tl_append]
    show (TL.tl _ ++ [10]) ++ (TL.tl _ ++ [10]) = TL.tl _ ++ ([10] ++ (TL.tl _ ++ ([10] ++ [])))
    simp only [List.append_assoc, List.append_nil]
  rw [e]
  refine TL.split_join (s := 10) (S := []) rfl (by decide +kernel) (by simp) fun x hx => ?_
  have hx : x = lineT "owed" p ∨ x = lineT "due" q ∨ x = ("" : Str) := by simpa using hx
  rcases hx with rfl | rfl | rfl
  · exact line_no s.ap (by decide) (by decide) (by decide)
  · exact line_no s.aq (by decide) (by decide) (by decide)
  · decide
open TL in
theorem x_ramount {q : Rat} (h : AQ q) {Q : Option (Int × Int) → Prop} (hQ : Q (some (am q))) : w_q_read_amount (atx q) Q := by
  have e := h.num
  have hl := atx_len h
  have a40 : (10 : Nat) ^ 40 < 10 ^ 600 := by decide
  have free : ∀ n : Nat, 47 ∉ tl (strI (n : Int)) := fun n hm => by
    rw [tl_strI] at hm
    exact numL_free (s := 47) (.inl (by decide)) hm
  have ia : ∀ s : Int × Int, s = am q → (pIf (fun Q => w_is_amount s (fun x_12 => Q (x_12))) (pR (some s)) (pR ((none : Option (Int × Int))))) (fun x_13 => Q (x_13)) := fun s es => by
    subst es
    dsimp only [pIf, pR]
    exact x_amt h.p (ify rfl hQ)
  refine ⟨⟨by decide +kernel, sz_of (by omega)⟩, ?_⟩
  by_cases hd : q.den = 1
  · have ea : atx q = strI (q.num.natAbs : Int) := by unfold atx; rw [if_pos hd, e]
    have ep : Txt.partition (atx q) ("/" : Str) = (strI (q.num.natAbs : Int), Str.empty, Str.empty) := by
      rw [ea]
      exact partition_none (s := 47) (S := []) rfl (free _)
    rw [ep]
    refine x_spelt (k := 40) (by decide) h.n (by decide) (ifn rfl ?_)
    dsimp only [pJoin]
    obtain ⟨i1, i2⟩ := x_intI (Nat.lt_trans h.n a40)
    refine ify (decide_eq_true rfl) ⟨_, i1, i2, ia _ ?_⟩
    show ((q.num.natAbs : Int), (1 : Int)) = (q.num, (q.den : Int))
    rw [e, hd]; rfl
  · have ea : atx q = strI (q.num.natAbs : Int) ++ ("/" : Str) ++ strI (q.den : Int) := by unfold atx; rw [if_neg hd, e]
    have ep : Txt.partition (atx q) ("/" : Str) = (strI (q.num.natAbs : Int), ("/" : Str), strI (q.den : Int)) := by
      rw [ea]
      exact partition_app (s := 47) (S := []) rfl (free _)
    rw [ep]
    refine x_spelt (k := 40) (by decide) h.n (by decide) (ifn rfl ?_)
    dsimp only [pJoin]
    refine ifn (decide_eq_false (by decide)) ?_
    dsimp only [pAnd, pR]
    refine x_spelt (k := 40) (by decide) h.d (by decide) ?_
    have n1 : strI (q.den : Int) ≠ ("1" : Str) := fun z => hd (strI_inj (m := q.den) (n := 1) z)
    rw [if_pos rfl]
    obtain ⟨i1, i2⟩ := x_intI (Nat.lt_trans h.n a40)
    obtain ⟨i3, i4⟩ := x_intI (Nat.lt_trans h.d a40)
    refine ify (by rw [decide_eq_false n1]; rfl) ⟨_, i1, i2, _, i3, i4, ia _ ?_⟩
    show ((q.num.natAbs : Int), (q.den : Int)) = (q.num, (q.den : Int))
    rw [e]
theorem x_rside {word : Str} (hw : 32 ∉ TL.tl word) (hw2 : word.length ≤ 81) {p : List Rat} (hp : ∀ q ∈ p, AQ q) (p1 : 1 ≤ p.length) (hl : p.length ≤ 100) {Q : Option (Tu (Option (Int × Int))) → Prop} (hQ : Q (some ⟨p.map fun q => some (am q)⟩)) : w_q_read_side (lineT word p) word Q := by
  have l2 := (line_ok hw2 hp hl).2
  refine ⟨⟨by decide +kernel, sz_of (by omega)⟩, ?_⟩
  rw [split_line hp hw]
  show Sz (cutL (word :: p.map atx) (some (1 : Int)) none).length ∧ _
  have ec : cutL (word :: p.map atx) (some (1 : Int)) none = p.map atx := by rw [cut_hi _ _ (by decide)]; rfl
  rw [ec]
  refine ⟨sz_of (by rw [List.length_map]; omega), ?_⟩
  have key : ∀ (r : List Rat) (R : List (Option (Int × Int)) → Prop), (∀ q ∈ r, AQ q) → R (r.map fun q => some (am q)) → lcP (r.map atx) (fun (i_2 : Str) Q => w_q_read_amount i_2 (fun x_3 => Q (some x_3))) R := by
    intro r
    induction r with
    | nil => intro R _ h; exact h
    | cons q r ih =>
      intro R hr h
      refine x_ramount (hr q List.mem_cons_self) ?_
      exact ih _ (fun z hz => hr z (List.mem_cons_of_mem _ hz)) h
  refine key p _ hp ?_
  show (pOr (fun Q => pAt (word :: p.map atx) (0 : Int) (fun x_5 => Q (!decide (x_5 = word)))) (pR ((!(!(p.map fun q => some (am q)).isEmpty)) || (inB (none : Option (Int × Int)) (p.map fun q => some (am q)))))) (fun x_6 => (if x_6 = true then Q ((none : Option (Tu (Option (Int × Int))))) else Q (some ⟨p.map fun q => some (am q)⟩)))
  dsimp only [pOr, pR]
  refine ⟨word, atI_0, ?_⟩
  have e1 : (!decide (word = word)) = false := by simp
  refine ifn e1 ?_
  have e2 : inB (none : Option (Int × Int)) (p.map fun q => some (am q)) = false := by
    unfold inB
    rw [decide_eq_false_iff_not]
    intro hm
    obtain ⟨q, _, hq⟩ := List.mem_map.mp hm
    cases hq
  have e3 : (p.map fun q => some (am q)).isEmpty = false := by
    cases p with
    | nil => simp at p1
    | cons a p => rfl
  refine ifn (by rw [e2, e3]; rfl) hQ
theorem forP_c {X S : Type} {x : X} {xs : List X} {s : S} {b : X → S → (S → Prop) → (S → Prop) → Prop} {k : S → Prop} (h : b x s (fun s' => forP xs s' b k) k) : forP (x :: xs) s b k := h
theorem forP_n {X S : Type} {s : S} {b : X → S → (S → Prop) → (S → Prop) → Prop} {k : S → Prop} (h : k s) : forP ([] : List X) s b k := h
theorem x_read {p q : List Rat} (s : SQ p q) {Q : Ev → Prop} (hQ : Q (Ev.mk ⟨p.map am⟩ ⟨q.map am⟩)) : w_read_evening (txt p q) Q := by
  have l1 := (line_ok (word := ("owed" : Str)) (by decide) s.ap s.p2).2
  have l2 := (line_ok (word := ("due" : Str)) (by decide) s.aq s.q2).2
  have h3 : ("\n" : Str).length = 1 := rfl
  unfold w_read_evening w_q_parted
  refine ifn rfl ⟨⟨by decide +kernel, sz_of ?_⟩, ?_⟩
  · unfold txt; rw [len_app, len_app, len_app]; omega
  rw [split_txt s]
  have ec : cutL [lineT "owed" p, lineT "due" q, ("" : Str)] none (some (-(1 : Int))) = [lineT "owed" p, lineT "due" q] := rfl
  show forP (enumI (cutL [lineT "owed" p, lineT "due" q, ("" : Str)] none (some (-(1 : Int))))) _ _ _
  rw [ec]
  dsimp only [pIf, pR, pOr]
  show forP [((0 : Int), lineT "owed" p), ((1 : Int), lineT "due" q)] _ _ _
  refine forP_c (ify rfl ⟨("owed" : Str), atI_0, ?_⟩)
  refine x_rside (by decide) (by decide) s.ap s.p1 s.p2 (ifn rfl ⟨sz_of (by decide), ?_⟩)
  refine forP_c (ify rfl ⟨("due" : Str), atI_1, ?_⟩)
  refine x_rside (by decide) (by decide) s.aq s.q1 s.q2 (ifn rfl ⟨sz_of (by show 1 + 1 ≤ _; decide), ?_⟩)
  refine forP_n ?_
  refine ifn rfl ⟨("" : Str), rfl, ifn rfl ?_⟩
  refine ⟨_, _, rfl, _, rfl, p.map am, by rw [List.map_map]; rfl, _, rfl, q.map am, by rw [List.map_map]; rfl, x_ev s ⟨_, _, rfl, hQ⟩⟩
/-! ### texts are alike just where evenings are -/
theorem atx_inj {a b : Rat} (ha : AQ a) (hb : AQ b) (h : atx a = atx b) : a = b := by
  have : (some (am a) : Option (Int × Int)) = some (am b) ∨ True := .inr trivial
  have ea := ha.num
  have eb := hb.num
  have free : ∀ n : Nat, 47 ∉ TL.tl (strI (n : Int)) := fun n hm => by
    rw [tl_strI] at hm
    exact TL.numL_free (s := 47) (.inl (by decide)) hm
  have part : ∀ q : Rat, (q.num.natAbs : Int) = q.num → Txt.partition (atx q) ("/" : Str) = if q.den = 1 then (strI (q.num.natAbs : Int), Str.empty, Str.empty) else (strI (q.num.natAbs : Int), ("/" : Str), strI (q.den : Int)) := fun q e => by
    unfold atx
    by_cases hd : q.den = 1
    · rw [if_pos hd, if_pos hd, ← e]
      exact TL.partition_none (s := 47) (S := []) rfl (free _)
    · rw [if_neg hd, if_neg hd, ← e]
      exact TL.partition_app (s := 47) (S := []) rfl (free _)
  have pa := part a ea
  rw [h, part b eb] at pa
  have fin : a.num.natAbs = b.num.natAbs → a.den = b.den → a = b := fun h1 h2 => Rat.ext (by omega) h2
  by_cases d1 : b.den = 1 <;> by_cases d2 : a.den = 1
  · rw [if_pos d1, if_pos d2] at pa
    exact fin (strI_inj (congrArg Prod.fst pa)).symm (by rw [d1, d2])
  · rw [if_pos d1, if_neg d2] at pa
    have := congrArg (fun x => x.2.1) pa
    exact absurd (show Str.empty = ("/" : Str) from this) (by decide)
  · rw [if_neg d1, if_pos d2] at pa
    have := congrArg (fun x => x.2.1) pa
    exact absurd (show ("/" : Str) = Str.empty from this) (by decide)
  · rw [if_neg d1, if_neg d2] at pa
    exact fin (strI_inj (congrArg Prod.fst pa)).symm (strI_inj (congrArg (fun x => x.2.2) pa)).symm
theorem atxs_inj : ∀ {p q : List Rat}, (∀ x ∈ p, AQ x) → (∀ x ∈ q, AQ x) → p.map atx = q.map atx → p = q
  | [], [], _, _, _ => rfl
  | [], _ :: _, _, _, h => by cases h
  | _ :: _, [], _, _, h => by cases h
  | a :: p, b :: q, h1, h2, h => by
    rw [List.map_cons, List.map_cons, List.cons.injEq] at h
    rw [atx_inj (h1 a List.mem_cons_self) (h2 b List.mem_cons_self) h.1, atxs_inj (fun x hx => h1 x (List.mem_cons_of_mem _ hx)) (fun x hx => h2 x (List.mem_cons_of_mem _ hx)) h.2]
theorem txt_inj {p q p' q' : List Rat} (s : SQ p q) (s' : SQ p' q') (h : txt p q = txt p' q') : p = p' ∧ q = q' := by
  have e := split_txt s
  rw [h, split_txt s'] at e
  simp only [List.cons.injEq, and_true] at e
  have e1 := split_line (word := ("owed" : Str)) s.ap (by decide)
  rw [← e.1, split_line s'.ap (by decide), List.cons.injEq] at e1
  have e2 := split_line (word := ("due" : Str)) s.aq (by decide)
  rw [← e.2, split_line s'.aq (by decide), List.cons.injEq] at e2
  exact ⟨(atxs_inj s'.ap s.ap e1.2).symm, (atxs_inj s'.aq s.aq e2.2).symm⟩
theorem ams_inj : ∀ {p q : List Rat}, p.map am = q.map am → p = q
  | [], [], _ => rfl
  | [], _ :: _, h => by cases h
  | _ :: _, [], h => by cases h
  | a :: p, b :: q, h => by
    rw [List.map_cons, List.map_cons, List.cons.injEq] at h
    rw [am_inj.mp h.1, ams_inj h.2]
theorem x_lmade {p q : List Rat} (s : SQ p q) {Q : Ev → Prop} (hQ : Q (Ev.mk ⟨p.map am⟩ ⟨q.map am⟩)) : w_L_made (⟨p.map am⟩, ⟨q.map am⟩) Q := x_ev s ⟨_, _, rfl, hQ⟩
theorem forP_eachA {X : Type} {W : X → Unit → (Unit → Prop) → (Unit → Prop) → Prop} {K : Unit → Prop} : ∀ (xs : List X), (∀ x ∈ xs, ∀ kn kb : Unit → Prop, kn () → W x () kn kb) → K () → forP xs () W K
  | [], _, h => h
  | x :: xs, hw, h => hw x List.mem_cons_self _ _ (forP_eachA xs (fun y hy => hw y (List.mem_cons_of_mem _ hy)) h)
theorem x_one {p q : List Rat} {R : Prop} (s : SQ p q) (hR : R) : w_L_made (⟨p.map am⟩, ⟨q.map am⟩) (fun x_112 => w_evening_text x_112 (fun x_113 => (fun text_103 : Str => w_read_evening text_103 (fun x_111 => (fun read_104 : Ev => (pOr (fun Q => w_L_text (⟨p.map am⟩, ⟨q.map am⟩) (fun x_106 => Q (!decide (text_103 = x_106)))) (fun Q => (pOr (fun Q => w_L_made (⟨p.map am⟩, ⟨q.map am⟩) (fun x_108 => w_Eveningu_equ read_104 x_108 (fun x_107 => Q (!x_107)))) (pR (!decide ((read_104.o, read_104.d) = ((⟨p.map am⟩, ⟨q.map am⟩) : Tu (Int × Int) × Tu (Int × Int)))))) (fun x_109 => Q (x_109)))) (fun x_110 => (if x_110 = true then (false = true) else R))) x_111)) x_113)) := by
  refine x_lmade s ?_
  refine x_etext s ?_
  refine x_read s ?_
  dsimp only [pOr, pR]
  refine x_ltext s ?_
  refine ifn (by simp) (x_lmade s ?_)
  unfold w_Eveningu_equ
  refine ifn (by simp) (ifn (by simp) hR)
theorem x_law {script : Scr} : w_law script (fun r => r = true) := by
  unfold w_law w_L_hand
  have ten : (10 : Int) ^ ((20 : Int)).toNat = 100000000000000000000 := by decide
  refine ⟨⟨by decide, by decide⟩, forP_eachA _ (fun x _ kn kb hk => ?_) rfl⟩
  refine drawA (by decide) (by decide) fun a a0 a1 => pAt_mem a0 a1 fun z hz => ⟨⟨by decide, by decide, by decide⟩, drawA (by decide) (by decide) fun b b0 b1 => pAt_mem b0 b1 fun y hy => ?_⟩
  have hz : z = 5 ∨ z = 100 := by simpa using hz
  rw [ten] at hy
  have hy : y = 9 ∨ y = 100000000000000000000 := by simpa using hy
  refine lsumsA (by omega) (by omega) (by omega) (by rcases hy with rfl | rfl <;> decide) fun p q s => ?_
  have cp : cutL (p.map am) (some (1 : Int)) none ++ cutL (p.map am) none (some (1 : Int)) = (p.drop 1 ++ p.take 1).map am := by
    rw [cut_hi _ _ (by decide), cut_lo _ _ (by decide), List.map_append, List.map_drop, List.map_take]; rfl
  have lp : (cutL (p.map am) (some (1 : Int)) none).length + (cutL (p.map am) none (some (1 : Int))).length = p.length := by
    have := congrArg List.length cp
    rw [List.length_append, List.length_map, List.length_append, List.length_drop, List.length_take] at this
    have := s.p1
    omega
  have p2 := s.p2
  refine ⟨sz_of (by show (cutL (p.map am) (some (1 : Int)) none).length + (cutL (p.map am) none (some (1 : Int))).length ≤ _; omega), drawA (by decide) (by decide) fun c c0 c1 => pAt_mem c0 c1 fun w hw => ?_⟩
  have hw : ∃ p' q', SQ p' q' ∧ w = (⟨p'.map am⟩, ⟨q'.map am⟩) := by
    simp only [List.mem_cons, List.not_mem_nil, or_false] at hw
    rcases hw with rfl | rfl | rfl
    · exact ⟨p, q, s, rfl⟩
    · exact ⟨q, p, s.swap, rfl⟩
    · exact ⟨p.drop 1 ++ p.take 1, q, s.rot, by rw [← cp]⟩
  obtain ⟨p', q', s', rfl⟩ := hw
  refine forP_c ?_
  refine x_one s ?_
  refine forP_c ?_
  refine x_one s' ?_
  refine forP_n ?_
  refine x_lmade s ?_
  refine x_etext s ?_
  refine x_lmade s' ?_
  refine x_etext s' ?_
  refine ifn ?_ hk
  by_cases e : txt p q = txt p' q'
  · obtain ⟨e1, e2⟩ := txt_inj s s' e
    subst e1
    subst e2
    simp
  · have n : ¬ (((⟨p.map am⟩, ⟨q.map am⟩) : Tu (Int × Int) × Tu (Int × Int)) = (⟨p'.map am⟩, ⟨q'.map am⟩)) := fun z => by
      have z1 := congrArg (fun x : Tu (Int × Int) × Tu (Int × Int) => x.1.l) z
      have z2 := congrArg (fun x : Tu (Int × Int) × Tu (Int × Int) => x.2.l) z
      exact e (by rw [ams_inj z1, ams_inj z2])
    rw [decide_eq_false e, decide_eq_false n]; rfl

structure Bi (mg : Str → Option Value) (C : CA) : Prop where
  b_abs : mg "abs" = none
  b_all : mg "all" = none
  b_bool : mg "bool" = none
  b_enumerate : mg "enumerate" = none
  b_int : mg "int" = none
  b_isinstance : mg "isinstance" = none
  b_len : mg "len" = none
  b_max : mg "max" = none
  b_min : mg "min" = none
  b_range : mg "range" = none
  b_str : mg "str" = none
  b_sum : mg "sum" = none
  b_tuple : mg "tuple" = none
  g_AMOUNT_FIGURES : ∃ u, mg "AMOUNT_FIGURES" = some (u) ∧ RelV (.int 40) u
  g_CHUNK : ∃ u, mg "CHUNK" = some (u) ∧ RelV (.int 1000000000000000000000000000000000000000000000000000000000000) u
  g_Evening : mg "Evening" = some (.ref C.Evening)
  g_FIGURES : ∃ u, mg "FIGURES" = some (u) ∧ RelV (.str "0123456789") u
  g_MOST_SUMS : ∃ u, mg "MOST_SUMS" = some (u) ∧ RelV (.int 100) u
  g_SIDES : ∃ a, mg "SIDES" = some (.ref a) ∧ KTup C.K a [("owed" : Str), ("due" : Str)]
  g_gcd : mg "gcd" = some (.builtin "math.gcd")
  g_lcm : mg "lcm" = some (.builtin "math.lcm")

def top (i : Nat) : Stmt := PySem.Challenge.pw_quitsways_k15_whole_texts_of_evenings.main.body.getD i (.Pass ⟨0, 0, 0, 0⟩)

/-! ### _law_draw -/
abbrev s_L_draw : Stmt := top 37
theorem sc_L_draw : FnScope N_L_draw ["_law_hand_here", "_law_many"] (defScope s_L_draw) := ⟨rfl, rfl, rfl, by decide +kernel, rfl, by decide +kernel, by decide +kernel⟩
theorem ok_L_draw {mg : Str → Option Value} {base : Heap} {C : CA} {f : Addr} {fd : FuncData} (T : CT C.K C) (TI : EvIs C.K C) (TE : CTE C.K C) (B : Bi mg C) (F : Fun C.K "_law_draw" "_law_draw" s_L_draw f fd)  : FnOk C.P C.w C.K mg base CX0 1 f fd ["_law_hand_here", "_law_many"] (sp_L_draw C) := by
  refine F.ok sc_L_draw (fun vs H Q E h => ?_) (fun cdv A outer s H vs Q E hr h => ⟨t_L_draw C, ?_, rd_L_draw h⟩)
  · obtain ⟨args, F, as, w, Qp, ha, _, _, _, ⟨_, rfl, _⟩, _⟩ := h
    exact args_len ha
  · exact (pss_cons (ps_if (PW.pt (pw_and (pt_cmpR op_eq (pe_ix ix_list (pv 0) pe_int (fun _ _ => rfl)) pe_int (nomark _)) (pw_and1 (pt_cmpR op_lt (pe_ix ix_list (pv 0) pe_int (fun _ _ => rfl)) (pe_callB call_len (by rfl) B.b_len bt_len (pa_cons (pe_ix ix_list (pv 0) pe_int (fun _ _ => rfl)) pa_nil)) (nomark _))))) (pss_cons (ps_set (i := 2) sc_L_draw.nd rfl (Or.inl rfl) (pe_ix ix_list (pe_ix ix_list (pv 0) pe_int (fun _ _ => rfl)) (pe_ix ix_list (pv 0) pe_int (fun _ _ => rfl)) (fun _ _ => rfl))) (pss_cons (ps_asg (pe_op op_add (pe_ix ix_list (pv 0) pe_int (fun _ _ => rfl)) pe_int) (pg_sub (pv 0) pe_int set_list)) (pss_cons (ps_asg (pe_op op_mod (pe_callTy call_int1 (by rfl) B.b_int bt_int (pa_cons (pe_op op_add (pe_op op_add (pe_op op_mulA (pe_ix ix_list (pv 0) pe_int (fun _ _ => rfl)) pe_int) (pv 2)) pe_int) pa_nil)) pe_int) (pg_sub (pv 0) pe_int set_list)) (pss_one (ps_if (pt_cmpR op_ge (pv 2) (pe_op op_pow pe_int pe_int) (nomark _)) (pss_one (ps_asg (pv 2) (pg_sub (pv 0) pe_int set_list))) pss_nil))))) pss_nil) (pss_cons (ps_if (pt_cmpR op_gt (pe_ix ix_list (pv 0) pe_int (fun _ _ => rfl)) pe_int (nomark _)) (pss_cons (ps_set (i := 3) sc_L_draw.nd rfl (Or.inl rfl) (pe_op op_mod (pe_callTy call_int1 (by rfl) B.b_int bt_int (pa_cons (pe_ix ix_list (pv 0) pe_int (fun _ _ => rfl)) pa_nil)) (pv 1))) (pss_cons (ps_asg (pe_op op_fdivW (pe_ix ix_list (pv 0) pe_int (fun _ _ => rfl)) (pv 1)) (pg_sub (pv 0) pe_int set_list)) (pss_one (ps_ret (pv 3))))) pss_nil) (pss_cons (ps_asg (pe_op op_add (pe_ix ix_list (pv 0) pe_int (fun _ _ => rfl)) pe_int) (pg_sub (pv 0) pe_int set_list)) (pss_cons (ps_set (i := 4) sc_L_draw.nd rfl (Or.inl rfl) (pe_op op_mod (pe_callTy call_int1 (by rfl) B.b_int bt_int (pa_cons (pe_op op_mulA (pe_callTy call_int1 (by rfl) B.b_int bt_int (pa_cons (pe_op op_add (pe_ix ix_list (pv 0) pe_int (fun _ _ => rfl)) (pe_op op_mulA pe_int (pe_ix ix_list (pv 0) pe_int (fun _ _ => rfl)))) pa_nil)) pe_int) pa_nil)) pe_int)) (pss_cons (ps_set (i := 4) sc_L_draw.nd rfl (Or.inl rfl) (pe_op op_mod (pe_callTy call_int1 (by rfl) B.b_int bt_int (pa_cons (pe_op op_mulA (pv 4) (pe_op op_add (pe_op op_fdivW (pv 4) pe_int) pe_int)) pa_nil)) pe_int)) (pss_cons (ps_set (i := 4) sc_L_draw.nd rfl (Or.inl rfl) (pe_op op_mod (pe_callTy call_int1 (by rfl) B.b_int bt_int (pa_cons (pe_op op_mulA (pv 4) (pe_op op_add (pe_op op_fdivW (pv 4) pe_int) pe_int)) pa_nil)) pe_int)) (pss_one (ps_ret (pe_op op_mod (pe_callTy call_int1 (by rfl) B.b_int bt_int (pa_cons (pe_op op_fdivW (pv 4) pe_int) pa_nil)) (pv 1))))))))))

/-! ### _law_hand -/
abbrev s_L_hand : Stmt := top 36
theorem sc_L_hand : FnScope N_L_hand ["_law_script"] (defScope s_L_hand) := ⟨rfl, rfl, rfl, by decide +kernel, rfl, by decide +kernel, by decide +kernel⟩
theorem ok_L_hand {mg : Str → Option Value} {base : Heap} {C : CA} {f : Addr} {fd : FuncData} (T : CT C.K C) (TI : EvIs C.K C) (TE : CTE C.K C) (B : Bi mg C) (F : Fun C.K "_law_hand" "_law_hand" s_L_hand f fd)  : FnOk C.P C.w C.K mg base CX0 1 f fd ["_law_script"] (sp_L_hand C) := by
  refine F.ok sc_L_hand (fun vs H Q E h => ?_) (fun cdv A outer s H vs Q E hr h => ⟨t_L_hand C, ?_, rd_L_hand h⟩)
  · obtain ⟨args, F, Qp, ha, _, ⟨_, rfl, _⟩, _⟩ := h
    exact args_len ha
  · exact (pss_cons (ps_setLc (i := 1) (own := [("_law_cell", 2)]) (g := (gName 2)) (tt := tYes) rfl sc_L_hand.nd rfl rfl (sw_true rfl rfl rfl (by decide +kernel)) (pi_list (pe_slice sl_list (pv 0) po_none (po_some pe_int))) (blkOk_by (own := [("_law_cell", 2)]) (N := N_L_hand) (sc := defScope s_L_hand) (by decide +kernel)) (fun _ _ _ _ _ => (pg_name (i := 2) sc_L_hand.nd rfl (Or.inl rfl))) (fun _ _ _ _ _ => pts_nil) (fun _ _ _ _ _ => (pe_callB call_abs (by rfl) B.b_abs bt_abs (pa_cons (pe_callTy call_int1 (by rfl) B.b_int bt_int (pa_cons (pv 2) pa_nil)) pa_nil)))) (pss_one (ps_ret (pe_lst (pa_cons (pv 1) (pa_cons pe_int (pa_cons pe_int (pa_cons (pe_op op_add pe_int (pe_callB call_len (by rfl) B.b_len bt_len (pa_cons (pv 1) pa_nil))) (pa_cons pe_int pa_nil)))))))))

/-! ### _law_cut -/
abbrev s_L_cut : Stmt := top 45
theorem sc_L_cut : FnScope N_L_cut ["_law_hand_here", "_law_full", "_law_many"] (defScope s_L_cut) := ⟨rfl, rfl, rfl, by decide +kernel, rfl, by decide +kernel, by decide +kernel⟩
theorem ok_L_cut {mg : Str → Option Value} {base : Heap} {C : CA} {f : Addr} {fd : FuncData} (T : CT C.K C) (TI : EvIs C.K C) (TE : CTE C.K C) (B : Bi mg C) (F : Fun C.K "_law_cut" "_law_cut" s_L_cut f fd) (D_L_draw : Okd C.P C.w C.K mg base 1 "_law_draw" ["_law_hand_here", "_law_many"] (sp_L_draw C)) : FnOk C.P C.w C.K mg base CX0 2 f fd ["_law_hand_here", "_law_full", "_law_many"] (sp_L_cut C) := by
  refine F.ok sc_L_cut (fun vs H Q E h => ?_) (fun cdv A outer s H vs Q E hr h => ⟨t_L_cut C, ?_, rd_L_cut h⟩)
  · obtain ⟨args, F, as, w, Qp, ha, _, _, _, ⟨_, _, rfl, _⟩, _⟩ := h
    exact args_len ha
  · exact (pss_cons (ps_set (i := 3) sc_L_cut.nd rfl (Or.inl rfl) (pe_op op_sub (pv 1) (pv 2))) (pss_cons (ps_set (i := 4) sc_L_cut.nd rfl (Or.inl rfl) (pe_lst pa_nil)) (pss_cons (ps_for PassesOwn.never rfl (pi_range1 rfl B.b_range (pa_cons (pe_op op_sub (pv 2) pe_int) pa_nil)) (pg_name (i := 5) sc_L_cut.nd rfl (Or.inl rfl)) (pss_cons (ps_set (i := 6) sc_L_cut.nd rfl (Or.inl rfl) (pe_callD D_L_draw (hr.mono (by decide)) (pa_cons (pv 0) (pa_cons (pe_op op_add (pe_callB (call_min2 rfl) (by rfl) B.b_min bt_min (pa_cons (pv 3) (pa_cons (pe_op op_add (pe_op op_mulA pe_int (pe_op op_fdivW (pv 3) (pe_op op_sub (pv 2) (pv 5)))) pe_int) pa_nil))) pe_int) pa_nil)))) (pss_cons (ps_expr (pe_bm PySem.F.plainAttrs_list PySem.F.slot_list_append PySem.F.type_list_append mt_append (pv 4) (pa_cons (pe_op op_add pe_int (pv 6)) pa_nil))) (pss_one (ps_set (i := 3) sc_L_cut.nd rfl (Or.inl rfl) (pe_op op_sub (pv 3) (pv 6))))))) (pss_cons (ps_expr (pe_bm PySem.F.plainAttrs_list PySem.F.slot_list_append PySem.F.type_list_append mt_append (pv 4) (pa_cons (pe_op op_add pe_int (pv 3)) pa_nil))) (pss_cons (ps_set (i := 7) sc_L_cut.nd rfl (Or.inl rfl) (pe_callD D_L_draw (hr.mono (by decide)) (pa_cons (pv 0) (pa_cons (pv 2) pa_nil)))) (pss_one (ps_ret (pe_op op_cat (pe_slice sl_list (pv 4) (po_some (pv 7)) po_none) (pe_slice sl_list (pv 4) po_none (po_some (pv 7)))))))))))

/-! ### _law_numbers -/
abbrev s_L_numbers : Stmt := top 46
theorem sc_L_numbers : FnScope N_L_numbers ["_law_hand_here", "_law_side", "_law_most"] (defScope s_L_numbers) := ⟨rfl, rfl, rfl, by decide +kernel, rfl, by decide +kernel, by decide +kernel⟩
theorem ok_L_numbers {mg : Str → Option Value} {base : Heap} {C : CA} {f : Addr} {fd : FuncData} (T : CT C.K C) (TI : EvIs C.K C) (TE : CTE C.K C) (B : Bi mg C) (F : Fun C.K "_law_numbers" "_law_numbers" s_L_numbers f fd) (D_L_draw : Okd C.P C.w C.K mg base 1 "_law_draw" ["_law_hand_here", "_law_many"] (sp_L_draw C)) (D_L_cut : Okd C.P C.w C.K mg base 2 "_law_cut" ["_law_hand_here", "_law_full", "_law_many"] (sp_L_cut C)) : FnOk C.P C.w C.K mg base CX0 3 f fd ["_law_hand_here", "_law_side", "_law_most"] (sp_L_numbers C) := by
  refine F.ok sc_L_numbers (fun vs H Q E h => ?_) (fun cdv A outer s H vs Q E hr h => ⟨t_L_numbers C, ?_, rd_L_numbers h⟩)
  · obtain ⟨args, F, as, w, Qp, ha, _, _, _, ⟨_, _, rfl, _⟩, _⟩ := h
    exact args_len ha
  · exact (pss_cons (ps_set (i := 3) sc_L_numbers.nd rfl (Or.inl rfl) (pe_op op_add pe_int (pe_callD D_L_draw (hr.mono (by decide)) (pa_cons (pv 0) (pa_cons (pv 1) pa_nil))))) (pss_cons (ps_set (i := 4) sc_L_numbers.nd rfl (Or.inl rfl) (pe_op op_add pe_int (pe_callD D_L_draw (hr.mono (by decide)) (pa_cons (pv 0) (pa_cons (pv 1) pa_nil))))) (pss_cons (ps_set (i := 5) sc_L_numbers.nd rfl (Or.inl rfl) (pe_op op_add (pe_callB (call_max2 rfl) (by rfl) B.b_max bt_max (pa_cons (pv 3) (pa_cons (pv 4) pa_nil))) (pe_callD D_L_draw (hr.mono (by decide)) (pa_cons (pv 0) (pa_cons (pv 2) pa_nil))))) (pss_cons (ps_set (i := 6) sc_L_numbers.nd rfl (Or.inl rfl) (pe_callD D_L_draw (hr.mono (by decide)) (pa_cons (pv 0) (pa_cons pe_int pa_nil)))) (pss_cons (ps_if (pt_cmpR op_eq (pv 6) pe_int (nomark _)) (pss_one (ps_ret (pe_tup (pa_cons (pe_callD D_L_cut (hr.mono (by decide)) (pa_cons (pv 0) (pa_cons (pv 5) (pa_cons (pv 3) pa_nil)))) (pa_cons (pe_revL (pe_callD D_L_cut (hr.mono (by decide)) (pa_cons (pv 0) (pa_cons (pv 5) (pa_cons (pv 3) pa_nil))))) pa_nil))))) pss_nil) (pss_cons (ps_set (i := 7) sc_L_numbers.nd rfl (Or.inl rfl) (pe_callD D_L_cut (hr.mono (by decide)) (pa_cons (pv 0) (pa_cons (pv 5) (pa_cons (pv 3) pa_nil))))) (pss_cons (ps_if (pt_cmpR op_eq (pv 6) pe_int (nomark _)) (pss_one (ps_ret (pe_tup (pa_cons (pv 7) (pa_cons (pe_revL (pv 7)) pa_nil))))) pss_nil) (pss_one (ps_ret (pe_tup (pa_cons (pv 7) (pa_cons (pe_callD D_L_cut (hr.mono (by decide)) (pa_cons (pv 0) (pa_cons (pv 5) (pa_cons (pv 4) pa_nil)))) pa_nil))))))))))))

/-! ### _law_unit -/
abbrev s_L_unit : Stmt := top 47
theorem sc_L_unit : FnScope N_L_unit ["_law_hand_here"] (defScope s_L_unit) := ⟨rfl, rfl, rfl, by decide +kernel, rfl, by decide +kernel, by decide +kernel⟩
theorem ok_L_unit {mg : Str → Option Value} {base : Heap} {C : CA} {f : Addr} {fd : FuncData} (T : CT C.K C) (TI : EvIs C.K C) (TE : CTE C.K C) (B : Bi mg C) (F : Fun C.K "_law_unit" "_law_unit" s_L_unit f fd) (D_L_draw : Okd C.P C.w C.K mg base 1 "_law_draw" ["_law_hand_here", "_law_many"] (sp_L_draw C)) : FnOk C.P C.w C.K mg base CX0 2 f fd ["_law_hand_here"] (sp_L_unit C) := by
  refine F.ok sc_L_unit (fun vs H Q E h => ?_) (fun cdv A outer s H vs Q E hr h => ⟨t_L_unit C, ?_, rd_L_unit h⟩)
  · obtain ⟨args, F, as, w, Qp, ha, _, _, _, ⟨rfl, _⟩, _⟩ := h
    exact args_len ha
  · exact (pss_cons (ps_set (i := 1) sc_L_unit.nd rfl (Or.inl rfl) (pe_lst (pa_cons (pe_tup (pa_cons pe_int (pa_cons pe_int pa_nil))) (pa_cons (pe_tup (pa_cons pe_int (pa_cons pe_int pa_nil))) (pa_cons (pe_tup (pa_cons pe_int (pa_cons pe_int pa_nil))) (pa_cons (pe_tup (pa_cons pe_int (pa_cons pe_int pa_nil))) (pa_cons (pe_tup (pa_cons pe_int (pa_cons pe_int pa_nil))) (pa_cons (pe_tup (pa_cons pe_int (pa_cons pe_int pa_nil))) (pa_cons (pe_tup (pa_cons pe_int (pa_cons pe_int pa_nil))) (pa_cons (pe_tup (pa_cons (pe_op op_pow pe_int pe_int) (pa_cons pe_int pa_nil))) (pa_cons (pe_tup (pa_cons pe_int (pa_cons (pe_op op_pow pe_int pe_int) pa_nil))) pa_nil))))))))))) (pss_one (ps_ret (pe_ix ix_list (pv 1) (pe_callD D_L_draw (hr.mono (by decide)) (pa_cons (pv 0) (pa_cons pe_int pa_nil))) (fun _ _ => rfl)))))

/-! ### _law_common -/
abbrev s_L_common : Stmt := top 38
theorem sc_L_common : FnScope N_L_common ["_law_one", "_law_other"] (defScope s_L_common) := ⟨rfl, rfl, rfl, by decide +kernel, rfl, by decide +kernel, by decide +kernel⟩
theorem ok_L_common {mg : Str → Option Value} {base : Heap} {C : CA} {f : Addr} {fd : FuncData} (T : CT C.K C) (TI : EvIs C.K C) (TE : CTE C.K C) (B : Bi mg C) (F : Fun C.K "_law_common" "_law_common" s_L_common f fd)  : FnOk C.P C.w C.K mg base CX0 1 f fd ["_law_one", "_law_other"] (sp_L_common C) := by
  refine F.ok sc_L_common (fun vs H Q E h => ?_) (fun cdv A outer s H vs Q E hr h => ⟨t_L_common C, ?_, rd_L_common h⟩)
  · obtain ⟨args, F, Qp, ha, _, ⟨_, _, rfl, _⟩, _⟩ := h
    exact args_len ha
  · exact (pss_cons (ps_set (i := 0) sc_L_common.nd rfl (Or.inl rfl) (pe_callB call_abs (by rfl) B.b_abs bt_abs (pa_cons (pv 0) pa_nil))) (pss_cons (ps_set (i := 1) sc_L_common.nd rfl (Or.inl rfl) (pe_callB call_abs (by rfl) B.b_abs bt_abs (pa_cons (pv 1) pa_nil))) (pss_cons (ps_for PassesOwn.never rfl (pi_range1 rfl B.b_range (pa_cons pe_int pa_nil)) (pg_name (i := 2) sc_L_common.nd rfl (Or.inl rfl)) (pss_cons (ps_if (pt_cmpR op_eq (pv 1) pe_int (nomark _)) (pss_one ps_break) pss_nil) (pss_cons (ps_set (i := 3) sc_L_common.nd rfl (Or.inl rfl) (pe_op op_mod (pe_callTy call_int1 (by rfl) B.b_int bt_int (pa_cons (pv 0) pa_nil)) (pv 1))) (pss_cons (ps_set (i := 0) sc_L_common.nd rfl (Or.inl rfl) (pv 1)) (pss_one (ps_set (i := 1) sc_L_common.nd rfl (Or.inl rfl) (pv 3))))))) (pss_one (ps_ret (pv 0))))))

/-! ### _law_fraction -/
abbrev s_L_fraction : Stmt := top 39
theorem sc_L_fraction : FnScope N_L_fraction ["_law_top", "_law_bottom"] (defScope s_L_fraction) := ⟨rfl, rfl, rfl, by decide +kernel, rfl, by decide +kernel, by decide +kernel⟩
theorem ok_L_fraction {mg : Str → Option Value} {base : Heap} {C : CA} {f : Addr} {fd : FuncData} (T : CT C.K C) (TI : EvIs C.K C) (TE : CTE C.K C) (B : Bi mg C) (F : Fun C.K "_law_fraction" "_law_fraction" s_L_fraction f fd) (D_L_common : Okd C.P C.w C.K mg base 1 "_law_common" ["_law_one", "_law_other"] (sp_L_common C)) : FnOk C.P C.w C.K mg base CX0 2 f fd ["_law_top", "_law_bottom"] (sp_L_fraction C) := by
  refine F.ok sc_L_fraction (fun vs H Q E h => ?_) (fun cdv A outer s H vs Q E hr h => ⟨t_L_fraction C, ?_, rd_L_fraction h⟩)
  · obtain ⟨args, F, Qp, ha, _, ⟨_, _, rfl, _⟩, _⟩ := h
    exact args_len ha
  · exact (pss_cons (ps_set (i := 2) sc_L_fraction.nd rfl (Or.inl rfl) (pe_callD D_L_common (hr.mono (by decide)) (pa_cons (pv 0) (pa_cons (pv 1) pa_nil)))) (pss_one (ps_ret (pe_tup (pa_cons (pe_op op_fdivW (pv 0) (pv 2)) (pa_cons (pe_op op_fdivW (pv 1) (pv 2)) pa_nil))))))

/-! ### _law_times -/
abbrev s_L_times : Stmt := top 42
theorem sc_L_times : FnScope N_L_times ["_law_one", "_law_other"] (defScope s_L_times) := ⟨rfl, rfl, rfl, by decide +kernel, rfl, by decide +kernel, by decide +kernel⟩
theorem ok_L_times {mg : Str → Option Value} {base : Heap} {C : CA} {f : Addr} {fd : FuncData} (T : CT C.K C) (TI : EvIs C.K C) (TE : CTE C.K C) (B : Bi mg C) (F : Fun C.K "_law_times" "_law_times" s_L_times f fd) (D_L_fraction : Okd C.P C.w C.K mg base 2 "_law_fraction" ["_law_top", "_law_bottom"] (sp_L_fraction C)) : FnOk C.P C.w C.K mg base CX0 3 f fd ["_law_one", "_law_other"] (sp_L_times C) := by
  refine F.ok sc_L_times (fun vs H Q E h => ?_) (fun cdv A outer s H vs Q E hr h => ⟨t_L_times C, ?_, rd_L_times h⟩)
  · obtain ⟨args, F, Qp, ha, _, ⟨_, _, rfl, _⟩, _⟩ := h
    exact args_len ha
  · exact (pss_one (ps_ret (pe_callD D_L_fraction (hr.mono (by decide)) (pa_cons (pe_op op_mulA (pe_ix ix_tup (pv 0) pe_int (fun _ _ => rfl)) (pe_ix ix_tup (pv 1) pe_int (fun _ _ => rfl))) (pa_cons (pe_op op_mulA (pe_ix ix_tup (pv 0) pe_int (fun _ _ => rfl)) (pe_ix ix_tup (pv 1) pe_int (fun _ _ => rfl))) pa_nil)))))

/-! ### _law_sums -/
abbrev s_L_sums : Stmt := top 48
theorem sc_L_sums : FnScope N_L_sums ["_law_hand_here", "_law_side", "_law_most"] (defScope s_L_sums) := ⟨rfl, rfl, rfl, by decide +kernel, rfl, by decide +kernel, by decide +kernel⟩
theorem ok_L_sums {mg : Str → Option Value} {base : Heap} {C : CA} {f : Addr} {fd : FuncData} (T : CT C.K C) (TI : EvIs C.K C) (TE : CTE C.K C) (B : Bi mg C) (F : Fun C.K "_law_sums" "_law_sums" s_L_sums f fd) (D_L_times : Okd C.P C.w C.K mg base 3 "_law_times" ["_law_one", "_law_other"] (sp_L_times C)) (D_L_numbers : Okd C.P C.w C.K mg base 3 "_law_numbers" ["_law_hand_here", "_law_side", "_law_most"] (sp_L_numbers C)) (D_L_unit : Okd C.P C.w C.K mg base 2 "_law_unit" ["_law_hand_here"] (sp_L_unit C)) : FnOk C.P C.w C.K mg base CX0 4 f fd ["_law_hand_here", "_law_side", "_law_most"] (sp_L_sums C) := by
  refine F.ok sc_L_sums (fun vs H Q E h => ?_) (fun cdv A outer s H vs Q E hr h => ⟨t_L_sums C, ?_, rd_L_sums h⟩)
  · obtain ⟨args, F, as, w, Qp, ha, _, _, _, ⟨_, _, rfl, _⟩, _⟩ := h
    exact args_len ha
  · exact (pss_cons (ps_asg (pe_callD D_L_numbers (hr.mono (by decide)) (pa_cons (pv 0) (pa_cons (pv 1) (pa_cons (pv 2) pa_nil)))) (pg_tup rfl (pgs_cons (pg_name (i := 3) sc_L_sums.nd rfl (Or.inl rfl)) (pgs_cons (pg_name (i := 4) sc_L_sums.nd rfl (Or.inl rfl)) pgs_nil)))) (pss_cons (ps_set (i := 5) sc_L_sums.nd rfl (Or.inr rfl) (pe_callD D_L_unit (hr.mono (by decide)) (pa_cons (pv 0) pa_nil))) (pss_one (ps_ret (pe_tup (pa_cons (pe_callTy call_tuple_of (by rfl) B.b_tuple bt_tuple (pa_cons (pe_lc (own := [("_law_number", 6)]) (g := (gName 6)) (tt := tYes) rfl sc_L_sums.nd (pi_list (pv 3)) (blkOk_by (own := [("_law_number", 6)]) (N := N_L_sums) (sc := defScope s_L_sums) (by decide +kernel)) (fun _ _ _ _ _ => (pg_name (i := 6) sc_L_sums.nd rfl (Or.inl rfl))) (fun _ _ _ _ _ => pts_nil) (fun _ _ _ _ _ => (pe_callD D_L_times (hr.mono (by decide)) (pa_cons (pe_tup (pa_cons (pv 6) (pa_cons pe_int pa_nil))) (pa_cons (pv 5) pa_nil))))) pa_nil)) (pa_cons (pe_callTy call_tuple_of (by rfl) B.b_tuple bt_tuple (pa_cons (pe_lc (own := [("_law_number", 6)]) (g := (gName 6)) (tt := tYes) rfl sc_L_sums.nd (pi_list (pv 4)) (blkOk_by (own := [("_law_number", 6)]) (N := N_L_sums) (sc := defScope s_L_sums) (by decide +kernel)) (fun _ _ _ _ _ => (pg_name (i := 6) sc_L_sums.nd rfl (Or.inl rfl))) (fun _ _ _ _ _ => pts_nil) (fun _ _ _ _ _ => (pe_callD D_L_times (hr.mono (by decide)) (pa_cons (pe_tup (pa_cons (pv 6) (pa_cons pe_int pa_nil))) (pa_cons (pv 5) pa_nil))))) pa_nil)) pa_nil)))))))

/-! ### is_integer -/
abbrev s_is_integer : Stmt := top 2
theorem sc_is_integer : FnScope N_is_integer ["thing"] (defScope s_is_integer) := ⟨rfl, rfl, rfl, by decide +kernel, rfl, by decide +kernel, by decide +kernel⟩
theorem ok_is_integer {mg : Str → Option Value} {base : Heap} {C : CA} {f : Addr} {fd : FuncData} (T : CT C.K C) (TI : EvIs C.K C) (TE : CTE C.K C) (B : Bi mg C) (F : Fun C.K "is_integer" "is_integer" s_is_integer f fd)  : FnOk C.P C.w C.K mg base CX0 1 f fd ["thing"] (sp_is_integer C) := by
  refine F.ok sc_is_integer (fun vs H Q E h => ?_) (fun cdv A outer s H vs Q E hr h => ⟨t_is_integer C, ?_, rd_is_integer h⟩)
  · obtain ⟨args, F, Qp, ha, _, ⟨_, rfl, _⟩, _⟩ := h
    exact args_len ha
  · exact (pss_one (ps_ret (pe_and (pe_callB call_isi (by rfl) B.b_isinstance bt_isinstance (pa_cons (pv 0) (pa_cons (pe_bltn (v := .ty "int") (by rfl) B.b_int bt_int rfl) pa_nil))) (pe_one (pe_not (pe_callB call_isi (by rfl) B.b_isinstance bt_isinstance (pa_cons (pv 0) (pa_cons (pe_bltn (v := .ty "bool") (by rfl) B.b_bool bt_bool rfl) pa_nil))))))))

/-! ### is_fraction -/
abbrev s_is_fraction : Stmt := top 4
theorem sc_is_fraction : FnScope N_is_fraction ["thing"] (defScope s_is_fraction) := ⟨rfl, rfl, rfl, by decide +kernel, rfl, by decide +kernel, by decide +kernel⟩
theorem ok_is_fraction {mg : Str → Option Value} {base : Heap} {C : CA} {f : Addr} {fd : FuncData} (T : CT C.K C) (TI : EvIs C.K C) (TE : CTE C.K C) (B : Bi mg C) (F : Fun C.K "is_fraction" "is_fraction" s_is_fraction f fd) (D_is_integer : Okd C.P C.w C.K mg base 1 "is_integer" ["thing"] (sp_is_integer C)) : FnOk C.P C.w C.K mg base CX0 2 f fd ["thing"] (sp_is_fraction C) := by
  refine F.ok sc_is_fraction (fun vs H Q E h => ?_) (fun cdv A outer s H vs Q E hr h => ⟨t_is_fraction C, ?_, rd_is_fraction h⟩)
  · obtain ⟨args, F, Qp, ha, _, ⟨_, rfl, _⟩, _⟩ := h
    exact args_len ha
  · exact (pss_cons (ps_if (PW.pt (pw_or (pt_not (pt_val (pe_callB call_isi (by rfl) B.b_isinstance bt_isinstance (pa_cons (pv 0) (pa_cons (pe_bltn (v := .ty "tuple") (by rfl) B.b_tuple bt_tuple rfl) pa_nil))))) (pw_or1 (pt_cmpR op_ne (pe_callB call_len (by rfl) B.b_len bt_len (pa_cons (pv 0) pa_nil)) pe_int (nomark _))))) (pss_one (ps_ret pe_bl)) pss_nil) (pss_cons (ps_asg (pv 0) (pg_tup rfl (pgs_cons (pg_name (i := 1) sc_is_fraction.nd rfl (Or.inl rfl)) (pgs_cons (pg_name (i := 2) sc_is_fraction.nd rfl (Or.inl rfl)) pgs_nil)))) (pss_cons (ps_if (PW.pt (pw_or (pt_not (pt_val (pe_callD D_is_integer (hr.mono (by decide)) (pa_cons (pv 1) pa_nil)))) (pw_or1 (pt_not (pt_val (pe_callD D_is_integer (hr.mono (by decide)) (pa_cons (pv 2) pa_nil))))))) (pss_one (ps_ret pe_bl)) pss_nil) (pss_one (ps_ret (pe_and (pe_cmpR op_gt (pv 2) pe_int (nomark _)) (pe_one (pe_cmpR op_eq (pe_callBfun cr_gcd rfl B.g_gcd (pa_cons (pv 1) (pa_cons (pv 2) pa_nil))) pe_int (nomark _)))))))))

/-! ### is_amount -/
abbrev s_is_amount : Stmt := top 5
theorem sc_is_amount : FnScope N_is_amount ["thing"] (defScope s_is_amount) := ⟨rfl, rfl, rfl, by decide +kernel, rfl, by decide +kernel, by decide +kernel⟩
theorem ok_is_amount {mg : Str → Option Value} {base : Heap} {C : CA} {f : Addr} {fd : FuncData} (T : CT C.K C) (TI : EvIs C.K C) (TE : CTE C.K C) (B : Bi mg C) (F : Fun C.K "is_amount" "is_amount" s_is_amount f fd) (D_is_fraction : Okd C.P C.w C.K mg base 2 "is_fraction" ["thing"] (sp_is_fraction C)) : FnOk C.P C.w C.K mg base CX0 3 f fd ["thing"] (sp_is_amount C) := by
  refine F.ok sc_is_amount (fun vs H Q E h => ?_) (fun cdv A outer s H vs Q E hr h => ⟨t_is_amount C, ?_, rd_is_amount h⟩)
  · obtain ⟨args, F, Qp, ha, _, ⟨_, rfl, _⟩, _⟩ := h
    exact args_len ha
  · exact (pss_one (ps_ret (pe_and (pe_callD D_is_fraction (hr.mono (by decide)) (pa_cons (pv 0) pa_nil)) (pe_one (pe_cmpR op_gt (pe_ix ix_tup (pv 0) pe_int (fun _ _ => rfl)) pe_int (nomark _))))))

/-! ### _is_side -/
abbrev s_q_is_side : Stmt := top 17
theorem sc_q_is_side : FnScope N_q_is_side ["thing"] (defScope s_q_is_side) := ⟨rfl, rfl, rfl, by decide +kernel, rfl, by decide +kernel, by decide +kernel⟩
theorem ok_q_is_side {mg : Str → Option Value} {base : Heap} {C : CA} {f : Addr} {fd : FuncData} (T : CT C.K C) (TI : EvIs C.K C) (TE : CTE C.K C) (B : Bi mg C) (F : Fun C.K "_is_side" "_is_side" s_q_is_side f fd) (D_is_amount : Okd C.P C.w C.K mg base 3 "is_amount" ["thing"] (sp_is_amount C)) : FnOk C.P C.w C.K mg base CX0 4 f fd ["thing"] (sp_q_is_side C) := by
  refine F.ok sc_q_is_side (fun vs H Q E h => ?_) (fun cdv A outer s H vs Q E hr h => ⟨t_q_is_side C, ?_, rd_q_is_side h⟩)
  · obtain ⟨args, F, Qp, ha, _, ⟨_, rfl, _⟩, _⟩ := h
    exact args_len ha
  · exact (pss_cons (ps_if (PW.pt (pw_or (pt_not (pt_val (pe_callB call_isi (by rfl) B.b_isinstance bt_isinstance (pa_cons (pv 0) (pa_cons (pe_bltn (v := .ty "tuple") (by rfl) B.b_tuple bt_tuple rfl) pa_nil))))) (pw_or1 (pt_not (pt_chain op_le op_le pe_int (pe_callB call_len (by rfl) B.b_len bt_len (pa_cons (pv 0) pa_nil)) (pe_glob rfl B.g_MOST_SUMS.choose_spec.1 B.g_MOST_SUMS.choose_spec.2)))))) (pss_one (ps_ret pe_bl)) pss_nil) (pss_one (ps_ret (pe_callB (cr_all rfl) (by rfl) B.b_all bt_all (pa_cons (pe_lc (own := [("amount", 1)]) (g := (gName 1)) (tt := tYes) rfl sc_q_is_side.nd (pi_tup (pv 0)) (blkOk_by (own := [("amount", 1)]) (N := N_q_is_side) (sc := defScope s_q_is_side) (by decide +kernel)) (fun _ _ _ _ _ => (pg_name (i := 1) sc_q_is_side.nd rfl (Or.inl rfl))) (fun _ _ _ _ _ => pts_nil) (fun _ _ _ _ _ => (pe_callD D_is_amount (hr.mono (by decide)) (pa_cons (pv 1) pa_nil)))) pa_nil)))))

/-! ### common_bottom -/
abbrev s_common_bottom : Stmt := top 7
theorem sc_common_bottom : FnScope N_common_bottom ["fractions"] (defScope s_common_bottom) := ⟨rfl, rfl, rfl, by decide +kernel, rfl, by decide +kernel, by decide +kernel⟩
theorem ok_common_bottom {mg : Str → Option Value} {base : Heap} {C : CA} {f : Addr} {fd : FuncData} (T : CT C.K C) (TI : EvIs C.K C) (TE : CTE C.K C) (B : Bi mg C) (F : Fun C.K "common_bottom" "common_bottom" s_common_bottom f fd)  : FnOk C.P C.w C.K mg base CX0 1 f fd ["fractions"] (sp_common_bottom C) := by
  refine F.ok sc_common_bottom (fun vs H Q E h => ?_) (fun cdv A outer s H vs Q E hr h => ⟨t_common_bottom C, ?_, rd_common_bottom h⟩)
  · obtain ⟨args, F, Qp, ha, _, ⟨_, rfl, _⟩, _⟩ := h
    exact args_len ha
  · exact (pss_cons (ps_set (i := 1) sc_common_bottom.nd rfl (Or.inl rfl) pe_int) (pss_cons (ps_for PassesOwn.never rfl (pi_tup (pv 0)) (pg_tup rfl (pgs_cons (pg_name (i := 2) sc_common_bottom.nd rfl (Or.inl rfl)) (pgs_cons (pg_name (i := 3) sc_common_bottom.nd rfl (Or.inl rfl)) pgs_nil))) (pss_one (ps_set (i := 1) sc_common_bottom.nd rfl (Or.inl rfl) (pe_callBfun cr_lcm rfl B.g_lcm (pa_cons (pv 1) (pa_cons (pv 3) pa_nil)))))) (pss_one (ps_ret (pv 1)))))

/-! ### in_units -/
abbrev s_in_units : Stmt := top 8
theorem sc_in_units : FnScope N_in_units ["fractions", "shared"] (defScope s_in_units) := ⟨rfl, rfl, rfl, by decide +kernel, rfl, by decide +kernel, by decide +kernel⟩
theorem ok_in_units {mg : Str → Option Value} {base : Heap} {C : CA} {f : Addr} {fd : FuncData} (T : CT C.K C) (TI : EvIs C.K C) (TE : CTE C.K C) (B : Bi mg C) (F : Fun C.K "in_units" "in_units" s_in_units f fd)  : FnOk C.P C.w C.K mg base CX0 1 f fd ["fractions", "shared"] (sp_in_units C) := by
  refine F.ok sc_in_units (fun vs H Q E h => ?_) (fun cdv A outer s H vs Q E hr h => ⟨t_in_units C, ?_, rd_in_units h⟩)
  · obtain ⟨args, F, Qp, ha, _, ⟨_, _, rfl, _⟩, _⟩ := h
    exact args_len ha
  · exact (pss_one (ps_ret (pe_lc (own := [("top", 2), ("bottom", 3)]) (g := (gTup C.K 2 (gCons (gName 2) (gCons (gName 3) gNil)))) (tt := tYes) rfl sc_in_units.nd (pi_tup (pv 0)) (blkOk_by (own := [("top", 2), ("bottom", 3)]) (N := N_in_units) (sc := defScope s_in_units) (by decide +kernel)) (fun _ _ _ _ _ => (pg_tup rfl (pgs_cons (pg_name (i := 2) sc_in_units.nd rfl (Or.inl rfl)) (pgs_cons (pg_name (i := 3) sc_in_units.nd rfl (Or.inl rfl)) pgs_nil)))) (fun _ _ _ _ _ => pts_nil) (fun _ _ _ _ _ => (pe_op op_mulA (pv 2) (pe_op op_fdivW (pv 1) (pv 3)))))))

/-! ### lowest -/
abbrev s_lowest : Stmt := top 6
theorem sc_lowest : FnScope N_lowest ["top", "bottom"] (defScope s_lowest) := ⟨rfl, rfl, rfl, by decide +kernel, rfl, by decide +kernel, by decide +kernel⟩
theorem ok_lowest {mg : Str → Option Value} {base : Heap} {C : CA} {f : Addr} {fd : FuncData} (T : CT C.K C) (TI : EvIs C.K C) (TE : CTE C.K C) (B : Bi mg C) (F : Fun C.K "lowest" "lowest" s_lowest f fd)  : FnOk C.P C.w C.K mg base CX0 1 f fd ["top", "bottom"] (sp_lowest C) := by
  refine F.ok sc_lowest (fun vs H Q E h => ?_) (fun cdv A outer s H vs Q E hr h => ⟨t_lowest C, ?_, rd_lowest h⟩)
  · obtain ⟨args, F, Qp, ha, _, ⟨_, _, rfl, _⟩, _⟩ := h
    exact args_len ha
  · exact (pss_cons (ps_set (i := 2) sc_lowest.nd rfl (Or.inl rfl) (pe_callBfun cr_gcd rfl B.g_gcd (pa_cons (pv 0) (pa_cons (pv 1) pa_nil)))) (pss_one (ps_ret (pe_tup (pa_cons (pe_op op_fdivW (pv 0) (pv 2)) (pa_cons (pe_op op_fdivW (pv 1) (pv 2)) pa_nil))))))

/-! ### added -/
abbrev s_added : Stmt := top 9
theorem sc_added : FnScope N_added ["fractions"] (defScope s_added) := ⟨rfl, rfl, rfl, by decide +kernel, rfl, by decide +kernel, by decide +kernel⟩
theorem ok_added {mg : Str → Option Value} {base : Heap} {C : CA} {f : Addr} {fd : FuncData} (T : CT C.K C) (TI : EvIs C.K C) (TE : CTE C.K C) (B : Bi mg C) (F : Fun C.K "added" "added" s_added f fd) (D_lowest : Okd C.P C.w C.K mg base 1 "lowest" ["top", "bottom"] (sp_lowest C)) (D_common_bottom : Okd C.P C.w C.K mg base 1 "common_bottom" ["fractions"] (sp_common_bottom C)) (D_in_units : Okd C.P C.w C.K mg base 1 "in_units" ["fractions", "shared"] (sp_in_units C)) : FnOk C.P C.w C.K mg base CX0 2 f fd ["fractions"] (sp_added C) := by
  refine F.ok sc_added (fun vs H Q E h => ?_) (fun cdv A outer s H vs Q E hr h => ⟨t_added C, ?_, rd_added h⟩)
  · obtain ⟨args, F, Qp, ha, _, ⟨_, rfl, _⟩, _⟩ := h
    exact args_len ha
  · exact (pss_cons (ps_set (i := 1) sc_added.nd rfl (Or.inl rfl) (pe_callD D_common_bottom (hr.mono (by decide)) (pa_cons (pv 0) pa_nil))) (pss_one (ps_ret (pe_callD D_lowest (hr.mono (by decide)) (pa_cons (pe_callB (cr_sum rfl) (by rfl) B.b_sum bt_sum (pa_cons (pe_callD D_in_units (hr.mono (by decide)) (pa_cons (pv 0) (pa_cons (pv 1) pa_nil))) pa_nil)) (pa_cons (pv 1) pa_nil))))))

/-! ### Evening.__init__ -/
abbrev s_Eveningu_initu : Stmt := inClass (top 16) 0
theorem sc_Eveningu_initu : FnScope N_Eveningu_initu ["self", "owed", "due"] (defScope s_Eveningu_initu) := ⟨rfl, rfl, rfl, by decide +kernel, rfl, by decide +kernel, by decide +kernel⟩
theorem ok_Eveningu_initu {mg : Str → Option Value} {base : Heap} {C : CA} {f : Addr} {fd : FuncData} (T : CT C.K C) (TI : EvIs C.K C) (TE : CTE C.K C) (B : Bi mg C) (F : Fun C.K "__init__" "Evening.__init__" s_Eveningu_initu f fd) (D_added : Okd C.P C.w C.K mg base 2 "added" ["fractions"] (sp_added C)) (D_q_is_side : Okd C.P C.w C.K mg base 4 "_is_side" ["thing"] (sp_q_is_side C)) : FnOk C.P C.w C.K mg base CX0 5 f fd ["self", "owed", "due"] (sp_Eveningu_initu C) := by
  refine F.ok sc_Eveningu_initu (fun vs H Q E h => ?_) (fun cdv A outer s H vs Q E hr h => ⟨t_Eveningu_initu C, ?_, rd_Eveningu_initu T h⟩)
  · obtain ⟨args, F, as, w, Qp, ha, _, _, _, ⟨_, _, rfl, _⟩, _⟩ := h
    exact args_len ha
  · exact (pss_cons (ps_if (pt_not (pt_val (pe_callD D_q_is_side (hr.mono (by decide)) (pa_cons (pv 1) pa_nil)))) (pss_one ps_never) pss_nil) (pss_cons (ps_if (pt_not (pt_val (pe_callD D_q_is_side (hr.mono (by decide)) (pa_cons (pv 2) pa_nil)))) (pss_one ps_never) pss_nil) (pss_cons (ps_if (pt_cmpR (op_neD hr.units) (pe_callD D_added (hr.mono (by decide)) (pa_cons (pv 1) pa_nil)) (pe_callD D_added (hr.mono (by decide)) (pa_cons (pv 2) pa_nil)) (nomark _)) (pss_one ps_never) pss_nil) (pss_cons (ps_fld (pv 0) (pv 1) rfl) (pss_one (ps_fld (pv 0) (pv 2) rfl))))))

/-! ### _law_made -/
abbrev s_L_made : Stmt := top 49
theorem sc_L_made : FnScope N_L_made ["_law_sums_here"] (defScope s_L_made) := ⟨rfl, rfl, rfl, by decide +kernel, rfl, by decide +kernel, by decide +kernel⟩
theorem ok_L_made {mg : Str → Option Value} {base : Heap} {C : CA} {f : Addr} {fd : FuncData} (T : CT C.K C) (TI : EvIs C.K C) (TE : CTE C.K C) (B : Bi mg C) (F : Fun C.K "_law_made" "_law_made" s_L_made f fd) (D_Eveningu_initu : Okm C.P C.w C.K mg base 5 "Evening" C.Evening ["self", "owed", "due"] (sp_Eveningu_initu C)) : FnOk C.P C.w C.K mg base CX0 7 f fd ["_law_sums_here"] (sp_L_made C) := by
  refine F.ok sc_L_made (fun vs H Q E h => ?_) (fun cdv A outer s H vs Q E hr h => ⟨t_L_made C, ?_, rd_L_made h⟩)
  · obtain ⟨args, F, Qp, ha, _, ⟨_, rfl, _⟩, _⟩ := h
    exact args_len ha
  · exact (pss_one (ps_ret (pe_makeD D_Eveningu_initu (hr.mono (by decide)) (pa_cons (pe_ix ix_tup (pv 0) pe_int (fun _ _ => rfl)) (pa_cons (pe_ix ix_tup (pv 0) pe_int (fun _ _ => rfl)) pa_nil)))))

/-! ### _figures -/
abbrev s_q_figures : Stmt := top 34
theorem sc_q_figures : FnScope N_q_figures ["number"] (defScope s_q_figures) := ⟨rfl, rfl, rfl, by decide +kernel, rfl, by decide +kernel, by decide +kernel⟩
theorem ok_q_figures {mg : Str → Option Value} {base : Heap} {C : CA} {f : Addr} {fd : FuncData} (T : CT C.K C) (TI : EvIs C.K C) (TE : CTE C.K C) (B : Bi mg C) (F : Fun C.K "_figures" "_figures" s_q_figures f fd)  : FnOk C.P C.w C.K mg base CX0 1 f fd ["number"] (sp_q_figures C) := by
  refine F.ok sc_q_figures (fun vs H Q E h => ?_) (fun cdv A outer s H vs Q E hr h => ⟨t_q_figures C, ?_, rd_q_figures h⟩)
  · obtain ⟨args, F, Qp, ha, _, ⟨_, rfl, _⟩, _⟩ := h
    exact args_len ha
  · exact (pss_cons (ps_set (i := 1) sc_q_figures.nd rfl (Or.inl rfl) (pe_lst pa_nil)) (pss_cons (ps_set (i := 2) sc_q_figures.nd rfl (Or.inl rfl) (pv 0)) (pss_cons (ps_while PassesOwn.never (pt_cmpR op_ge (pv 2) (pe_glob rfl B.g_CHUNK.choose_spec.1 B.g_CHUNK.choose_spec.2) (nomark _)) pss_never) (pss_cons (ps_expr (pe_bm PySem.F.plainAttrs_list PySem.F.slot_list_append PySem.F.type_list_append mt_append (pv 1) (pa_cons (pe_callTy cr_strI (by rfl) B.b_str bt_str (pa_cons (pv 2) pa_nil)) pa_nil))) (pss_one (ps_ret (pe_m1 PySem.F.slot_str_join PySem.F.type_str_join mt_joinS pe_str (pe_revL (pv 1)))))))))

/-! ### amount_text -/
abbrev s_amount_text : Stmt := top 33
theorem sc_amount_text : FnScope N_amount_text ["amount"] (defScope s_amount_text) := ⟨rfl, rfl, rfl, by decide +kernel, rfl, by decide +kernel, by decide +kernel⟩
theorem ok_amount_text {mg : Str → Option Value} {base : Heap} {C : CA} {f : Addr} {fd : FuncData} (T : CT C.K C) (TI : EvIs C.K C) (TE : CTE C.K C) (B : Bi mg C) (F : Fun C.K "amount_text" "amount_text" s_amount_text f fd) (D_q_figures : Okd C.P C.w C.K mg base 1 "_figures" ["number"] (sp_q_figures C)) : FnOk C.P C.w C.K mg base CX0 2 f fd ["amount"] (sp_amount_text C) := by
  refine F.ok sc_amount_text (fun vs H Q E h => ?_) (fun cdv A outer s H vs Q E hr h => ⟨t_amount_text C, ?_, rd_amount_text h⟩)
  · obtain ⟨args, F, Qp, ha, _, ⟨_, rfl, _⟩, _⟩ := h
    exact args_len ha
  · exact (pss_cons (ps_asg (pv 0) (pg_tup rfl (pgs_cons (pg_name (i := 1) sc_amount_text.nd rfl (Or.inl rfl)) (pgs_cons (pg_name (i := 2) sc_amount_text.nd rfl (Or.inl rfl)) pgs_nil)))) (pss_one (ps_ret (pe_ifExp (pt_cmpR op_eq (pv 2) pe_int (nomark _)) (pe_callD D_q_figures (hr.mono (by decide)) (pa_cons (pv 1) pa_nil)) (pe_op op_catS (pe_op op_catS (pe_callD D_q_figures (hr.mono (by decide)) (pa_cons (pv 1) pa_nil)) pe_str) (pe_callD D_q_figures (hr.mono (by decide)) (pa_cons (pv 2) pa_nil)))))))

/-! ### _side_text -/
abbrev s_q_side_text : Stmt := top 32
theorem sc_q_side_text : FnScope N_q_side_text ["word", "amounts"] (defScope s_q_side_text) := ⟨rfl, rfl, rfl, by decide +kernel, rfl, by decide +kernel, by decide +kernel⟩
theorem ok_q_side_text {mg : Str → Option Value} {base : Heap} {C : CA} {f : Addr} {fd : FuncData} (T : CT C.K C) (TI : EvIs C.K C) (TE : CTE C.K C) (B : Bi mg C) (F : Fun C.K "_side_text" "_side_text" s_q_side_text f fd) (D_amount_text : Okd C.P C.w C.K mg base 2 "amount_text" ["amount"] (sp_amount_text C)) : FnOk C.P C.w C.K mg base CX0 3 f fd ["word", "amounts"] (sp_q_side_text C) := by
  refine F.ok sc_q_side_text (fun vs H Q E h => ?_) (fun cdv A outer s H vs Q E hr h => ⟨t_q_side_text C, ?_, rd_q_side_text h⟩)
  · obtain ⟨args, F, Qp, ha, _, ⟨_, _, rfl, _⟩, _⟩ := h
    exact args_len ha
  · exact (pss_one (ps_ret (pe_op op_catS (pe_m1 PySem.F.slot_str_join PySem.F.type_str_join mt_joinS pe_str (pe_op op_cat (pe_lst (pa_cons (pv 0) pa_nil)) (pe_lc (own := [("amount", 2)]) (g := (gName 2)) (tt := tYes) rfl sc_q_side_text.nd (pi_tup (pv 1)) (blkOk_by (own := [("amount", 2)]) (N := N_q_side_text) (sc := defScope s_q_side_text) (by decide +kernel)) (fun _ _ _ _ _ => (pg_name (i := 2) sc_q_side_text.nd rfl (Or.inl rfl))) (fun _ _ _ _ _ => pts_nil) (fun _ _ _ _ _ => (pe_callD D_amount_text (hr.mono (by decide)) (pa_cons (pv 2) pa_nil)))))) pe_str)))

/-! ### evening_text -/
abbrev s_evening_text : Stmt := top 31
theorem sc_evening_text : FnScope N_evening_text ["evening"] (defScope s_evening_text) := ⟨rfl, rfl, rfl, by decide +kernel, rfl, by decide +kernel, by decide +kernel⟩
theorem ok_evening_text {mg : Str → Option Value} {base : Heap} {C : CA} {f : Addr} {fd : FuncData} (T : CT C.K C) (TI : EvIs C.K C) (TE : CTE C.K C) (B : Bi mg C) (F : Fun C.K "evening_text" "evening_text" s_evening_text f fd) (D_q_side_text : Okd C.P C.w C.K mg base 3 "_side_text" ["word", "amounts"] (sp_q_side_text C)) : FnOk C.P C.w C.K mg base CX0 4 f fd ["evening"] (sp_evening_text C) := by
  refine F.ok sc_evening_text (fun vs H Q E h => ?_) (fun cdv A outer s H vs Q E hr h => ⟨t_evening_text C, ?_, rd_evening_text T h⟩)
  · obtain ⟨args, F, Qp, ha, _, ⟨_, rfl, _⟩, _⟩ := h
    exact args_len ha
  · exact (pss_one (ps_ret (pe_op op_catS (pe_callD D_q_side_text (hr.mono (by decide)) (pa_cons pe_str (pa_cons (pe_fld (pv 0) rfl) pa_nil))) (pe_callD D_q_side_text (hr.mono (by decide)) (pa_cons pe_str (pa_cons (pe_fld (pv 0) rfl) pa_nil))))))

/-! ### _parted -/
abbrev s_q_parted : Stmt := top 24
theorem sc_q_parted : FnScope N_q_parted ["text"] (defScope s_q_parted) := ⟨rfl, rfl, rfl, by decide +kernel, rfl, by decide +kernel, by decide +kernel⟩
theorem ok_q_parted {mg : Str → Option Value} {base : Heap} {C : CA} {f : Addr} {fd : FuncData} (T : CT C.K C) (TI : EvIs C.K C) (TE : CTE C.K C) (B : Bi mg C) (F : Fun C.K "_parted" "_parted" s_q_parted f fd)  : FnOk C.P C.w C.K mg base CX0 1 f fd ["text"] (sp_q_parted C) := by
  refine F.ok sc_q_parted (fun vs H Q E h => ?_) (fun cdv A outer s H vs Q E hr h => ⟨t_q_parted C, ?_, rd_q_parted h⟩)
  · obtain ⟨args, F, Qp, ha, _, ⟨_, rfl, _⟩, _⟩ := h
    exact args_len ha
  · exact (pss_cons (ps_if (pt_not (pt_val (pe_callB call_isi (by rfl) B.b_isinstance bt_isinstance (pa_cons (pv 0) (pa_cons (pe_bltn (v := .ty "str") (by rfl) B.b_str bt_str rfl) pa_nil))))) (pss_one ps_never) pss_nil) (pss_one (ps_ret (pe_m1 PySem.F.slot_str_split PySem.F.type_str_split mt_splitS (pv 0) pe_str))))

/-! ### is_spelt_number -/
abbrev s_is_spelt_number : Stmt := top 20
theorem sc_is_spelt_number : FnScope N_is_spelt_number ["word", "most"] (defScope s_is_spelt_number) := ⟨rfl, rfl, rfl, by decide +kernel, rfl, by decide +kernel, by decide +kernel⟩
theorem ok_is_spelt_number {mg : Str → Option Value} {base : Heap} {C : CA} {f : Addr} {fd : FuncData} (T : CT C.K C) (TI : EvIs C.K C) (TE : CTE C.K C) (B : Bi mg C) (F : Fun C.K "is_spelt_number" "is_spelt_number" s_is_spelt_number f fd)  : FnOk C.P C.w C.K mg base CX0 1 f fd ["word", "most"] (sp_is_spelt_number C) := by
  refine F.ok sc_is_spelt_number (fun vs H Q E h => ?_) (fun cdv A outer s H vs Q E hr h => ⟨t_is_spelt_number C, ?_, rd_is_spelt_number h⟩)
  · obtain ⟨args, F, Qp, ha, _, ⟨_, _, rfl, _⟩, _⟩ := h
    exact args_len ha
  · exact (pss_cons (ps_if (PW.pt (pw_or (pt_not (pt_chain op_le op_le pe_int (pe_callB call_len (by rfl) B.b_len bt_len (pa_cons (pv 0) pa_nil)) (pv 1))) (pw_or1 (pt_not (pt_val (pe_callB (cr_all rfl) (by rfl) B.b_all bt_all (pa_cons (pe_lc (own := [("sign", 2)]) (g := (gName 2)) (tt := tYes) rfl sc_is_spelt_number.nd (pi_str (pv 0)) (blkOk_by (own := [("sign", 2)]) (N := N_is_spelt_number) (sc := defScope s_is_spelt_number) (by decide +kernel)) (fun _ _ _ _ _ => (pg_name (i := 2) sc_is_spelt_number.nd rfl (Or.inl rfl))) (fun _ _ _ _ _ => pts_nil) (fun _ _ _ _ _ => (pe_cmpR op_inSg (pv 2) (pe_glob rfl B.g_FIGURES.choose_spec.1 B.g_FIGURES.choose_spec.2) (by rfl)))) pa_nil))))))) (pss_one (ps_ret pe_bl)) pss_nil) (pss_one (ps_ret (pe_or (pe_cmpR op_eq (pv 0) pe_str (nomark _)) (pe_one (pe_cmpR op_ne (pe_ix ix_str (pv 0) pe_int (fun _ _ => rfl)) pe_str (nomark _)))))))

/-! ### _read_amount -/
abbrev s_q_read_amount : Stmt := top 27
theorem sc_q_read_amount : FnScope N_q_read_amount ["word"] (defScope s_q_read_amount) := ⟨rfl, rfl, rfl, by decide +kernel, rfl, by decide +kernel, by decide +kernel⟩
theorem ok_q_read_amount {mg : Str → Option Value} {base : Heap} {C : CA} {f : Addr} {fd : FuncData} (T : CT C.K C) (TI : EvIs C.K C) (TE : CTE C.K C) (B : Bi mg C) (F : Fun C.K "_read_amount" "_read_amount" s_q_read_amount f fd) (D_is_amount : Okd C.P C.w C.K mg base 3 "is_amount" ["thing"] (sp_is_amount C)) (D_is_spelt_number : Okd C.P C.w C.K mg base 1 "is_spelt_number" ["word", "most"] (sp_is_spelt_number C)) : FnOk C.P C.w C.K mg base CX0 4 f fd ["word"] (sp_q_read_amount C) := by
  refine F.ok sc_q_read_amount (fun vs H Q E h => ?_) (fun cdv A outer s H vs Q E hr h => ⟨t_q_read_amount C, ?_, rd_q_read_amount h⟩)
  · obtain ⟨args, F, Qp, ha, _, ⟨_, rfl, _⟩, _⟩ := h
    exact args_len ha
  · exact (pss_cons (ps_asg (pe_m1 PySem.F.slot_str_partition PySem.F.type_str_partition mt_partS (pv 0) pe_str) (pg_tup rfl (pgs_cons (pg_name (i := 1) sc_q_read_amount.nd rfl (Or.inl rfl)) (pgs_cons (pg_name (i := 2) sc_q_read_amount.nd rfl (Or.inl rfl)) (pgs_cons (pg_name (i := 3) sc_q_read_amount.nd rfl (Or.inl rfl)) pgs_nil))))) (pss_cons (ps_if (pt_not (pt_val (pe_callD D_is_spelt_number (hr.mono (by decide)) (pa_cons (pv 1) (pa_cons (pe_glob rfl B.g_AMOUNT_FIGURES.choose_spec.1 B.g_AMOUNT_FIGURES.choose_spec.2) pa_nil))))) (pss_one (ps_ret pe_non)) pss_nil) (pss_cons (ps_if (pt_cmpR op_eq (pv 2) pe_str (nomark _)) (pss_one (ps_set (i := 4) sc_q_read_amount.nd rfl (Or.inl rfl) (pe_tup (pa_cons (pe_callTy cr_intS (by rfl) B.b_int bt_int (pa_cons (pv 1) pa_nil)) (pa_cons pe_int pa_nil))))) (pss_one (ps_if (PW.pt (pw_and (pt_val (pe_callD D_is_spelt_number (hr.mono (by decide)) (pa_cons (pv 3) (pa_cons (pe_glob rfl B.g_AMOUNT_FIGURES.choose_spec.1 B.g_AMOUNT_FIGURES.choose_spec.2) pa_nil)))) (pw_and1 (pt_cmpR op_ne (pv 3) pe_str (nomark _))))) (pss_one (ps_set (i := 4) sc_q_read_amount.nd rfl (Or.inl rfl) (pe_tup (pa_cons (pe_callTy cr_intS (by rfl) B.b_int bt_int (pa_cons (pv 1) pa_nil)) (pa_cons (pe_callTy cr_intS (by rfl) B.b_int bt_int (pa_cons (pv 3) pa_nil)) pa_nil))))) (pss_one (ps_ret pe_non))))) (pss_one (ps_ret (pe_ifExp (pt_val (pe_callD D_is_amount (hr.mono (by decide)) (pa_cons (pv 4) pa_nil))) (pv 4) pe_non))))))

/-! ### _read_side -/
abbrev s_q_read_side : Stmt := top 26
theorem sc_q_read_side : FnScope N_q_read_side ["line", "word"] (defScope s_q_read_side) := ⟨rfl, rfl, rfl, by decide +kernel, rfl, by decide +kernel, by decide +kernel⟩
theorem ok_q_read_side {mg : Str → Option Value} {base : Heap} {C : CA} {f : Addr} {fd : FuncData} (T : CT C.K C) (TI : EvIs C.K C) (TE : CTE C.K C) (B : Bi mg C) (F : Fun C.K "_read_side" "_read_side" s_q_read_side f fd) (D_q_read_amount : Okd C.P C.w C.K mg base 4 "_read_amount" ["word"] (sp_q_read_amount C)) : FnOk C.P C.w C.K mg base CX0 5 f fd ["line", "word"] (sp_q_read_side C) := by
  refine F.ok sc_q_read_side (fun vs H Q E h => ?_) (fun cdv A outer s H vs Q E hr h => ⟨t_q_read_side C, ?_, rd_q_read_side h⟩)
  · obtain ⟨args, F, Qp, ha, _, ⟨_, _, rfl, _⟩, _⟩ := h
    exact args_len ha
  · exact (pss_cons (ps_set (i := 2) sc_q_read_side.nd rfl (Or.inl rfl) (pe_m1 PySem.F.slot_str_split PySem.F.type_str_split mt_splitS (pv 0) pe_str)) (pss_cons (ps_setLc (i := 3) (own := [("each", 4)]) (g := (gName 4)) (tt := tYes) rfl sc_q_read_side.nd rfl rfl (sw_true rfl rfl rfl (by decide +kernel)) (pi_list (pe_slice sl_list (pv 2) (po_some pe_int) po_none)) (blkOk_by (own := [("each", 4)]) (N := N_q_read_side) (sc := defScope s_q_read_side) (by decide +kernel)) (fun _ _ _ _ _ => (pg_name (i := 4) sc_q_read_side.nd rfl (Or.inl rfl))) (fun _ _ _ _ _ => pts_nil) (fun _ _ _ _ _ => (pe_callD D_q_read_amount (hr.mono (by decide)) (pa_cons (pv 4) pa_nil)))) (pss_cons (ps_if (PW.pt (pw_or (pt_cmpR op_ne (pe_ix ix_list (pv 2) pe_int (fun _ _ => rfl)) (pv 1) (nomark _)) (pw_or (pt_not (pt_truth (pv 3) (fun _ => rfl))) (pw_or1 (pt_cmpR (op_inD hr.units65) pe_non (pv 3) (by rfl)))))) (pss_one (ps_ret pe_non)) pss_nil) (pss_one (ps_ret (pe_callTy call_tuple_of (by rfl) B.b_tuple bt_tuple (pa_cons (pv 3) pa_nil)))))))

/-! ### read_evening -/
abbrev s_read_evening : Stmt := top 25
theorem sc_read_evening : FnScope N_read_evening ["text"] (defScope s_read_evening) := ⟨rfl, rfl, rfl, by decide +kernel, rfl, by decide +kernel, by decide +kernel⟩
theorem ok_read_evening {mg : Str → Option Value} {base : Heap} {C : CA} {f : Addr} {fd : FuncData} (T : CT C.K C) (TI : EvIs C.K C) (TE : CTE C.K C) (B : Bi mg C) (F : Fun C.K "read_evening" "read_evening" s_read_evening f fd) (D_q_parted : Okd C.P C.w C.K mg base 1 "_parted" ["text"] (sp_q_parted C)) (D_q_read_side : Okd C.P C.w C.K mg base 5 "_read_side" ["line", "word"] (sp_q_read_side C)) (D_Eveningu_initu : Okm C.P C.w C.K mg base 5 "Evening" C.Evening ["self", "owed", "due"] (sp_Eveningu_initu C)) : FnOk C.P C.w C.K mg base CX0 7 f fd ["text"] (sp_read_evening C) := by
  refine F.ok sc_read_evening (fun vs H Q E h => ?_) (fun cdv A outer s H vs Q E hr h => ⟨t_read_evening C, ?_, rd_read_evening h⟩)
  · obtain ⟨args, F, Qp, ha, _, ⟨_, rfl, _⟩, _⟩ := h
    exact args_len ha
  · exact (pss_cons (ps_set (i := 1) sc_read_evening.nd rfl (Or.inl rfl) (pe_callD D_q_parted (hr.mono (by decide)) (pa_cons (pv 0) pa_nil))) (pss_cons (ps_set (i := 2) sc_read_evening.nd rfl (Or.inl rfl) (pe_lst pa_nil)) (pss_cons (ps_for PassesOwn.never rfl (pi_enum rfl B.b_enumerate (pa_cons (pe_slice sl_list (pv 1) po_none (po_some (pe_un un_neg pe_int))) pa_nil)) (pg_tup rfl (pgs_cons (pg_name (i := 3) sc_read_evening.nd rfl (Or.inl rfl)) (pgs_cons (pg_name (i := 4) sc_read_evening.nd rfl (Or.inl rfl)) pgs_nil))) (pss_cons (ps_set (i := 5) sc_read_evening.nd rfl (Or.inl rfl) (pe_ifExp (pt_cmpR op_lt (pv 3) (pe_callB call_len (by rfl) B.b_len bt_len (pa_cons (pe_globT B.g_SIDES.choose_spec.1 B.g_SIDES.choose_spec.2) pa_nil)) (nomark _)) (pe_callD D_q_read_side (hr.mono (by decide)) (pa_cons (pv 4) (pa_cons (pe_ix ix_tup (pe_globT B.g_SIDES.choose_spec.1 B.g_SIDES.choose_spec.2) (pv 3) (fun _ _ => rfl)) pa_nil))) pe_non)) (pss_cons (ps_if (pt_cmpR op_isN (pv 5) pe_non (nomark _)) (pss_one ps_never) pss_nil) (pss_one (ps_expr (pe_bm PySem.F.plainAttrs_list PySem.F.slot_list_append PySem.F.type_list_append mt_append (pv 2) (pa_cons (pv 5) pa_nil))))))) (pss_cons (ps_if (PW.pt (pw_or (pt_cmpR op_lt (pe_callB call_len (by rfl) B.b_len bt_len (pa_cons (pv 2) pa_nil)) (pe_callB call_len (by rfl) B.b_len bt_len (pa_cons (pe_globT B.g_SIDES.choose_spec.1 B.g_SIDES.choose_spec.2) pa_nil)) (nomark _)) (pw_or1 (pt_cmpR op_ne (pe_ix ix_list (pv 1) (pe_un un_neg pe_int) (fun _ _ => rfl)) pe_str (nomark _))))) (pss_one ps_never) pss_nil) (pss_cons (ps_asg (pv 2) (pg_unl rfl (pgs_cons (pg_name (i := 6) sc_read_evening.nd rfl (Or.inl rfl)) (pgs_cons (pg_name (i := 7) sc_read_evening.nd rfl (Or.inl rfl)) pgs_nil)))) (pss_one (ps_ret (pe_makeD D_Eveningu_initu (hr.mono (by decide)) (pa_cons (pv 6) (pa_cons (pv 7) pa_nil))))))))))

/-! ### _law_amount_text -/
abbrev s_L_amount_text : Stmt := top 50
theorem sc_L_amount_text : FnScope N_L_amount_text ["_law_amount"] (defScope s_L_amount_text) := ⟨rfl, rfl, rfl, by decide +kernel, rfl, by decide +kernel, by decide +kernel⟩
theorem ok_L_amount_text {mg : Str → Option Value} {base : Heap} {C : CA} {f : Addr} {fd : FuncData} (T : CT C.K C) (TI : EvIs C.K C) (TE : CTE C.K C) (B : Bi mg C) (F : Fun C.K "_law_amount_text" "_law_amount_text" s_L_amount_text f fd)  : FnOk C.P C.w C.K mg base CX0 1 f fd ["_law_amount"] (sp_L_amount_text C) := by
  refine F.ok sc_L_amount_text (fun vs H Q E h => ?_) (fun cdv A outer s H vs Q E hr h => ⟨t_L_amount_text C, ?_, rd_L_amount_text h⟩)
  · obtain ⟨args, F, Qp, ha, _, ⟨_, rfl, _⟩, _⟩ := h
    exact args_len ha
  · exact (pss_cons (ps_if (pt_cmpR op_eq (pe_ix ix_tup (pv 0) pe_int (fun _ _ => rfl)) pe_int (nomark _)) (pss_one (ps_ret (pe_callTy cr_strI (by rfl) B.b_str bt_str (pa_cons (pe_ix ix_tup (pv 0) pe_int (fun _ _ => rfl)) pa_nil)))) pss_nil) (pss_one (ps_ret (pe_op op_catS (pe_op op_catS (pe_callTy cr_strI (by rfl) B.b_str bt_str (pa_cons (pe_ix ix_tup (pv 0) pe_int (fun _ _ => rfl)) pa_nil)) pe_str) (pe_callTy cr_strI (by rfl) B.b_str bt_str (pa_cons (pe_ix ix_tup (pv 0) pe_int (fun _ _ => rfl)) pa_nil))))))

/-! ### _law_text -/
abbrev s_L_text : Stmt := top 51
theorem sc_L_text : FnScope N_L_text ["_law_sums_here"] (defScope s_L_text) := ⟨rfl, rfl, rfl, by decide +kernel, rfl, by decide +kernel, by decide +kernel⟩
theorem ok_L_text {mg : Str → Option Value} {base : Heap} {C : CA} {f : Addr} {fd : FuncData} (T : CT C.K C) (TI : EvIs C.K C) (TE : CTE C.K C) (B : Bi mg C) (F : Fun C.K "_law_text" "_law_text" s_L_text f fd) (D_L_amount_text : Okd C.P C.w C.K mg base 1 "_law_amount_text" ["_law_amount"] (sp_L_amount_text C)) : FnOk C.P C.w C.K mg base CX0 2 f fd ["_law_sums_here"] (sp_L_text C) := by
  refine F.ok sc_L_text (fun vs H Q E h => ?_) (fun cdv A outer s H vs Q E hr h => ⟨t_L_text C, ?_, rd_L_text h⟩)
  · obtain ⟨args, F, Qp, ha, _, ⟨_, rfl, _⟩, _⟩ := h
    exact args_len ha
  · exact (pss_cons (ps_set (i := 1) sc_L_text.nd rfl (Or.inl rfl) (pe_op op_catS (pe_m1 PySem.F.slot_str_join PySem.F.type_str_join mt_joinS pe_str (pe_op op_cat (pe_lst (pa_cons pe_str pa_nil)) (pe_lc (own := [("_law_item", 2)]) (g := (gName 2)) (tt := tYes) rfl sc_L_text.nd (pi_tup (pe_ix ix_tup (pv 0) pe_int (fun _ _ => rfl))) (blkOk_by (own := [("_law_item", 2)]) (N := N_L_text) (sc := defScope s_L_text) (by decide +kernel)) (fun _ _ _ _ _ => (pg_name (i := 2) sc_L_text.nd rfl (Or.inl rfl))) (fun _ _ _ _ _ => pts_nil) (fun _ _ _ _ _ => (pe_callD D_L_amount_text (hr.mono (by decide)) (pa_cons (pv 2) pa_nil)))))) pe_str)) (pss_one (ps_ret (pe_op op_catS (pe_op op_catS (pv 1) (pe_m1 PySem.F.slot_str_join PySem.F.type_str_join mt_joinS pe_str (pe_op op_cat (pe_lst (pa_cons pe_str pa_nil)) (pe_lc (own := [("_law_item", 2)]) (g := (gName 2)) (tt := tYes) rfl sc_L_text.nd (pi_tup (pe_ix ix_tup (pv 0) pe_int (fun _ _ => rfl))) (blkOk_by (own := [("_law_item", 2)]) (N := N_L_text) (sc := defScope s_L_text) (by decide +kernel)) (fun _ _ _ _ _ => (pg_name (i := 2) sc_L_text.nd rfl (Or.inl rfl))) (fun _ _ _ _ _ => pts_nil) (fun _ _ _ _ _ => (pe_callD D_L_amount_text (hr.mono (by decide)) (pa_cons (pv 2) pa_nil))))))) pe_str))))

/-! ### Evening.__eq__ -/
abbrev s_Eveningu_equ : Stmt := inClass (top 16) 1
theorem sc_Eveningu_equ : FnScope N_Eveningu_equ ["self", "other"] (defScope s_Eveningu_equ) := ⟨rfl, rfl, rfl, by decide +kernel, rfl, by decide +kernel, by decide +kernel⟩
theorem ok_Eveningu_equ {mg : Str → Option Value} {base : Heap} {C : CA} {f : Addr} {fd : FuncData} (T : CT C.K C) (TI : EvIs C.K C) (TE : CTE C.K C) (B : Bi mg C) (F : Fun C.K "__eq__" "Evening.__eq__" s_Eveningu_equ f fd)  : FnOk C.P C.w C.K mg base CX0 1 f fd ["self", "other"] (sp_Eveningu_equ C) := by
  refine F.ok sc_Eveningu_equ (fun vs H Q E h => ?_) (fun cdv A outer s H vs Q E hr h => ⟨t_Eveningu_equ C, ?_, rd_Eveningu_equ T TI h⟩)
  · obtain ⟨args, F, Qp, ha, _, ⟨_, _, rfl, _⟩, _⟩ := h
    exact args_len ha
  · exact (pss_one (ps_ret (pe_and (pe_callB call_isi (by rfl) B.b_isinstance bt_isinstance (pa_cons (pv 1) (pa_cons (pe_glob rfl B.g_Evening rfl) pa_nil))) (pe_and (pe_cmpR (op_eqD hr.units) (pe_fld (pv 0) rfl) (pe_fld (pv 1) rfl) (nomark _)) (pe_one (pe_cmpR (op_eqD hr.units) (pe_fld (pv 0) rfl) (pe_fld (pv 1) rfl) (nomark _)))))))

/-! ### law -/
abbrev s_law : Stmt := top 53
theorem sc_law : FnScope N_law ["_law_script"] (defScope s_law) := ⟨rfl, rfl, rfl, by decide +kernel, rfl, by decide +kernel, by decide +kernel⟩
theorem ok_law {mg : Str → Option Value} {base : Heap} {C : CA} {f : Addr} {fd : FuncData} (T : CT C.K C) (TI : EvIs C.K C) (TE : CTE C.K C) (B : Bi mg C) (F : Fun C.K "law" "law" s_law f fd) (D_read_evening : Okd C.P C.w C.K mg base 7 "read_evening" ["text"] (sp_read_evening C)) (D_evening_text : Okd C.P C.w C.K mg base 4 "evening_text" ["evening"] (sp_evening_text C)) (D_L_hand : Okd C.P C.w C.K mg base 1 "_law_hand" ["_law_script"] (sp_L_hand C)) (D_L_draw : Okd C.P C.w C.K mg base 1 "_law_draw" ["_law_hand_here", "_law_many"] (sp_L_draw C)) (D_L_sums : Okd C.P C.w C.K mg base 4 "_law_sums" ["_law_hand_here", "_law_side", "_law_most"] (sp_L_sums C)) (D_L_made : Okd C.P C.w C.K mg base 7 "_law_made" ["_law_sums_here"] (sp_L_made C)) (D_L_text : Okd C.P C.w C.K mg base 2 "_law_text" ["_law_sums_here"] (sp_L_text C)) (D_Eveningu_equ : Okf C.P C.w C.K mg base 1 "__eq__" C.Evening ["self", "other"] (sp_Eveningu_equ C)) : FnOk C.P C.w C.K mg base CX0 8 f fd ["_law_script"] (sp_law C) := by
  obtain ⟨⟨fEveningu_equ, fdEveningu_equ, MEveningu_equ, GEveningu_equ, bEveningu_equ⟩, cEveningu_equ⟩ := D_Eveningu_equ
  refine F.ok sc_law (fun vs H Q E h => ?_) (fun cdv A outer s H vs Q E hr h => ⟨t_law C, ?_, rd_law T TE h⟩)
  · obtain ⟨args, F, Qp, ha, _, ⟨_, rfl, _⟩, _⟩ := h
    exact args_len ha
  · exact (pss_cons (ps_set (i := 1) sc_law.nd rfl (Or.inl rfl) (pe_callD D_L_hand (hr.mono (by decide)) (pa_cons (pv 0) pa_nil))) (pss_cons (ps_for PassesOwn.never rfl (pi_range1 rfl B.b_range (pa_cons pe_int pa_nil)) (pg_name (i := 2) sc_law.nd rfl (Or.inl rfl)) (pss_cons (ps_set (i := 3) sc_law.nd rfl (Or.inl rfl) (pe_callD D_L_sums (hr.mono (by decide)) (pa_cons (pv 1) (pa_cons (pe_ix ix_list (pe_lst (pa_cons pe_int (pa_cons pe_int (pa_cons pe_int (pa_cons pe_int pa_nil))))) (pe_callD D_L_draw (hr.mono (by decide)) (pa_cons (pv 1) (pa_cons pe_int pa_nil))) (fun _ _ => rfl)) (pa_cons (pe_ix ix_list (pe_lst (pa_cons pe_int (pa_cons (pe_op op_pow pe_int pe_int) pa_nil))) (pe_callD D_L_draw (hr.mono (by decide)) (pa_cons (pv 1) (pa_cons pe_int pa_nil))) (fun _ _ => rfl)) pa_nil))))) (pss_cons (ps_set (i := 4) sc_law.nd rfl (Or.inl rfl) (pe_ix ix_list (pe_lst (pa_cons (pv 3) (pa_cons (pe_tup (pa_cons (pe_ix ix_tup (pv 3) pe_int (fun _ _ => rfl)) (pa_cons (pe_ix ix_tup (pv 3) pe_int (fun _ _ => rfl)) pa_nil))) (pa_cons (pe_tup (pa_cons (pe_op op_catA (pe_slice sl_tupA (pe_ix ix_tup (pv 3) pe_int (fun _ _ => rfl)) (po_some pe_int) po_none) (pe_slice sl_tupA (pe_ix ix_tup (pv 3) pe_int (fun _ _ => rfl)) po_none (po_some pe_int))) (pa_cons (pe_ix ix_tup (pv 3) pe_int (fun _ _ => rfl)) pa_nil))) pa_nil)))) (pe_callD D_L_draw (hr.mono (by decide)) (pa_cons (pv 1) (pa_cons pe_int pa_nil))) (fun _ _ => rfl))) (pss_cons (ps_for PassesOwn.never rfl (pi_list (pe_lst (pa_cons (pv 3) (pa_cons (pv 4) pa_nil)))) (pg_name (i := 5) sc_law.nd rfl (Or.inl rfl)) (pss_cons (ps_set (i := 6) sc_law.nd rfl (Or.inl rfl) (pe_callD D_evening_text (hr.mono (by decide)) (pa_cons (pe_callD D_L_made (hr.mono (by decide)) (pa_cons (pv 5) pa_nil)) pa_nil))) (pss_cons (ps_set (i := 7) sc_law.nd rfl (Or.inl rfl) (pe_callD D_read_evening (hr.mono (by decide)) (pa_cons (pv 6) pa_nil))) (pss_one (ps_if (PW.pt (pw_or (pt_cmpR op_ne (pv 6) (pe_callD D_L_text (hr.mono (by decide)) (pa_cons (pv 5) pa_nil)) (nomark _)) (pw_or (pt_cmpR (op_ownNe TE.mo TE.ne MEveningu_equ GEveningu_equ bEveningu_equ (hr.mono (by decide))) (pv 7) (pe_callD D_L_made (hr.mono (by decide)) (pa_cons (pv 5) pa_nil)) (nomark _)) (pw_or1 (pt_cmpR (op_neD hr.units) (pe_tup (pa_cons (pe_fld (pv 7) rfl) (pa_cons (pe_fld (pv 7) rfl) pa_nil))) (pv 5) (nomark _)))))) (pss_one (ps_ret pe_bl)) pss_nil))))) (pss_one (ps_if (pt_cmpR op_ne (pe_cmpR op_eq (pe_callD D_evening_text (hr.mono (by decide)) (pa_cons (pe_callD D_L_made (hr.mono (by decide)) (pa_cons (pv 3) pa_nil)) pa_nil)) (pe_callD D_evening_text (hr.mono (by decide)) (pa_cons (pe_callD D_L_made (hr.mono (by decide)) (pa_cons (pv 4) pa_nil)) pa_nil)) (nomark _)) (pe_cmpR (op_eqD hr.units) (pv 3) (pv 4) (nomark _)) (nomark _)) (pss_one (ps_ret pe_bl)) pss_nil)))))) (pss_one (ps_ret pe_bl))))

def sp_top (K : PySem.W.Frag) : Sp := fun vs H Q _ => ∃ (a : Addr) (ns : List Int), vs = [.ref a] ∧ SqL K H a (ns.map V.int) ∧ ns.length ≤ 63 ∧ ∀ H', Q (.bl true) H'
theorem law_top {C : CA} (vs : List V) (H : Hp) (Q : VK) (E : XK) (h : sp_top C.K vs H Q E) : sp_law C vs H Q E := by
  obtain ⟨a, ns, rfl, hs, hl, q⟩ := h
  have fin : ∀ (F : Rg), (∀ b, F b → H b ≠ none) → Rp.rp C F H (.ref a) (Scr.mk ns) → sp_law C [.ref a] H Q E := fun F al r =>
    ⟨[.dat (Scr.mk ns)], F, fun r => r = true, ⟨r, rfl⟩, al, ⟨Scr.mk ns, rfl, x_law⟩, fun r v F' H' hr _ rr => by
      subst hr
      have rr : v = .bl true := rr
      subst rr
      exact q H'⟩
  rcases hs with hs | hs
  · refine fin (fun b => b = a) (fun b e => ?_) ⟨a, rfl, hl, .inl ⟨rfl, hs⟩⟩
    subst e
    rcases hs with hs | ⟨o, hs⟩
    · rw [hs]; exact fun z => by cases z
    · rw [hs]; exact fun z => by cases z
  · exact fin (fun _ => False) (fun _ f => f.elim) ⟨a, rfl, hl, .inr fun _ => .inr hs⟩
theorem all_mk {l : PySem.W.OpenLaw} {w : World} {K : PySem.W.Frag} {h : Heap} {mg : Str → Option Value} {fa cEvening : Addr} {u_AMOUNT_FIGURES u_CHUNK u_FIGURES u_MOST_SUMS : Value} {a_SIDES : Addr} {ob_SIDES : Obj} {f_L_draw : Addr} {od_L_draw an_L_draw : Option Addr} {oc_L_draw kV_L_draw doc_L_draw pm_L_draw cdv_L_draw ct_L_draw : Value} {osl_L_draw : Array (Option Value)} {f_L_hand : Addr} {od_L_hand an_L_hand : Option Addr} {oc_L_hand kV_L_hand doc_L_hand pm_L_hand cdv_L_hand ct_L_hand : Value} {osl_L_hand : Array (Option Value)} {f_L_cut : Addr} {od_L_cut an_L_cut : Option Addr} {oc_L_cut kV_L_cut doc_L_cut pm_L_cut cdv_L_cut ct_L_cut : Value} {osl_L_cut : Array (Option Value)} {f_L_numbers : Addr} {od_L_numbers an_L_numbers : Option Addr} {oc_L_numbers kV_L_numbers doc_L_numbers pm_L_numbers cdv_L_numbers ct_L_numbers : Value} {osl_L_numbers : Array (Option Value)} {f_L_unit : Addr} {od_L_unit an_L_unit : Option Addr} {oc_L_unit kV_L_unit doc_L_unit pm_L_unit cdv_L_unit ct_L_unit : Value} {osl_L_unit : Array (Option Value)} {f_L_common : Addr} {od_L_common an_L_common : Option Addr} {oc_L_common kV_L_common doc_L_common pm_L_common cdv_L_common ct_L_common : Value} {osl_L_common : Array (Option Value)} {f_L_fraction : Addr} {od_L_fraction an_L_fraction : Option Addr} {oc_L_fraction kV_L_fraction doc_L_fraction pm_L_fraction cdv_L_fraction ct_L_fraction : Value} {osl_L_fraction : Array (Option Value)} {f_L_times : Addr} {od_L_times an_L_times : Option Addr} {oc_L_times kV_L_times doc_L_times pm_L_times cdv_L_times ct_L_times : Value} {osl_L_times : Array (Option Value)} {f_L_sums : Addr} {od_L_sums an_L_sums : Option Addr} {oc_L_sums kV_L_sums doc_L_sums pm_L_sums cdv_L_sums ct_L_sums : Value} {osl_L_sums : Array (Option Value)} {f_is_integer : Addr} {od_is_integer an_is_integer : Option Addr} {oc_is_integer kV_is_integer doc_is_integer pm_is_integer cdv_is_integer ct_is_integer : Value} {osl_is_integer : Array (Option Value)} {f_is_fraction : Addr} {od_is_fraction an_is_fraction : Option Addr} {oc_is_fraction kV_is_fraction doc_is_fraction pm_is_fraction cdv_is_fraction ct_is_fraction : Value} {osl_is_fraction : Array (Option Value)} {f_is_amount : Addr} {od_is_amount an_is_amount : Option Addr} {oc_is_amount kV_is_amount doc_is_amount pm_is_amount cdv_is_amount ct_is_amount : Value} {osl_is_amount : Array (Option Value)} {f_q_is_side : Addr} {od_q_is_side an_q_is_side : Option Addr} {oc_q_is_side kV_q_is_side doc_q_is_side pm_q_is_side cdv_q_is_side ct_q_is_side : Value} {osl_q_is_side : Array (Option Value)} {f_common_bottom : Addr} {od_common_bottom an_common_bottom : Option Addr} {oc_common_bottom kV_common_bottom doc_common_bottom pm_common_bottom cdv_common_bottom ct_common_bottom : Value} {osl_common_bottom : Array (Option Value)} {f_in_units : Addr} {od_in_units an_in_units : Option Addr} {oc_in_units kV_in_units doc_in_units pm_in_units cdv_in_units ct_in_units : Value} {osl_in_units : Array (Option Value)} {f_lowest : Addr} {od_lowest an_lowest : Option Addr} {oc_lowest kV_lowest doc_lowest pm_lowest cdv_lowest ct_lowest : Value} {osl_lowest : Array (Option Value)} {f_added : Addr} {od_added an_added : Option Addr} {oc_added kV_added doc_added pm_added cdv_added ct_added : Value} {osl_added : Array (Option Value)} {f_Eveningu_initu : Addr} {od_Eveningu_initu an_Eveningu_initu : Option Addr} {oc_Eveningu_initu kV_Eveningu_initu doc_Eveningu_initu pm_Eveningu_initu cdv_Eveningu_initu ct_Eveningu_initu : Value} {osl_Eveningu_initu : Array (Option Value)} {f_L_made : Addr} {od_L_made an_L_made : Option Addr} {oc_L_made kV_L_made doc_L_made pm_L_made cdv_L_made ct_L_made : Value} {osl_L_made : Array (Option Value)} {f_q_figures : Addr} {od_q_figures an_q_figures : Option Addr} {oc_q_figures kV_q_figures doc_q_figures pm_q_figures cdv_q_figures ct_q_figures : Value} {osl_q_figures : Array (Option Value)} {f_amount_text : Addr} {od_amount_text an_amount_text : Option Addr} {oc_amount_text kV_amount_text doc_amount_text pm_amount_text cdv_amount_text ct_amount_text : Value} {osl_amount_text : Array (Option Value)} {f_q_side_text : Addr} {od_q_side_text an_q_side_text : Option Addr} {oc_q_side_text kV_q_side_text doc_q_side_text pm_q_side_text cdv_q_side_text ct_q_side_text : Value} {osl_q_side_text : Array (Option Value)} {f_evening_text : Addr} {od_evening_text an_evening_text : Option Addr} {oc_evening_text kV_evening_text doc_evening_text pm_evening_text cdv_evening_text ct_evening_text : Value} {osl_evening_text : Array (Option Value)} {f_q_parted : Addr} {od_q_parted an_q_parted : Option Addr} {oc_q_parted kV_q_parted doc_q_parted pm_q_parted cdv_q_parted ct_q_parted : Value} {osl_q_parted : Array (Option Value)} {f_is_spelt_number : Addr} {od_is_spelt_number an_is_spelt_number : Option Addr} {oc_is_spelt_number kV_is_spelt_number doc_is_spelt_number pm_is_spelt_number cdv_is_spelt_number ct_is_spelt_number : Value} {osl_is_spelt_number : Array (Option Value)} {f_q_read_amount : Addr} {od_q_read_amount an_q_read_amount : Option Addr} {oc_q_read_amount kV_q_read_amount doc_q_read_amount pm_q_read_amount cdv_q_read_amount ct_q_read_amount : Value} {osl_q_read_amount : Array (Option Value)} {f_q_read_side : Addr} {od_q_read_side an_q_read_side : Option Addr} {oc_q_read_side kV_q_read_side doc_q_read_side pm_q_read_side cdv_q_read_side ct_q_read_side : Value} {osl_q_read_side : Array (Option Value)} {f_read_evening : Addr} {od_read_evening an_read_evening : Option Addr} {oc_read_evening kV_read_evening doc_read_evening pm_read_evening cdv_read_evening ct_read_evening : Value} {osl_read_evening : Array (Option Value)} {f_L_amount_text : Addr} {od_L_amount_text an_L_amount_text : Option Addr} {oc_L_amount_text kV_L_amount_text doc_L_amount_text pm_L_amount_text cdv_L_amount_text ct_L_amount_text : Value} {osl_L_amount_text : Array (Option Value)} {f_L_text : Addr} {od_L_text an_L_text : Option Addr} {oc_L_text kV_L_text doc_L_text pm_L_text cdv_L_text ct_L_text : Value} {osl_L_text : Array (Option Value)} {f_Eveningu_equ : Addr} {od_Eveningu_equ an_Eveningu_equ : Option Addr} {oc_Eveningu_equ kV_Eveningu_equ doc_Eveningu_equ pm_Eveningu_equ cdv_Eveningu_equ ct_Eveningu_equ : Value} {osl_Eveningu_equ : Array (Option Value)} {f_law : Addr} {od_law an_law : Option Addr} {oc_law kV_law doc_law pm_law cdv_law ct_law : Value} {osl_law : Array (Option Value)} (X : K.In h) (G : h.Ns mainGlobals mg) (hfa : mg "law" = some (.ref fa))
    (h_Evening : PySem.W.nsIn K mainGlobals "Evening" = some (some (.ref cEvening)))
    (pg_Evening : PySem.W.plainGet K cEvening Str.empty = true)
    (hd_Evening : PySem.W.hasDictIn K cEvening = true)
    (po_Evening : PySem.W.plainOver K cEvening = true)
    (sa_Evening : PySem.W.findIn K (.ref cEvening) "__setattr__" = some (some (.builtin "object.__setattr__")))
    (mk_Evening : PySem.W.makesIn K cEvening = true)
    (kc_Evening : PySem.W.keepIn K (.ref cEvening) = true)
    (cl_Evening_ : PySem.W.findIn K (.ref cEvening) "__class__" = some (some (.builtin "object.__class__")))
    (ge_Evening : PySem.W.specialIn K (.builtin "object.__class__") "__get__" = some (some (.builtin "getset_descriptor.__get__")))
    (se_Evening : PySem.W.takesIn K (.builtin "object.__class__") = some true)
    (mr_Evening : PySem.W.mroIn K cEvening (.type "object") = some true)
    (k1_tuple : PySem.W.mroIn K cEvening (.type "tuple") = some false)
    (k1_int : PySem.W.mroIn K cEvening (.type "int") = some false)
    (k1_bool : PySem.W.mroIn K cEvening (.type "bool") = some false)
    (k1_list : PySem.W.mroIn K cEvening (.type "list") = some false)
    (k1_dict : PySem.W.mroIn K cEvening (.type "dict") = some false)
    (k1_str : PySem.W.mroIn K cEvening (.type "str") = some false)
    (ne_Evening : PySem.W.findIn K (.ref cEvening) "__ne__" = some (some (.builtin "object.__ne__")))
    (na_nO : PySem.W.findIn K (.ref cEvening) "owed" = some none)
    (na_nD : PySem.W.findIn K (.ref cEvening) "due" = some none)
    (z_abs : PySem.W.nsIn K mainGlobals "abs" = some none)
    (z_all : PySem.W.nsIn K mainGlobals "all" = some none)
    (z_bool : PySem.W.nsIn K mainGlobals "bool" = some none)
    (z_enumerate : PySem.W.nsIn K mainGlobals "enumerate" = some none)
    (z_int : PySem.W.nsIn K mainGlobals "int" = some none)
    (z_isinstance : PySem.W.nsIn K mainGlobals "isinstance" = some none)
    (z_len : PySem.W.nsIn K mainGlobals "len" = some none)
    (z_max : PySem.W.nsIn K mainGlobals "max" = some none)
    (z_min : PySem.W.nsIn K mainGlobals "min" = some none)
    (z_range : PySem.W.nsIn K mainGlobals "range" = some none)
    (z_str : PySem.W.nsIn K mainGlobals "str" = some none)
    (z_sum : PySem.W.nsIn K mainGlobals "sum" = some none)
    (z_tuple : PySem.W.nsIn K mainGlobals "tuple" = some none)
    (z_AMOUNT_FIGURES : PySem.W.nsIn K mainGlobals "AMOUNT_FIGURES" = some (some u_AMOUNT_FIGURES))
    (r_AMOUNT_FIGURES : RelV (.int 40) u_AMOUNT_FIGURES)
    (z_CHUNK : PySem.W.nsIn K mainGlobals "CHUNK" = some (some u_CHUNK))
    (r_CHUNK : RelV (.int 1000000000000000000000000000000000000000000000000000000000000) u_CHUNK)
    (z_FIGURES : PySem.W.nsIn K mainGlobals "FIGURES" = some (some u_FIGURES))
    (r_FIGURES : RelV (.str "0123456789") u_FIGURES)
    (z_MOST_SUMS : PySem.W.nsIn K mainGlobals "MOST_SUMS" = some (some u_MOST_SUMS))
    (r_MOST_SUMS : RelV (.int 100) u_MOST_SUMS)
    (z_SIDES : PySem.W.nsIn K mainGlobals "SIDES" = some (some (.ref a_SIDES)))
    (lk_SIDES : K.lookup a_SIDES = some ob_SIDES)
    (r_SIDES : KObj ob_SIDES [("owed" : Str), ("due" : Str)])
    (z_gcd : PySem.W.nsIn K mainGlobals "gcd" = some (some (.builtin "math.gcd")))
    (z_lcm : PySem.W.nsIn K mainGlobals "lcm" = some (some (.builtin "math.lcm")))
    (a_L_draw : PySem.W.nsIn K mainGlobals "_law_draw" = some (some (.ref f_L_draw)))
    (l_L_draw : K.lookup f_L_draw = some ⟨oc_L_draw, od_L_draw, .func (PySem.W.fnOf "_law_draw" "_law_draw" (defArgs s_L_draw) (defBody s_L_draw) (defScope s_L_draw) .none kV_L_draw doc_L_draw pm_L_draw an_L_draw cdv_L_draw ct_L_draw), osl_L_draw⟩)
    (c_L_draw : PySem.W.codeIn K cdv_L_draw "_law_draw" = true)
    (k_L_draw : PySem.W.keepIn K (.ref f_L_draw) = true)
    (a_L_hand : PySem.W.nsIn K mainGlobals "_law_hand" = some (some (.ref f_L_hand)))
    (l_L_hand : K.lookup f_L_hand = some ⟨oc_L_hand, od_L_hand, .func (PySem.W.fnOf "_law_hand" "_law_hand" (defArgs s_L_hand) (defBody s_L_hand) (defScope s_L_hand) .none kV_L_hand doc_L_hand pm_L_hand an_L_hand cdv_L_hand ct_L_hand), osl_L_hand⟩)
    (c_L_hand : PySem.W.codeIn K cdv_L_hand "_law_hand" = true)
    (k_L_hand : PySem.W.keepIn K (.ref f_L_hand) = true)
    (a_L_cut : PySem.W.nsIn K mainGlobals "_law_cut" = some (some (.ref f_L_cut)))
    (l_L_cut : K.lookup f_L_cut = some ⟨oc_L_cut, od_L_cut, .func (PySem.W.fnOf "_law_cut" "_law_cut" (defArgs s_L_cut) (defBody s_L_cut) (defScope s_L_cut) .none kV_L_cut doc_L_cut pm_L_cut an_L_cut cdv_L_cut ct_L_cut), osl_L_cut⟩)
    (c_L_cut : PySem.W.codeIn K cdv_L_cut "_law_cut" = true)
    (k_L_cut : PySem.W.keepIn K (.ref f_L_cut) = true)
    (a_L_numbers : PySem.W.nsIn K mainGlobals "_law_numbers" = some (some (.ref f_L_numbers)))
    (l_L_numbers : K.lookup f_L_numbers = some ⟨oc_L_numbers, od_L_numbers, .func (PySem.W.fnOf "_law_numbers" "_law_numbers" (defArgs s_L_numbers) (defBody s_L_numbers) (defScope s_L_numbers) .none kV_L_numbers doc_L_numbers pm_L_numbers an_L_numbers cdv_L_numbers ct_L_numbers), osl_L_numbers⟩)
    (c_L_numbers : PySem.W.codeIn K cdv_L_numbers "_law_numbers" = true)
    (k_L_numbers : PySem.W.keepIn K (.ref f_L_numbers) = true)
    (a_L_unit : PySem.W.nsIn K mainGlobals "_law_unit" = some (some (.ref f_L_unit)))
    (l_L_unit : K.lookup f_L_unit = some ⟨oc_L_unit, od_L_unit, .func (PySem.W.fnOf "_law_unit" "_law_unit" (defArgs s_L_unit) (defBody s_L_unit) (defScope s_L_unit) .none kV_L_unit doc_L_unit pm_L_unit an_L_unit cdv_L_unit ct_L_unit), osl_L_unit⟩)
    (c_L_unit : PySem.W.codeIn K cdv_L_unit "_law_unit" = true)
    (k_L_unit : PySem.W.keepIn K (.ref f_L_unit) = true)
    (a_L_common : PySem.W.nsIn K mainGlobals "_law_common" = some (some (.ref f_L_common)))
    (l_L_common : K.lookup f_L_common = some ⟨oc_L_common, od_L_common, .func (PySem.W.fnOf "_law_common" "_law_common" (defArgs s_L_common) (defBody s_L_common) (defScope s_L_common) .none kV_L_common doc_L_common pm_L_common an_L_common cdv_L_common ct_L_common), osl_L_common⟩)
    (c_L_common : PySem.W.codeIn K cdv_L_common "_law_common" = true)
    (k_L_common : PySem.W.keepIn K (.ref f_L_common) = true)
    (a_L_fraction : PySem.W.nsIn K mainGlobals "_law_fraction" = some (some (.ref f_L_fraction)))
    (l_L_fraction : K.lookup f_L_fraction = some ⟨oc_L_fraction, od_L_fraction, .func (PySem.W.fnOf "_law_fraction" "_law_fraction" (defArgs s_L_fraction) (defBody s_L_fraction) (defScope s_L_fraction) .none kV_L_fraction doc_L_fraction pm_L_fraction an_L_fraction cdv_L_fraction ct_L_fraction), osl_L_fraction⟩)
    (c_L_fraction : PySem.W.codeIn K cdv_L_fraction "_law_fraction" = true)
    (k_L_fraction : PySem.W.keepIn K (.ref f_L_fraction) = true)
    (a_L_times : PySem.W.nsIn K mainGlobals "_law_times" = some (some (.ref f_L_times)))
    (l_L_times : K.lookup f_L_times = some ⟨oc_L_times, od_L_times, .func (PySem.W.fnOf "_law_times" "_law_times" (defArgs s_L_times) (defBody s_L_times) (defScope s_L_times) .none kV_L_times doc_L_times pm_L_times an_L_times cdv_L_times ct_L_times), osl_L_times⟩)
    (c_L_times : PySem.W.codeIn K cdv_L_times "_law_times" = true)
    (k_L_times : PySem.W.keepIn K (.ref f_L_times) = true)
    (a_L_sums : PySem.W.nsIn K mainGlobals "_law_sums" = some (some (.ref f_L_sums)))
    (l_L_sums : K.lookup f_L_sums = some ⟨oc_L_sums, od_L_sums, .func (PySem.W.fnOf "_law_sums" "_law_sums" (defArgs s_L_sums) (defBody s_L_sums) (defScope s_L_sums) .none kV_L_sums doc_L_sums pm_L_sums an_L_sums cdv_L_sums ct_L_sums), osl_L_sums⟩)
    (c_L_sums : PySem.W.codeIn K cdv_L_sums "_law_sums" = true)
    (k_L_sums : PySem.W.keepIn K (.ref f_L_sums) = true)
    (a_is_integer : PySem.W.nsIn K mainGlobals "is_integer" = some (some (.ref f_is_integer)))
    (l_is_integer : K.lookup f_is_integer = some ⟨oc_is_integer, od_is_integer, .func (PySem.W.fnOf "is_integer" "is_integer" (defArgs s_is_integer) (defBody s_is_integer) (defScope s_is_integer) .none kV_is_integer doc_is_integer pm_is_integer an_is_integer cdv_is_integer ct_is_integer), osl_is_integer⟩)
    (c_is_integer : PySem.W.codeIn K cdv_is_integer "is_integer" = true)
    (k_is_integer : PySem.W.keepIn K (.ref f_is_integer) = true)
    (a_is_fraction : PySem.W.nsIn K mainGlobals "is_fraction" = some (some (.ref f_is_fraction)))
    (l_is_fraction : K.lookup f_is_fraction = some ⟨oc_is_fraction, od_is_fraction, .func (PySem.W.fnOf "is_fraction" "is_fraction" (defArgs s_is_fraction) (defBody s_is_fraction) (defScope s_is_fraction) .none kV_is_fraction doc_is_fraction pm_is_fraction an_is_fraction cdv_is_fraction ct_is_fraction), osl_is_fraction⟩)
    (c_is_fraction : PySem.W.codeIn K cdv_is_fraction "is_fraction" = true)
    (k_is_fraction : PySem.W.keepIn K (.ref f_is_fraction) = true)
    (a_is_amount : PySem.W.nsIn K mainGlobals "is_amount" = some (some (.ref f_is_amount)))
    (l_is_amount : K.lookup f_is_amount = some ⟨oc_is_amount, od_is_amount, .func (PySem.W.fnOf "is_amount" "is_amount" (defArgs s_is_amount) (defBody s_is_amount) (defScope s_is_amount) .none kV_is_amount doc_is_amount pm_is_amount an_is_amount cdv_is_amount ct_is_amount), osl_is_amount⟩)
    (c_is_amount : PySem.W.codeIn K cdv_is_amount "is_amount" = true)
    (k_is_amount : PySem.W.keepIn K (.ref f_is_amount) = true)
    (a_q_is_side : PySem.W.nsIn K mainGlobals "_is_side" = some (some (.ref f_q_is_side)))
    (l_q_is_side : K.lookup f_q_is_side = some ⟨oc_q_is_side, od_q_is_side, .func (PySem.W.fnOf "_is_side" "_is_side" (defArgs s_q_is_side) (defBody s_q_is_side) (defScope s_q_is_side) .none kV_q_is_side doc_q_is_side pm_q_is_side an_q_is_side cdv_q_is_side ct_q_is_side), osl_q_is_side⟩)
    (c_q_is_side : PySem.W.codeIn K cdv_q_is_side "_is_side" = true)
    (k_q_is_side : PySem.W.keepIn K (.ref f_q_is_side) = true)
    (a_common_bottom : PySem.W.nsIn K mainGlobals "common_bottom" = some (some (.ref f_common_bottom)))
    (l_common_bottom : K.lookup f_common_bottom = some ⟨oc_common_bottom, od_common_bottom, .func (PySem.W.fnOf "common_bottom" "common_bottom" (defArgs s_common_bottom) (defBody s_common_bottom) (defScope s_common_bottom) .none kV_common_bottom doc_common_bottom pm_common_bottom an_common_bottom cdv_common_bottom ct_common_bottom), osl_common_bottom⟩)
    (c_common_bottom : PySem.W.codeIn K cdv_common_bottom "common_bottom" = true)
    (k_common_bottom : PySem.W.keepIn K (.ref f_common_bottom) = true)
    (a_in_units : PySem.W.nsIn K mainGlobals "in_units" = some (some (.ref f_in_units)))
    (l_in_units : K.lookup f_in_units = some ⟨oc_in_units, od_in_units, .func (PySem.W.fnOf "in_units" "in_units" (defArgs s_in_units) (defBody s_in_units) (defScope s_in_units) .none kV_in_units doc_in_units pm_in_units an_in_units cdv_in_units ct_in_units), osl_in_units⟩)
    (c_in_units : PySem.W.codeIn K cdv_in_units "in_units" = true)
    (k_in_units : PySem.W.keepIn K (.ref f_in_units) = true)
    (a_lowest : PySem.W.nsIn K mainGlobals "lowest" = some (some (.ref f_lowest)))
    (l_lowest : K.lookup f_lowest = some ⟨oc_lowest, od_lowest, .func (PySem.W.fnOf "lowest" "lowest" (defArgs s_lowest) (defBody s_lowest) (defScope s_lowest) .none kV_lowest doc_lowest pm_lowest an_lowest cdv_lowest ct_lowest), osl_lowest⟩)
    (c_lowest : PySem.W.codeIn K cdv_lowest "lowest" = true)
    (k_lowest : PySem.W.keepIn K (.ref f_lowest) = true)
    (a_added : PySem.W.nsIn K mainGlobals "added" = some (some (.ref f_added)))
    (l_added : K.lookup f_added = some ⟨oc_added, od_added, .func (PySem.W.fnOf "added" "added" (defArgs s_added) (defBody s_added) (defScope s_added) .none kV_added doc_added pm_added an_added cdv_added ct_added), osl_added⟩)
    (c_added : PySem.W.codeIn K cdv_added "added" = true)
    (k_added : PySem.W.keepIn K (.ref f_added) = true)
    (a_Eveningu_initu : PySem.W.findIn K (.ref cEvening) "__init__" = some (some (.ref f_Eveningu_initu)))
    (i_Eveningu_initu : PySem.W.isFn K (.ref f_Eveningu_initu) = true)
    (l_Eveningu_initu : K.lookup f_Eveningu_initu = some ⟨oc_Eveningu_initu, od_Eveningu_initu, .func (PySem.W.fnOf "__init__" "Evening.__init__" (defArgs s_Eveningu_initu) (defBody s_Eveningu_initu) (defScope s_Eveningu_initu) .none kV_Eveningu_initu doc_Eveningu_initu pm_Eveningu_initu an_Eveningu_initu cdv_Eveningu_initu ct_Eveningu_initu), osl_Eveningu_initu⟩)
    (c_Eveningu_initu : PySem.W.codeIn K cdv_Eveningu_initu "Evening.__init__" = true)
    (k_Eveningu_initu : PySem.W.keepIn K (.ref f_Eveningu_initu) = true)
    (a_L_made : PySem.W.nsIn K mainGlobals "_law_made" = some (some (.ref f_L_made)))
    (l_L_made : K.lookup f_L_made = some ⟨oc_L_made, od_L_made, .func (PySem.W.fnOf "_law_made" "_law_made" (defArgs s_L_made) (defBody s_L_made) (defScope s_L_made) .none kV_L_made doc_L_made pm_L_made an_L_made cdv_L_made ct_L_made), osl_L_made⟩)
    (c_L_made : PySem.W.codeIn K cdv_L_made "_law_made" = true)
    (k_L_made : PySem.W.keepIn K (.ref f_L_made) = true)
    (a_q_figures : PySem.W.nsIn K mainGlobals "_figures" = some (some (.ref f_q_figures)))
    (l_q_figures : K.lookup f_q_figures = some ⟨oc_q_figures, od_q_figures, .func (PySem.W.fnOf "_figures" "_figures" (defArgs s_q_figures) (defBody s_q_figures) (defScope s_q_figures) .none kV_q_figures doc_q_figures pm_q_figures an_q_figures cdv_q_figures ct_q_figures), osl_q_figures⟩)
    (c_q_figures : PySem.W.codeIn K cdv_q_figures "_figures" = true)
    (k_q_figures : PySem.W.keepIn K (.ref f_q_figures) = true)
    (a_amount_text : PySem.W.nsIn K mainGlobals "amount_text" = some (some (.ref f_amount_text)))
    (l_amount_text : K.lookup f_amount_text = some ⟨oc_amount_text, od_amount_text, .func (PySem.W.fnOf "amount_text" "amount_text" (defArgs s_amount_text) (defBody s_amount_text) (defScope s_amount_text) .none kV_amount_text doc_amount_text pm_amount_text an_amount_text cdv_amount_text ct_amount_text), osl_amount_text⟩)
    (c_amount_text : PySem.W.codeIn K cdv_amount_text "amount_text" = true)
    (k_amount_text : PySem.W.keepIn K (.ref f_amount_text) = true)
    (a_q_side_text : PySem.W.nsIn K mainGlobals "_side_text" = some (some (.ref f_q_side_text)))
    (l_q_side_text : K.lookup f_q_side_text = some ⟨oc_q_side_text, od_q_side_text, .func (PySem.W.fnOf "_side_text" "_side_text" (defArgs s_q_side_text) (defBody s_q_side_text) (defScope s_q_side_text) .none kV_q_side_text doc_q_side_text pm_q_side_text an_q_side_text cdv_q_side_text ct_q_side_text), osl_q_side_text⟩)
    (c_q_side_text : PySem.W.codeIn K cdv_q_side_text "_side_text" = true)
    (k_q_side_text : PySem.W.keepIn K (.ref f_q_side_text) = true)
    (a_evening_text : PySem.W.nsIn K mainGlobals "evening_text" = some (some (.ref f_evening_text)))
    (l_evening_text : K.lookup f_evening_text = some ⟨oc_evening_text, od_evening_text, .func (PySem.W.fnOf "evening_text" "evening_text" (defArgs s_evening_text) (defBody s_evening_text) (defScope s_evening_text) .none kV_evening_text doc_evening_text pm_evening_text an_evening_text cdv_evening_text ct_evening_text), osl_evening_text⟩)
    (c_evening_text : PySem.W.codeIn K cdv_evening_text "evening_text" = true)
    (k_evening_text : PySem.W.keepIn K (.ref f_evening_text) = true)
    (a_q_parted : PySem.W.nsIn K mainGlobals "_parted" = some (some (.ref f_q_parted)))
    (l_q_parted : K.lookup f_q_parted = some ⟨oc_q_parted, od_q_parted, .func (PySem.W.fnOf "_parted" "_parted" (defArgs s_q_parted) (defBody s_q_parted) (defScope s_q_parted) .none kV_q_parted doc_q_parted pm_q_parted an_q_parted cdv_q_parted ct_q_parted), osl_q_parted⟩)
    (c_q_parted : PySem.W.codeIn K cdv_q_parted "_parted" = true)
    (k_q_parted : PySem.W.keepIn K (.ref f_q_parted) = true)
    (a_is_spelt_number : PySem.W.nsIn K mainGlobals "is_spelt_number" = some (some (.ref f_is_spelt_number)))
    (l_is_spelt_number : K.lookup f_is_spelt_number = some ⟨oc_is_spelt_number, od_is_spelt_number, .func (PySem.W.fnOf "is_spelt_number" "is_spelt_number" (defArgs s_is_spelt_number) (defBody s_is_spelt_number) (defScope s_is_spelt_number) .none kV_is_spelt_number doc_is_spelt_number pm_is_spelt_number an_is_spelt_number cdv_is_spelt_number ct_is_spelt_number), osl_is_spelt_number⟩)
    (c_is_spelt_number : PySem.W.codeIn K cdv_is_spelt_number "is_spelt_number" = true)
    (k_is_spelt_number : PySem.W.keepIn K (.ref f_is_spelt_number) = true)
    (a_q_read_amount : PySem.W.nsIn K mainGlobals "_read_amount" = some (some (.ref f_q_read_amount)))
    (l_q_read_amount : K.lookup f_q_read_amount = some ⟨oc_q_read_amount, od_q_read_amount, .func (PySem.W.fnOf "_read_amount" "_read_amount" (defArgs s_q_read_amount) (defBody s_q_read_amount) (defScope s_q_read_amount) .none kV_q_read_amount doc_q_read_amount pm_q_read_amount an_q_read_amount cdv_q_read_amount ct_q_read_amount), osl_q_read_amount⟩)
    (c_q_read_amount : PySem.W.codeIn K cdv_q_read_amount "_read_amount" = true)
    (k_q_read_amount : PySem.W.keepIn K (.ref f_q_read_amount) = true)
    (a_q_read_side : PySem.W.nsIn K mainGlobals "_read_side" = some (some (.ref f_q_read_side)))
    (l_q_read_side : K.lookup f_q_read_side = some ⟨oc_q_read_side, od_q_read_side, .func (PySem.W.fnOf "_read_side" "_read_side" (defArgs s_q_read_side) (defBody s_q_read_side) (defScope s_q_read_side) .none kV_q_read_side doc_q_read_side pm_q_read_side an_q_read_side cdv_q_read_side ct_q_read_side), osl_q_read_side⟩)
    (c_q_read_side : PySem.W.codeIn K cdv_q_read_side "_read_side" = true)
    (k_q_read_side : PySem.W.keepIn K (.ref f_q_read_side) = true)
    (a_read_evening : PySem.W.nsIn K mainGlobals "read_evening" = some (some (.ref f_read_evening)))
    (l_read_evening : K.lookup f_read_evening = some ⟨oc_read_evening, od_read_evening, .func (PySem.W.fnOf "read_evening" "read_evening" (defArgs s_read_evening) (defBody s_read_evening) (defScope s_read_evening) .none kV_read_evening doc_read_evening pm_read_evening an_read_evening cdv_read_evening ct_read_evening), osl_read_evening⟩)
    (c_read_evening : PySem.W.codeIn K cdv_read_evening "read_evening" = true)
    (k_read_evening : PySem.W.keepIn K (.ref f_read_evening) = true)
    (a_L_amount_text : PySem.W.nsIn K mainGlobals "_law_amount_text" = some (some (.ref f_L_amount_text)))
    (l_L_amount_text : K.lookup f_L_amount_text = some ⟨oc_L_amount_text, od_L_amount_text, .func (PySem.W.fnOf "_law_amount_text" "_law_amount_text" (defArgs s_L_amount_text) (defBody s_L_amount_text) (defScope s_L_amount_text) .none kV_L_amount_text doc_L_amount_text pm_L_amount_text an_L_amount_text cdv_L_amount_text ct_L_amount_text), osl_L_amount_text⟩)
    (c_L_amount_text : PySem.W.codeIn K cdv_L_amount_text "_law_amount_text" = true)
    (k_L_amount_text : PySem.W.keepIn K (.ref f_L_amount_text) = true)
    (a_L_text : PySem.W.nsIn K mainGlobals "_law_text" = some (some (.ref f_L_text)))
    (l_L_text : K.lookup f_L_text = some ⟨oc_L_text, od_L_text, .func (PySem.W.fnOf "_law_text" "_law_text" (defArgs s_L_text) (defBody s_L_text) (defScope s_L_text) .none kV_L_text doc_L_text pm_L_text an_L_text cdv_L_text ct_L_text), osl_L_text⟩)
    (c_L_text : PySem.W.codeIn K cdv_L_text "_law_text" = true)
    (k_L_text : PySem.W.keepIn K (.ref f_L_text) = true)
    (a_Eveningu_equ : PySem.W.findIn K (.ref cEvening) "__eq__" = some (some (.ref f_Eveningu_equ)))
    (i_Eveningu_equ : PySem.W.isFn K (.ref f_Eveningu_equ) = true)
    (l_Eveningu_equ : K.lookup f_Eveningu_equ = some ⟨oc_Eveningu_equ, od_Eveningu_equ, .func (PySem.W.fnOf "__eq__" "Evening.__eq__" (defArgs s_Eveningu_equ) (defBody s_Eveningu_equ) (defScope s_Eveningu_equ) .none kV_Eveningu_equ doc_Eveningu_equ pm_Eveningu_equ an_Eveningu_equ cdv_Eveningu_equ ct_Eveningu_equ), osl_Eveningu_equ⟩)
    (c_Eveningu_equ : PySem.W.codeIn K cdv_Eveningu_equ "Evening.__eq__" = true)
    (k_Eveningu_equ : PySem.W.keepIn K (.ref f_Eveningu_equ) = true)
    (a_law : PySem.W.nsIn K mainGlobals "law" = some (some (.ref f_law)))
    (l_law : K.lookup f_law = some ⟨oc_law, od_law, .func (PySem.W.fnOf "law" "law" (defArgs s_law) (defBody s_law) (defScope s_law) .none kV_law doc_law pm_law an_law cdv_law ct_law), osl_law⟩)
    (c_law : PySem.W.codeIn K cdv_law "law" = true)
    (k_law : PySem.W.keepIn K (.ref f_law) = true)
    : ∃ fd : FuncData, (∀ (s : Shared) (v : Value), BindsTo s fd ⟨[v], []⟩ [("_law_script", v)]) ∧ ∀ base : Heap, K.In base → base.Ns mainGlobals mg → FnOk l.prog w K mg base CX0 8 fa fd ["_law_script"] (sp_top K) := by
  have e := hfa.symm.trans (PySem.W.mg_of X G a_law)
  cases e
  have F := fun_mk (st := s_law) l_law c_law k_law
  have d_L_draw : DefAt K "_law_draw" s_L_draw := ⟨_, _, _, _, _, _, _, _, _, _, a_L_draw, l_L_draw, c_L_draw, k_L_draw⟩
  have d_L_hand : DefAt K "_law_hand" s_L_hand := ⟨_, _, _, _, _, _, _, _, _, _, a_L_hand, l_L_hand, c_L_hand, k_L_hand⟩
  have d_L_cut : DefAt K "_law_cut" s_L_cut := ⟨_, _, _, _, _, _, _, _, _, _, a_L_cut, l_L_cut, c_L_cut, k_L_cut⟩
  have d_L_numbers : DefAt K "_law_numbers" s_L_numbers := ⟨_, _, _, _, _, _, _, _, _, _, a_L_numbers, l_L_numbers, c_L_numbers, k_L_numbers⟩
  have d_L_unit : DefAt K "_law_unit" s_L_unit := ⟨_, _, _, _, _, _, _, _, _, _, a_L_unit, l_L_unit, c_L_unit, k_L_unit⟩
  have d_L_common : DefAt K "_law_common" s_L_common := ⟨_, _, _, _, _, _, _, _, _, _, a_L_common, l_L_common, c_L_common, k_L_common⟩
  have d_L_fraction : DefAt K "_law_fraction" s_L_fraction := ⟨_, _, _, _, _, _, _, _, _, _, a_L_fraction, l_L_fraction, c_L_fraction, k_L_fraction⟩
  have d_L_times : DefAt K "_law_times" s_L_times := ⟨_, _, _, _, _, _, _, _, _, _, a_L_times, l_L_times, c_L_times, k_L_times⟩
  have d_L_sums : DefAt K "_law_sums" s_L_sums := ⟨_, _, _, _, _, _, _, _, _, _, a_L_sums, l_L_sums, c_L_sums, k_L_sums⟩
  have d_is_integer : DefAt K "is_integer" s_is_integer := ⟨_, _, _, _, _, _, _, _, _, _, a_is_integer, l_is_integer, c_is_integer, k_is_integer⟩
  have d_is_fraction : DefAt K "is_fraction" s_is_fraction := ⟨_, _, _, _, _, _, _, _, _, _, a_is_fraction, l_is_fraction, c_is_fraction, k_is_fraction⟩
  have d_is_amount : DefAt K "is_amount" s_is_amount := ⟨_, _, _, _, _, _, _, _, _, _, a_is_amount, l_is_amount, c_is_amount, k_is_amount⟩
  have d_q_is_side : DefAt K "_is_side" s_q_is_side := ⟨_, _, _, _, _, _, _, _, _, _, a_q_is_side, l_q_is_side, c_q_is_side, k_q_is_side⟩
  have d_common_bottom : DefAt K "common_bottom" s_common_bottom := ⟨_, _, _, _, _, _, _, _, _, _, a_common_bottom, l_common_bottom, c_common_bottom, k_common_bottom⟩
  have d_in_units : DefAt K "in_units" s_in_units := ⟨_, _, _, _, _, _, _, _, _, _, a_in_units, l_in_units, c_in_units, k_in_units⟩
  have d_lowest : DefAt K "lowest" s_lowest := ⟨_, _, _, _, _, _, _, _, _, _, a_lowest, l_lowest, c_lowest, k_lowest⟩
  have d_added : DefAt K "added" s_added := ⟨_, _, _, _, _, _, _, _, _, _, a_added, l_added, c_added, k_added⟩
  have d_Eveningu_initu : MethAt K cEvening "__init__" "Evening.__init__" s_Eveningu_initu := ⟨_, _, _, _, _, _, _, _, _, _, a_Eveningu_initu, i_Eveningu_initu, l_Eveningu_initu, c_Eveningu_initu, k_Eveningu_initu⟩
  have d_L_made : DefAt K "_law_made" s_L_made := ⟨_, _, _, _, _, _, _, _, _, _, a_L_made, l_L_made, c_L_made, k_L_made⟩
  have d_q_figures : DefAt K "_figures" s_q_figures := ⟨_, _, _, _, _, _, _, _, _, _, a_q_figures, l_q_figures, c_q_figures, k_q_figures⟩
  have d_amount_text : DefAt K "amount_text" s_amount_text := ⟨_, _, _, _, _, _, _, _, _, _, a_amount_text, l_amount_text, c_amount_text, k_amount_text⟩
  have d_q_side_text : DefAt K "_side_text" s_q_side_text := ⟨_, _, _, _, _, _, _, _, _, _, a_q_side_text, l_q_side_text, c_q_side_text, k_q_side_text⟩
  have d_evening_text : DefAt K "evening_text" s_evening_text := ⟨_, _, _, _, _, _, _, _, _, _, a_evening_text, l_evening_text, c_evening_text, k_evening_text⟩
  have d_q_parted : DefAt K "_parted" s_q_parted := ⟨_, _, _, _, _, _, _, _, _, _, a_q_parted, l_q_parted, c_q_parted, k_q_parted⟩
  have d_is_spelt_number : DefAt K "is_spelt_number" s_is_spelt_number := ⟨_, _, _, _, _, _, _, _, _, _, a_is_spelt_number, l_is_spelt_number, c_is_spelt_number, k_is_spelt_number⟩
  have d_q_read_amount : DefAt K "_read_amount" s_q_read_amount := ⟨_, _, _, _, _, _, _, _, _, _, a_q_read_amount, l_q_read_amount, c_q_read_amount, k_q_read_amount⟩
  have d_q_read_side : DefAt K "_read_side" s_q_read_side := ⟨_, _, _, _, _, _, _, _, _, _, a_q_read_side, l_q_read_side, c_q_read_side, k_q_read_side⟩
  have d_read_evening : DefAt K "read_evening" s_read_evening := ⟨_, _, _, _, _, _, _, _, _, _, a_read_evening, l_read_evening, c_read_evening, k_read_evening⟩
  have d_L_amount_text : DefAt K "_law_amount_text" s_L_amount_text := ⟨_, _, _, _, _, _, _, _, _, _, a_L_amount_text, l_L_amount_text, c_L_amount_text, k_L_amount_text⟩
  have d_L_text : DefAt K "_law_text" s_L_text := ⟨_, _, _, _, _, _, _, _, _, _, a_L_text, l_L_text, c_L_text, k_L_text⟩
  have d_Eveningu_equ : MethAt K cEvening "__eq__" "Evening.__eq__" s_Eveningu_equ := ⟨_, _, _, _, _, _, _, _, _, _, a_Eveningu_equ, i_Eveningu_equ, l_Eveningu_equ, c_Eveningu_equ, k_Eveningu_equ⟩
  have d_law : DefAt K "law" s_law := ⟨_, _, _, _, _, _, _, _, _, _, a_law, l_law, c_law, k_law⟩
  have cl_Evening : Cls K cEvening := ⟨pg_Evening, hd_Evening, po_Evening, sa_Evening⟩
  let C : CA := ⟨K, l.prog, w, cEvening, 0, 0, 0, 0, 0, 0, 0, 0, 0, 0, 0, 0, 0, 0, 0, 0, 0, 0, 0, 0, 0, 0, 0, 0, 0, 0, 0, 0, 0, 0, 0, 0, 0, 0, 0, 0, 0, 0, 0⟩
  have T : CT C.K C := ⟨cl_Evening, na_nO, na_nD⟩
  have TI : EvIs C.K C := ⟨cl_Evening, cl_Evening_, ge_Evening, se_Evening, mr_Evening, kit_own kit_metas.1 k1_tuple, kit_own kit_metas.2.1 k1_int, kit_own kit_metas.2.2.1 k1_bool, kit_own kit_metas.2.2.2.1 k1_list, kit_own kit_metas.2.2.2.2.1 k1_dict, kit_own kit_metas.2.2.2.2.2 k1_str⟩
  have TE : CTE C.K C := ⟨mr_Evening, ne_Evening⟩
  have B : Bi mg C := ⟨PySem.W.mg_none_of X G z_abs, PySem.W.mg_none_of X G z_all, PySem.W.mg_none_of X G z_bool, PySem.W.mg_none_of X G z_enumerate, PySem.W.mg_none_of X G z_int, PySem.W.mg_none_of X G z_isinstance, PySem.W.mg_none_of X G z_len, PySem.W.mg_none_of X G z_max, PySem.W.mg_none_of X G z_min, PySem.W.mg_none_of X G z_range, PySem.W.mg_none_of X G z_str, PySem.W.mg_none_of X G z_sum, PySem.W.mg_none_of X G z_tuple, ⟨_, PySem.W.mg_of X G z_AMOUNT_FIGURES, r_AMOUNT_FIGURES⟩, ⟨_, PySem.W.mg_of X G z_CHUNK, r_CHUNK⟩, PySem.W.mg_of X G h_Evening, ⟨_, PySem.W.mg_of X G z_FIGURES, r_FIGURES⟩, ⟨_, PySem.W.mg_of X G z_MOST_SUMS, r_MOST_SUMS⟩, ⟨_, PySem.W.mg_of X G z_SIDES, KObj.at lk_SIDES r_SIDES⟩, PySem.W.mg_of X G z_gcd, PySem.W.mg_of X G z_lcm⟩
  refine ⟨PySem.W.fnOf "law" "law" (defArgs s_law) (defBody s_law) (defScope s_law) .none kV_law doc_law pm_law an_law cdv_law ct_law, fun s v => .of_eq rfl, fun base _ _ => ?_⟩
  have D_L_draw : Okd C.P C.w C.K mg base 1 "_law_draw" ["_law_hand_here", "_law_many"] (sp_L_draw C) := d_L_draw.okd X G (fun _ _ _ _ _ _ us hl => match us, hl with | [_, _], _ => rfl) (fun f fd F => ok_L_draw T TI TE B F )
  have D_L_hand : Okd C.P C.w C.K mg base 1 "_law_hand" ["_law_script"] (sp_L_hand C) := d_L_hand.okd X G (fun _ _ _ _ _ _ us hl => match us, hl with | [_], _ => rfl) (fun f fd F => ok_L_hand T TI TE B F )
  have D_L_cut : Okd C.P C.w C.K mg base 2 "_law_cut" ["_law_hand_here", "_law_full", "_law_many"] (sp_L_cut C) := d_L_cut.okd X G (fun _ _ _ _ _ _ us hl => match us, hl with | [_, _, _], _ => rfl) (fun f fd F => ok_L_cut T TI TE B F D_L_draw)
  have D_L_numbers : Okd C.P C.w C.K mg base 3 "_law_numbers" ["_law_hand_here", "_law_side", "_law_most"] (sp_L_numbers C) := d_L_numbers.okd X G (fun _ _ _ _ _ _ us hl => match us, hl with | [_, _, _], _ => rfl) (fun f fd F => ok_L_numbers T TI TE B F D_L_draw D_L_cut)
  have D_L_unit : Okd C.P C.w C.K mg base 2 "_law_unit" ["_law_hand_here"] (sp_L_unit C) := d_L_unit.okd X G (fun _ _ _ _ _ _ us hl => match us, hl with | [_], _ => rfl) (fun f fd F => ok_L_unit T TI TE B F D_L_draw)
  have D_L_common : Okd C.P C.w C.K mg base 1 "_law_common" ["_law_one", "_law_other"] (sp_L_common C) := d_L_common.okd X G (fun _ _ _ _ _ _ us hl => match us, hl with | [_, _], _ => rfl) (fun f fd F => ok_L_common T TI TE B F )
  have D_L_fraction : Okd C.P C.w C.K mg base 2 "_law_fraction" ["_law_top", "_law_bottom"] (sp_L_fraction C) := d_L_fraction.okd X G (fun _ _ _ _ _ _ us hl => match us, hl with | [_, _], _ => rfl) (fun f fd F => ok_L_fraction T TI TE B F D_L_common)
  have D_L_times : Okd C.P C.w C.K mg base 3 "_law_times" ["_law_one", "_law_other"] (sp_L_times C) := d_L_times.okd X G (fun _ _ _ _ _ _ us hl => match us, hl with | [_, _], _ => rfl) (fun f fd F => ok_L_times T TI TE B F D_L_fraction)
  have D_L_sums : Okd C.P C.w C.K mg base 4 "_law_sums" ["_law_hand_here", "_law_side", "_law_most"] (sp_L_sums C) := d_L_sums.okd X G (fun _ _ _ _ _ _ us hl => match us, hl with | [_, _, _], _ => rfl) (fun f fd F => ok_L_sums T TI TE B F D_L_times D_L_numbers D_L_unit)
  have D_is_integer : Okd C.P C.w C.K mg base 1 "is_integer" ["thing"] (sp_is_integer C) := d_is_integer.okd X G (fun _ _ _ _ _ _ us hl => match us, hl with | [_], _ => rfl) (fun f fd F => ok_is_integer T TI TE B F )
  have D_is_fraction : Okd C.P C.w C.K mg base 2 "is_fraction" ["thing"] (sp_is_fraction C) := d_is_fraction.okd X G (fun _ _ _ _ _ _ us hl => match us, hl with | [_], _ => rfl) (fun f fd F => ok_is_fraction T TI TE B F D_is_integer)
  have D_is_amount : Okd C.P C.w C.K mg base 3 "is_amount" ["thing"] (sp_is_amount C) := d_is_amount.okd X G (fun _ _ _ _ _ _ us hl => match us, hl with | [_], _ => rfl) (fun f fd F => ok_is_amount T TI TE B F D_is_fraction)
  have D_q_is_side : Okd C.P C.w C.K mg base 4 "_is_side" ["thing"] (sp_q_is_side C) := d_q_is_side.okd X G (fun _ _ _ _ _ _ us hl => match us, hl with | [_], _ => rfl) (fun f fd F => ok_q_is_side T TI TE B F D_is_amount)
  have D_common_bottom : Okd C.P C.w C.K mg base 1 "common_bottom" ["fractions"] (sp_common_bottom C) := d_common_bottom.okd X G (fun _ _ _ _ _ _ us hl => match us, hl with | [_], _ => rfl) (fun f fd F => ok_common_bottom T TI TE B F )
  have D_in_units : Okd C.P C.w C.K mg base 1 "in_units" ["fractions", "shared"] (sp_in_units C) := d_in_units.okd X G (fun _ _ _ _ _ _ us hl => match us, hl with | [_, _], _ => rfl) (fun f fd F => ok_in_units T TI TE B F )
  have D_lowest : Okd C.P C.w C.K mg base 1 "lowest" ["top", "bottom"] (sp_lowest C) := d_lowest.okd X G (fun _ _ _ _ _ _ us hl => match us, hl with | [_, _], _ => rfl) (fun f fd F => ok_lowest T TI TE B F )
  have D_added : Okd C.P C.w C.K mg base 2 "added" ["fractions"] (sp_added C) := d_added.okd X G (fun _ _ _ _ _ _ us hl => match us, hl with | [_], _ => rfl) (fun f fd F => ok_added T TI TE B F D_lowest D_common_bottom D_in_units)
  have D_Eveningu_initu : Okm C.P C.w C.K mg base 5 "Evening" C.Evening ["self", "owed", "due"] (sp_Eveningu_initu C) := d_Eveningu_initu.okm (PySem.W.mg_of X G h_Evening) mk_Evening kc_Evening (fun _ _ _ _ _ _ us hl => match us, hl with | [_, _, _], _ => rfl) (fun f fd F => ok_Eveningu_initu T TI TE B F D_added D_q_is_side)
  have D_L_made : Okd C.P C.w C.K mg base 7 "_law_made" ["_law_sums_here"] (sp_L_made C) := d_L_made.okd X G (fun _ _ _ _ _ _ us hl => match us, hl with | [_], _ => rfl) (fun f fd F => ok_L_made T TI TE B F D_Eveningu_initu)
  have D_q_figures : Okd C.P C.w C.K mg base 1 "_figures" ["number"] (sp_q_figures C) := d_q_figures.okd X G (fun _ _ _ _ _ _ us hl => match us, hl with | [_], _ => rfl) (fun f fd F => ok_q_figures T TI TE B F )
  have D_amount_text : Okd C.P C.w C.K mg base 2 "amount_text" ["amount"] (sp_amount_text C) := d_amount_text.okd X G (fun _ _ _ _ _ _ us hl => match us, hl with | [_], _ => rfl) (fun f fd F => ok_amount_text T TI TE B F D_q_figures)
  have D_q_side_text : Okd C.P C.w C.K mg base 3 "_side_text" ["word", "amounts"] (sp_q_side_text C) := d_q_side_text.okd X G (fun _ _ _ _ _ _ us hl => match us, hl with | [_, _], _ => rfl) (fun f fd F => ok_q_side_text T TI TE B F D_amount_text)
  have D_evening_text : Okd C.P C.w C.K mg base 4 "evening_text" ["evening"] (sp_evening_text C) := d_evening_text.okd X G (fun _ _ _ _ _ _ us hl => match us, hl with | [_], _ => rfl) (fun f fd F => ok_evening_text T TI TE B F D_q_side_text)
  have D_q_parted : Okd C.P C.w C.K mg base 1 "_parted" ["text"] (sp_q_parted C) := d_q_parted.okd X G (fun _ _ _ _ _ _ us hl => match us, hl with | [_], _ => rfl) (fun f fd F => ok_q_parted T TI TE B F )
  have D_is_spelt_number : Okd C.P C.w C.K mg base 1 "is_spelt_number" ["word", "most"] (sp_is_spelt_number C) := d_is_spelt_number.okd X G (fun _ _ _ _ _ _ us hl => match us, hl with | [_, _], _ => rfl) (fun f fd F => ok_is_spelt_number T TI TE B F )
  have D_q_read_amount : Okd C.P C.w C.K mg base 4 "_read_amount" ["word"] (sp_q_read_amount C) := d_q_read_amount.okd X G (fun _ _ _ _ _ _ us hl => match us, hl with | [_], _ => rfl) (fun f fd F => ok_q_read_amount T TI TE B F D_is_amount D_is_spelt_number)
  have D_q_read_side : Okd C.P C.w C.K mg base 5 "_read_side" ["line", "word"] (sp_q_read_side C) := d_q_read_side.okd X G (fun _ _ _ _ _ _ us hl => match us, hl with | [_, _], _ => rfl) (fun f fd F => ok_q_read_side T TI TE B F D_q_read_amount)
  have D_read_evening : Okd C.P C.w C.K mg base 7 "read_evening" ["text"] (sp_read_evening C) := d_read_evening.okd X G (fun _ _ _ _ _ _ us hl => match us, hl with | [_], _ => rfl) (fun f fd F => ok_read_evening T TI TE B F D_q_parted D_q_read_side D_Eveningu_initu)
  have D_L_amount_text : Okd C.P C.w C.K mg base 1 "_law_amount_text" ["_law_amount"] (sp_L_amount_text C) := d_L_amount_text.okd X G (fun _ _ _ _ _ _ us hl => match us, hl with | [_], _ => rfl) (fun f fd F => ok_L_amount_text T TI TE B F )
  have D_L_text : Okd C.P C.w C.K mg base 2 "_law_text" ["_law_sums_here"] (sp_L_text C) := d_L_text.okd X G (fun _ _ _ _ _ _ us hl => match us, hl with | [_], _ => rfl) (fun f fd F => ok_L_text T TI TE B F D_L_amount_text)
  have D_Eveningu_equ : Okf C.P C.w C.K mg base 1 "__eq__" C.Evening ["self", "other"] (sp_Eveningu_equ C) := d_Eveningu_equ.okf cl_Evening (fun _ _ _ _ _ _ us hl => match us, hl with | [_, _], _ => rfl) (fun f fd F => ok_Eveningu_equ T TI TE B F )
  exact (ok_law T TI TE B F D_read_evening D_evening_text D_L_hand D_L_draw D_L_sums D_L_made D_L_text D_Eveningu_equ).imp (law_top (C := C))
theorem walk {l : PySem.W.OpenLaw} {q : Program} {loose : List Str} {XP : (Str → Option Value) → Heap → Prop} {YP : World → Heap → Prop} {d : DefRec} {K : Params → PySem.W.Frag} (hn : l.most = some 63) (hdf : d.params.defaults = [])
    (hY : ∀ (w : World) (h : Heap), YP w h → (K w.params).In h)
    (F : ∀ (w : World) (mg : Str → Option Value) (fa : Addr) (h : Heap), (K w.params).In h → h.Ns mainGlobals mg → mg d.name = some (.ref fa) →
      ∃ fd : FuncData, (∀ (s : Shared) (u : Value), BindsTo s fd ⟨[u], []⟩ [("_law_script", u)]) ∧ ∀ base : Heap, (K w.params).In base → base.Ns mainGlobals mg → FnOk l.prog w (K w.params) mg base CX0 8 fa fd ["_law_script"] (sp_top (K w.params))) :
    PySem.W.WalkO q loose XP YP l.row.toRowW d [] (fun f vs => PySem.call f vs) :=
  L2.walk_of (n := 63) (k := 8) (x := "_law_script") (CX := fun _ => CX0) (sp := fun w => sp_top (K w.params)) hn (by decide) hdf ⟨rfl, by decide, by decide⟩ hY F (fun _ _ a ns hl _ hS => ⟨a, ns, rfl, hS, hl, fun _ => rfl⟩) fun _ _ _ _ _ z => z
end QV

open PySem PySem.W PyProof.Rows in
set_option maxRecDepth 100000 in
set_option maxHeartbeats 0 in
theorem PySem.Challenge.cw_quitsways_k15_whole_texts_of_evenings_holds : PySem.Challenge.rw_quitsways_k15_whole_texts_of_evenings.Holds := by
  w_on; o_law; k_head; (case hw => w_witness2)
  k_fill
  refine QV.walk (l := PySem.Challenge.rw_quitsways_k15_whole_texts_of_evenings) rfl rfl (fun w h Y => PySem.W.kIn_of Y) ?F
  case F =>
    intro w mg fa h KX G hmg
    refine' QV.all_mk KX G hmg ?h_Evening ?pg_Evening ?hd_Evening ?po_Evening ?sa_Evening ?mk_Evening ?kc_Evening ?cl_Evening_ ?ge_Evening ?se_Evening ?mr_Evening ?k1_tuple ?k1_int ?k1_bool ?k1_list ?k1_dict ?k1_str ?ne_Evening ?na_nO ?na_nD ?z_abs ?z_all ?z_bool ?z_enumerate ?z_int ?z_isinstance ?z_len ?z_max ?z_min ?z_range ?z_str ?z_sum ?z_tuple ?z_AMOUNT_FIGURES ?r_AMOUNT_FIGURES ?z_CHUNK ?r_CHUNK ?z_FIGURES ?r_FIGURES ?z_MOST_SUMS ?r_MOST_SUMS ?z_SIDES ?lk_SIDES ?r_SIDES ?z_gcd ?z_lcm ?a_L_draw ?l_L_draw ?c_L_draw ?k_L_draw ?a_L_hand ?l_L_hand ?c_L_hand ?k_L_hand ?a_L_cut ?l_L_cut ?c_L_cut ?k_L_cut ?a_L_numbers ?l_L_numbers ?c_L_numbers ?k_L_numbers ?a_L_unit ?l_L_unit ?c_L_unit ?k_L_unit ?a_L_common ?l_L_common ?c_L_common ?k_L_common ?a_L_fraction ?l_L_fraction ?c_L_fraction ?k_L_fraction ?a_L_times ?l_L_times ?c_L_times ?k_L_times ?a_L_sums ?l_L_sums ?c_L_sums ?k_L_sums ?a_is_integer ?l_is_integer ?c_is_integer ?k_is_integer ?a_is_fraction ?l_is_fraction ?c_is_fraction ?k_is_fraction ?a_is_amount ?l_is_amount ?c_is_amount ?k_is_amount ?a_q_is_side ?l_q_is_side ?c_q_is_side ?k_q_is_side ?a_common_bottom ?l_common_bottom ?c_common_bottom ?k_common_bottom ?a_in_units ?l_in_units ?c_in_units ?k_in_units ?a_lowest ?l_lowest ?c_lowest ?k_lowest ?a_added ?l_added ?c_added ?k_added ?a_Eveningu_initu ?i_Eveningu_initu ?l_Eveningu_initu ?c_Eveningu_initu ?k_Eveningu_initu ?a_L_made ?l_L_made ?c_L_made ?k_L_made ?a_q_figures ?l_q_figures ?c_q_figures ?k_q_figures ?a_amount_text ?l_amount_text ?c_amount_text ?k_amount_text ?a_q_side_text ?l_q_side_text ?c_q_side_text ?k_q_side_text ?a_evening_text ?l_evening_text ?c_evening_text ?k_evening_text ?a_q_parted ?l_q_parted ?c_q_parted ?k_q_parted ?a_is_spelt_number ?l_is_spelt_number ?c_is_spelt_number ?k_is_spelt_number ?a_q_read_amount ?l_q_read_amount ?c_q_read_amount ?k_q_read_amount ?a_q_read_side ?l_q_read_side ?c_q_read_side ?k_q_read_side ?a_read_evening ?l_read_evening ?c_read_evening ?k_read_evening ?a_L_amount_text ?l_L_amount_text ?c_L_amount_text ?k_L_amount_text ?a_L_text ?l_L_text ?c_L_text ?k_L_text ?a_Eveningu_equ ?i_Eveningu_equ ?l_Eveningu_equ ?c_Eveningu_equ ?k_Eveningu_equ ?a_law ?l_law ?c_law ?k_law
    (case h_Evening => k_is)
    (case pg_Evening => k_is)
    (case hd_Evening => k_is)
    (case po_Evening => k_is)
    (case sa_Evening => k_is)
    (case mk_Evening => k_is)
    (case kc_Evening => k_is)
    (case cl_Evening_ => k_is)
    (case ge_Evening => k_is)
    (case se_Evening => k_is)
    (case mr_Evening => k_is)
    (case k1_tuple => k_is)
    (case k1_int => k_is)
    (case k1_bool => k_is)
    (case k1_list => k_is)
    (case k1_dict => k_is)
    (case k1_str => k_is)
    (case ne_Evening => k_is)
    (case na_nO => k_is)
    (case na_nD => k_is)
    (case z_abs => k_is)
    (case z_all => k_is)
    (case z_bool => k_is)
    (case z_enumerate => k_is)
    (case z_int => k_is)
    (case z_isinstance => k_is)
    (case z_len => k_is)
    (case z_max => k_is)
    (case z_min => k_is)
    (case z_range => k_is)
    (case z_str => k_is)
    (case z_sum => k_is)
    (case z_tuple => k_is)
    (case z_AMOUNT_FIGURES => k_is)
    (case r_AMOUNT_FIGURES => exact ⟨_, rfl⟩)
    (case z_CHUNK => k_is)
    (case r_CHUNK => exact ⟨_, rfl⟩)
    (case z_FIGURES => k_is)
    (case r_FIGURES => exact ⟨_, rfl⟩)
    (case z_MOST_SUMS => k_is)
    (case r_MOST_SUMS => exact ⟨_, rfl⟩)
    (case z_SIDES => k_is)
    (case lk_SIDES => k_is)
    (case r_SIDES => exact ⟨_, _, rfl, rfl, by decide, .cons ⟨_, rfl⟩ (.cons ⟨_, rfl⟩ (.nil)), by decide +kernel⟩)
    (case z_gcd => k_is)
    (case z_lcm => k_is)
    (case a_L_draw => k_is)
    (case l_L_draw => k_is)
    (case c_L_draw => k_is)
    (case k_L_draw => k_is)
    (case a_L_hand => k_is)
    (case l_L_hand => k_is)
    (case c_L_hand => k_is)
    (case k_L_hand => k_is)
    (case a_L_cut => k_is)
    (case l_L_cut => k_is)
    (case c_L_cut => k_is)
    (case k_L_cut => k_is)
    (case a_L_numbers => k_is)
    (case l_L_numbers => k_is)
    (case c_L_numbers => k_is)
    (case k_L_numbers => k_is)
    (case a_L_unit => k_is)
    (case l_L_unit => k_is)
    (case c_L_unit => k_is)
    (case k_L_unit => k_is)
    (case a_L_common => k_is)
    (case l_L_common => k_is)
    (case c_L_common => k_is)
    (case k_L_common => k_is)
    (case a_L_fraction => k_is)
    (case l_L_fraction => k_is)
    (case c_L_fraction => k_is)
    (case k_L_fraction => k_is)
    (case a_L_times => k_is)
    (case l_L_times => k_is)
    (case c_L_times => k_is)
    (case k_L_times => k_is)
    (case a_L_sums => k_is)
    (case l_L_sums => k_is)
    (case c_L_sums => k_is)
    (case k_L_sums => k_is)
    (case a_is_integer => k_is)
    (case l_is_integer => k_is)
    (case c_is_integer => k_is)
    (case k_is_integer => k_is)
    (case a_is_fraction => k_is)
    (case l_is_fraction => k_is)
    (case c_is_fraction => k_is)
    (case k_is_fraction => k_is)
    (case a_is_amount => k_is)
    (case l_is_amount => k_is)
    (case c_is_amount => k_is)
    (case k_is_amount => k_is)
    (case a_q_is_side => k_is)
    (case l_q_is_side => k_is)
    (case c_q_is_side => k_is)
    (case k_q_is_side => k_is)
    (case a_common_bottom => k_is)
    (case l_common_bottom => k_is)
    (case c_common_bottom => k_is)
    (case k_common_bottom => k_is)
    (case a_in_units => k_is)
    (case l_in_units => k_is)
    (case c_in_units => k_is)
    (case k_in_units => k_is)
    (case a_lowest => k_is)
    (case l_lowest => k_is)
    (case c_lowest => k_is)
    (case k_lowest => k_is)
    (case a_added => k_is)
    (case l_added => k_is)
    (case c_added => k_is)
    (case k_added => k_is)
    (case a_Eveningu_initu => k_is)
    (case i_Eveningu_initu => k_is)
    (case l_Eveningu_initu => k_is)
    (case c_Eveningu_initu => k_is)
    (case k_Eveningu_initu => k_is)
    (case a_L_made => k_is)
    (case l_L_made => k_is)
    (case c_L_made => k_is)
    (case k_L_made => k_is)
    (case a_q_figures => k_is)
    (case l_q_figures => k_is)
    (case c_q_figures => k_is)
    (case k_q_figures => k_is)
    (case a_amount_text => k_is)
    (case l_amount_text => k_is)
    (case c_amount_text => k_is)
    (case k_amount_text => k_is)
    (case a_q_side_text => k_is)
    (case l_q_side_text => k_is)
    (case c_q_side_text => k_is)
    (case k_q_side_text => k_is)
    (case a_evening_text => k_is)
    (case l_evening_text => k_is)
    (case c_evening_text => k_is)
    (case k_evening_text => k_is)
    (case a_q_parted => k_is)
    (case l_q_parted => k_is)
    (case c_q_parted => k_is)
    (case k_q_parted => k_is)
    (case a_is_spelt_number => k_is)
    (case l_is_spelt_number => k_is)
    (case c_is_spelt_number => k_is)
    (case k_is_spelt_number => k_is)
    (case a_q_read_amount => k_is)
    (case l_q_read_amount => k_is)
    (case c_q_read_amount => k_is)
    (case k_q_read_amount => k_is)
    (case a_q_read_side => k_is)
    (case l_q_read_side => k_is)
    (case c_q_read_side => k_is)
    (case k_q_read_side => k_is)
    (case a_read_evening => k_is)
    (case l_read_evening => k_is)
    (case c_read_evening => k_is)
    (case k_read_evening => k_is)
    (case a_L_amount_text => k_is)
    (case l_L_amount_text => k_is)
    (case c_L_amount_text => k_is)
    (case k_L_amount_text => k_is)
    (case a_L_text => k_is)
    (case l_L_text => k_is)
    (case c_L_text => k_is)
    (case k_L_text => k_is)
    (case a_Eveningu_equ => k_is)
    (case i_Eveningu_equ => k_is)
    (case l_Eveningu_equ => k_is)
    (case c_Eveningu_equ => k_is)
    (case k_Eveningu_equ => k_is)
    (case a_law => k_is)
    (case l_law => k_is)
    (case c_law => k_is)
    (case k_law => k_is)
