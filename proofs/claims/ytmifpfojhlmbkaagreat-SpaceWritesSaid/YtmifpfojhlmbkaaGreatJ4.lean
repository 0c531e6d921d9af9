/-
  Contracts.
-/
import Derived.Test.YtmifpfojhlmbkaaGreatJ0
import Derived.Test.YtmifpfojhlmbkaaGreatJ3
import Derived.RowKit
import Derived.Below
namespace Go.Proofs.YtmifpfojhlmbkaaGreat
open Lib (hid)
set_option maxRecDepth 100000
set_option maxHeartbeats 16000000
open Go.RowKit
set_option linter.unusedVariables false
set_option linter.unusedSimpArgs false
def mpV (p : Tx × (Value × List Lb)) : Tx × Value := (p.1, p.2.1)
def mpL (p : Tx × (Value × List Lb)) : Ent := (p.1, p.2.2)
def LabsAt (w : World) (b : Nat) (E : List Ent) : Prop := ∃ T : List (Tx × (Value × List Lb)), MapAt w b (T.map mpV) ∧ (T.map mpL).Perm E ∧ ∀ p ∈ T, LbV w p.2.1 p.2.2
theorem LabsAt.lt {w : World} {b : Nat} {E : List Ent} (h : LabsAt w b E) : b < w.heap.size := by
  obtain ⟨T, h1, _⟩ := h
  exact h1.lt
theorem keysL_map {β γ : Type} (f : Tx × β → Tx × γ) (hf : ∀ p, (f p).1 = p.1) (L : List (Tx × β)) : keysL (L.map f) = keysL L := by
  unfold keysL
  rw [List.map_map]
  exact List.map_congr_left (fun p _ => hf p)
theorem LabsAt.trn {F : Nat → Prop} {w w' : World} {b : Nat} {E : List Ent} (h : LabsAt w b E) (t : Trn F w w') (hb : ¬ F b) : LabsAt w' b E := by
  obtain ⟨T, h1, h2, h3⟩ := h
  exact ⟨T, h1.same (t.block b h1.lt hb), h2, fun p hp => (h3 p hp).trn t⟩
theorem LabsAt.keys {w : World} {b : Nat} {E : List Ent} {T : List (Tx × (Value × List Lb))} (h2 : (T.map mpL).Perm E) (k : Tx) : k ∈ keysL (T.map mpV) ↔ k ∈ keysL E := by
  rw [keysL_map mpV (fun _ => rfl), ← keysL_map mpL (fun _ => rfl)]
  exact (h2.map Prod.fst).mem_iff
theorem LabsAt.look_hit {w : World} {E : List Ent} {T : List (Tx × (Value × List Lb))} (hn : (keysL (T.map mpV)).Nodup) (h2 : (T.map mpL).Perm E) (h3 : ∀ p ∈ T, LbV w p.2.1 p.2.2) {k : Tx} {l : List Lb} (hl : (k, l) ∈ E) :
    ∃ v, look (T.map mpV) k = some v ∧ LbV w v l := by
  have hm := h2.mem_iff.2 hl
  obtain ⟨p, hp, e⟩ := List.mem_map.1 hm
  obtain ⟨k', v, l'⟩ := p
  simp only [mpL, Prod.mk.injEq] at e
  obtain ⟨rfl, rfl⟩ := e
  exact ⟨v, mem_look hn (List.mem_map.2 ⟨_, hp, rfl⟩), h3 _ hp⟩
theorem LabsAt.look_miss {E : List Ent} {T : List (Tx × (Value × List Lb))} (h2 : (T.map mpL).Perm E) {k : Tx} (hk : k ∉ keysL E) : look (T.map mpV) k = none :=
  look_none.2 (fun h => hk ((LabsAt.keys (w := default) (b := 0) h2 k).1 h))
theorem LabsAt.put {w w' : World} {b : Nat} {E : List Ent} {k : Tx} {l : List Lb} {v : Value} {T : List (Tx × (Value × List Lb))} (h2 : (T.map mpL).Perm E) (h3 : ∀ p ∈ T, LbV w p.2.1 p.2.2) (hk : k ∉ keysL E) (hv : LbV w v l)
    {F : Nat → Prop} (t : Trn F w w') (hm : MapAt w' b (ups (T.map mpV) k v)) : LabsAt w' b (insG (k, l) E) := by
  rw [ups_absent (fun h => hk ((LabsAt.keys (w := w) (b := b) h2 k).1 h))] at hm
  refine ⟨T ++ [(k, v, l)], by rw [List.map_append]; exact hm, ?_, fun p hp => ?_⟩
  · rw [List.map_append]
    refine (h2.append_right _).trans ?_
    refine List.Perm.trans ?_ (insG_perm (k, l) E).symm
    exact List.perm_append_singleton ..
  · rcases List.mem_append.1 hp with hp | hp
    · exact (h3 p hp).trn t
    · rw [List.mem_singleton] at hp
      subst hp; exact hv.trn t
theorem dels_map {β γ : Type} (f : Tx × β → Tx × γ) (hf : ∀ p, (f p).1 = p.1) (L : List (Tx × β)) (k : Tx) : dels (L.map f) k = (dels L k).map f := by
  unfold dels
  rw [List.filter_map]
  congr 1
  exact List.filter_congr (fun p _ => by simp [Function.comp, hf])
theorem LabsAt.del {w w' : World} {b : Nat} {E : List Ent} {k : Tx} {T : List (Tx × (Value × List Lb))} (h2 : (T.map mpL).Perm E) (h3 : ∀ p ∈ T, LbV w p.2.1 p.2.2)
    {F : Nat → Prop} (t : Trn F w w') (hm : MapAt w' b (dels (T.map mpV) k)) : LabsAt w' b (dels E k) := by
  rw [dels_map mpV (fun _ => rfl)] at hm
  refine ⟨dels T k, hm, ?_, fun p hp => (h3 p (mem_dels.1 hp).1).trn t⟩
  rw [← dels_map mpL (fun _ => rfl)]
  exact h2.filter _
def IxCell (w : World) (x bl bn : Nat) : Prop := w.heap[x]? = some (.cells #[mp bl, mp bn] 172 (0, 0))
theorem IxCell.c0 {w : World} {x bl bn : Nat} (h : IxCell w x bl bn) : w.cell? ⟨x, 0, none⟩ = some (mp bl) := by rw [cell_of h]; rfl
theorem IxCell.c1 {w : World} {x bl bn : Nat} (h : IxCell w x bl bn) : w.cell? ⟨x, 1, none⟩ = some (mp bn) := by rw [cell_of h]; rfl
theorem IxCell.trn {F : Nat → Prop} {w w' : World} {x bl bn : Nat} (h : IxCell w x bl bn) (t : Trn F w w') : IxCell w' x bl bn := t.cells _ _ _ _ h
structure IxAt (w : World) (x bl bn : Nat) (ρ : Rho) (E : List Ent) : Prop where
  cell : IxCell w x bl bn
  rl : ρ bl = some .labs
  rn : ρ bn = some .nams
  labs : LabsAt w bl E
  nams : NamsAt w bn ρ (SOf E)
  ok : RhoOk w ρ
  good : GoodE E
theorem IxAt.trn {F : Nat → Prop} {w w' : World} {x bl bn : Nat} {ρ : Rho} {E : List Ent} (h : IxAt w x bl bn ρ E) (t : Trn F w w') (hF : ∀ i, i < w.heap.size → FA ρ i → ¬ F i) : IxAt w' x bl bn ρ E := by
  refine ⟨h.cell.trn t, h.rl, h.rn, h.labs.trn t (hF bl h.labs.lt (by unfold FA; rw [h.rl]; simp)), ?_, fun i r e => ?_, h.good⟩
  · exact h.nams.same (t.block bn h.nams.lt (hF bn h.nams.lt (by unfold FA; rw [h.rn]; simp))) (.refl _ _) (fun c hc f => t.block c hc (hF c hc f.a)) (fun _ _ _ => Iff.rfl)
  · obtain ⟨es, c, hb⟩ := h.ok i r e
    exact ⟨es, c, (t.block i (heap_lt hb) (hF i (heap_lt hb) (by unfold FA; rw [e]; simp))).trans hb⟩
theorem IxAt.keep {w w' : World} {x bl bn : Nat} {ρ : Rho} {E : List Ent} (h : IxAt w x bl bn ρ E) (hb : Below w.heap.size w w') : IxAt w' x bl bn ρ E := h.trn (F := fun _ => False) (.of hb) (fun _ _ _ f => f)
theorem IxAt.lt {w : World} {x bl bn : Nat} {ρ : Rho} {E : List Ent} (h : IxAt w x bl bn ρ E) {i : Nat} (hi : FA ρ i) : i < w.heap.size := by
  cases e : ρ i with
  | none => exact absurd e hi
  | some r => exact h.ok.lt e
structure IxTurn (w w' : World) (x bl bn : Nat) (ρ ρ' : Rho) (E' : List Ent) : Prop where
  ix : IxAt w' x bl bn ρ' E'
  ext : RExt w ρ ρ'
  trn : Trn (FA ρ) w w'
theorem IxTurn.pre {w w1 w2 : World} {x bl bn : Nat} {ρ ρ' : Rho} {E' : List Ent} (hb : Below w.heap.size w w1) (h : IxTurn w1 w2 x bl bn ρ ρ' E') : IxTurn w w2 x bl bn ρ ρ' E' :=
  ⟨h.ix, fun i hi => h.ext i (Nat.lt_of_lt_of_le hi hb.size), (Trn.of (F := FA ρ) hb).trans h.trn (fun _ _ f => f)⟩
theorem IxTurn.trans {w w1 w2 : World} {x bl bn : Nat} {ρ ρ1 ρ2 : Rho} {E1 E2 : List Ent} (h : IxTurn w w1 x bl bn ρ ρ1 E1) (k : IxTurn w1 w2 x bl bn ρ1 ρ2 E2) : IxTurn w w2 x bl bn ρ ρ2 E2 :=
  ⟨k.ix, h.ext.trans k.ext h.trn.size, h.trn.trans k.trn (fun i hi f => by unfold FA at *; rw [h.ext i hi] at f; exact f)⟩
theorem IxTurn.thenB {w w1 w2 : World} {x bl bn : Nat} {ρ ρ1 : Rho} {E1 : List Ent} (h : IxTurn w w1 x bl bn ρ ρ1 E1) (hb : Below w1.heap.size w1 w2) : IxTurn w w2 x bl bn ρ ρ1 E1 :=
  ⟨h.ix.keep hb, h.ext, h.trn.thenB hb⟩
def kok (k : Int) : Prop := 1 ≤ k ∧ k ≤ 7
theorem kinds {k : Int} (h : kok k) : k = 1 ∨ k = 2 ∨ k = 3 ∨ k = 4 ∨ k = 5 ∨ k = 6 ∨ k = 7 := by unfold kok at h; omega
instance (k : Int) : Decidable (kok k) := inferInstanceAs (Decidable (_ ∧ _))
theorem aright_any0 (k : Int) (w : World) : Calls Tryz.prog 161 #[.int .i64 k] w fun e w' => e = .returned (.bool (decide (1 ≤ k ∧ k ≤ 7))) ∧ w = w' := by
  by_cases h : 1 ≤ k
  · by_cases h' : k ≤ 7
    all_goals
      go_enter Tryz.func161, Tryz.ntmps161
      go_wp2
      go_ret
      exact ⟨ret_bool (by simp; omega), rfl⟩
  · go_enter Tryz.func161, Tryz.ntmps161
    go_wp2
    go_ret
    exact ⟨ret_bool (by simp; omega), rfl⟩
theorem aright_any (k : Int) (w : World) : Calls Tryz.prog 161 #[.int .i64 k] w fun e w' => e = .returned (.bool (decide (kok k))) ∧ w = w' := aright_any0 k w
def bitsOf (u : Nat) : Nat → List Bool
  | 0 => []
  | k + 1 => bitsOf (u / 2) k ++ [u % 2 == 1]
theorem bitsOf_length (u k : Nat) : (bitsOf u k).length = k := by
  induction k generalizing u with
  | zero => rfl
  | succ k ih => simp [bitsOf, ih]
def wid : Nat → Nat
  | 0 => 0
  | 1 => 7
  | 2 => 12
  | 3 => 24
  | _ => 64
def headN (k : Nat) : Nat := min (k + 1) 4
def onesN (u : Nat) : Nat := if u = 0 then 0 else if u < 128 then 1 else if u < 4096 then 2 else if u < 16777216 then 3 else 4
def pre (k : Nat) : List Bool := List.replicate k true ++ List.replicate (headN k - k) false
def code (u : Nat) : List Bool := pre (onesN u) ++ bitsOf u (wid (onesN u))
def csize (u : Nat) : Nat := headN (onesN u) + wid (onesN u)
theorem onesN_le (u : Nat) : onesN u ≤ 4 := by unfold onesN; (repeat' split) <;> omega
theorem pre_length (k : Nat) (h : k ≤ 4) : (pre k).length = headN k := by simp [pre, headN]; omega
theorem code_length (u : Nat) : (code u).length = csize u := by
  rw [code, List.length_append, pre_length _ (onesN_le u), bitsOf_length]; rfl
theorem le4 {k : Nat} (h : k ≤ 4) : k = 0 ∨ k = 1 ∨ k = 2 ∨ k = 3 ∨ k = 4 := by omega
theorem csize_le (u : Nat) : 1 ≤ csize u ∧ csize u ≤ 68 := by
  unfold csize
  rcases le4 (onesN_le u) with h | h | h | h | h <;> rw [h] <;> decide
theorem onesN_shift (u k : Nat) (hu : u < 18446744073709551616) (hk : k ≤ 4) : u / 2 ^ wid k = 0 ↔ onesN u ≤ k := by
  rw [Nat.div_eq_zero_iff]
  have : ∀ m : Nat, 2 ^ m ≠ 0 := fun m => Nat.ne_of_gt (Nat.two_pow_pos m)
  simp only [this, false_or]
  unfold onesN
  rcases le4 hk with rfl | rfl | rfl | rfl | rfl <;> simp only [wid] <;> (repeat' split) <;> omega
theorem wid_le (k : Nat) : wid k ≤ 64 := by unfold wid; split <;> omega
def u64 (n : Int) : Nat := (n % 18446744073709551616).toNat
def zigZ (n : Int) : Nat := (if 0 ≤ n then 2 * n else -2 * n - 1).toNat
theorem zigZ_lt (n : Int) (h : in64 n) : zigZ n < 18446744073709551616 := by unfold in64 at h; unfold zigZ; split <;> omega
def tOf (z : List (Int × Int)) (i : Nat) : Int := (z.getD i (0, 0)).1
def vOf (z : List (Int × Int)) (i : Nat) : Int := (z.getD i (0, 0)).2
def stepOf (z : List (Int × Int)) : Nat → Int
  | 0 => 0
  | i + 1 => wrap64 (tOf z (i + 1) - tOf z i)
def tNum (z : List (Int × Int)) (i : Nat) : Nat := zigZ (wrap64 (stepOf z (i + 1) - stepOf z i))
def vNum (z : List (Int × Int)) (i : Nat) : Nat := zigZ (wrap64 (vOf z (i + 1) - vOf z i))
def firstB (b : Nat) (x : Int × Int) : List Bool := bitsOf (u64 x.1) b ++ bitsOf (u64 x.2) b
def piece (z : List (Int × Int)) : Nat → List Bool
  | 0 => firstB 64 (tOf z 0, vOf z 0)
  | i + 1 => code (tNum z i) ++ code (vNum z i)
def encTo (z : List (Int × Int)) : Nat → List Bool
  | 0 => []
  | j + 1 => encTo z j ++ piece z j
def All64 (z : List (Int × Int)) : Prop := ∀ x ∈ z, in64 x.1 ∧ in64 x.2
theorem all64_take {z : List (Int × Int)} (h : All64 z) (k : Nat) : All64 (z.take k) := fun x hx => h x (List.mem_of_mem_take hx)
theorem all64_drop {z : List (Int × Int)} (h : All64 z) (k : Nat) : All64 (z.drop k) := fun x hx => h x (List.mem_of_mem_drop hx)
theorem tNum_lt (z : List (Int × Int)) (i : Nat) : tNum z i < 18446744073709551616 := zigZ_lt _ (wrap64_in64 _)
theorem vNum_lt (z : List (Int × Int)) (i : Nat) : vNum z i < 18446744073709551616 := zigZ_lt _ (wrap64_in64 _)
theorem piece_length (z : List (Int × Int)) (i : Nat) : (piece z i).length = if i = 0 then 128 else csize (tNum z (i - 1)) + csize (vNum z (i - 1)) := by
  cases i with
  | zero => simp [piece, firstB, bitsOf_length]
  | succ i => simp [piece, code_length]
theorem piece_le (z : List (Int × Int)) (i : Nat) : (piece z i).length ≤ 136 := by
  rw [piece_length]
  have h1 := csize_le (tNum z (i - 1))
  have h2 := csize_le (vNum z (i - 1))
  split <;> omega
theorem encTo_le (z : List (Int × Int)) (j : Nat) : (encTo z j).length ≤ 136 * j := by
  induction j with
  | zero => simp [encTo]
  | succ j ih => rw [encTo, List.length_append]; have := piece_le z j; omega
theorem all64_at {z : List (Int × Int)} (h : All64 z) (i : Nat) : in64 (tOf z i) ∧ in64 (vOf z i) := by
  unfold tOf vOf
  rw [List.getD_eq_getElem?_getD]
  by_cases hi : i < z.length
  · rw [List.getElem?_eq_getElem hi]; exact h _ (List.getElem_mem hi)
  · rw [List.getElem?_eq_none (by omega)]; simp [in64]
theorem encTo_congr {a b : List (Int × Int)} (j : Nat) (h : ∀ i, i < j → a.getD i (0, 0) = b.getD i (0, 0)) : encTo a j = encTo b j := by
  have hst : ∀ i, i < j → stepOf a i = stepOf b i := by
    intro i hi
    cases i with
    | zero => rfl
    | succ i => simp only [stepOf, tOf]; rw [h (i + 1) hi, h i (by omega)]
  have hp : ∀ i, i < j → piece a i = piece b i := by
    intro i hi
    cases i with
    | zero => simp only [piece, tOf, vOf]; rw [h 0 hi]
    | succ i => simp only [piece, tNum, vNum, vOf]; rw [hst (i + 1) hi, hst i (by omega), h (i + 1) hi, h i (by omega)]
  clear h hst
  induction j with
  | zero => rfl
  | succ j ih => rw [encTo, encTo, ih (fun i hi => hp i (by omega)), hp j (by omega)]
def rightB (size align : Int) : Prop := (1 ≤ size ∧ size ≤ 1099511627776) ∧ 0 ≤ align ∧ align < size
instance (size align : Int) : Decidable (rightB size align) := inferInstanceAs (Decidable (_ ∧ _))
def startB (t size align : Int) : Int := if ¬ rightB size align ∨ t < align ∨ 1099511627776 < t then 0 else align + (t - align) / size * size
def endB (b size align : Int) : Int := if ¬ rightB size align ∨ b < 0 ∨ 1099511627776 < b then 0 else if b < align then align else startB b size align + size
theorem startB_of {t size align : Int} (h : rightB size align) (h0 : align ≤ t) (h1 : t ≤ 1099511627776) : startB t size align = align + (t - align) / size * size := by
  unfold startB
  rw [if_neg]
  rintro (h2 | h2 | h2)
  · exact h2 h
  · omega
  · omega
theorem startB_low {t size align : Int} (h : t < align) : startB t size align = 0 := by unfold startB; rw [if_pos (.inr (.inl h))]
theorem whole_le (x size : Int) (hs : 1 ≤ size) : x / size * size ≤ x ∧ x < x / size * size + size := by
  have h1 := Int.emod_nonneg x (show size ≠ 0 by omega)
  have h2 := Int.emod_lt_of_pos x (show 0 < size by omega)
  have h3 := Int.mul_ediv_add_emod x size
  rw [Int.mul_comm] at h3
  omega
theorem div_nonneg' {x size : Int} (hx : 0 ≤ x) (hs : 1 ≤ size) : 0 ≤ x / size := Int.ediv_nonneg hx (by omega)
theorem mul_nonneg' {x size : Int} (hx : 0 ≤ x) (hs : 1 ≤ size) : 0 ≤ x / size * size := Int.mul_nonneg (div_nonneg' hx hs) (by omega)
theorem whole_of {k r size : Int} (h0 : 0 ≤ r) (h1 : r < size) : (k * size + r) / size = k := by
  rw [Int.add_comm, Int.add_mul_ediv_right _ _ (by omega), Int.ediv_eq_zero_of_lt h0 h1, Int.zero_add]
theorem startB_is {t size align : Int} (h : rightB size align) (h0 : 0 ≤ t) (h1 : t ≤ 1099511627776) : (t < align ∧ startB t size align = 0) ∨ (align ≤ t ∧ ∃ k, 0 ≤ k ∧ startB t size align = align + k * size ∧ align + k * size ≤ t ∧ t < align + k * size + size) := by
  by_cases h2 : t < align
  · exact .inl ⟨h2, startB_low h2⟩
  · have h3 := whole_le (t - align) size h.1.1
    exact .inr ⟨by omega, (t - align) / size, div_nonneg' (by omega) h.1.1, startB_of h (by omega) h1, by omega, by omega⟩
theorem startB_eq {t size align k : Int} (h : rightB size align) (h1 : t ≤ 1099511627776) (hk : 0 ≤ k) (h2 : align + k * size ≤ t) (h3 : t < align + k * size + size) : startB t size align = align + k * size := by
  have h4 : 0 ≤ k * size := Int.mul_nonneg hk (by have := h.1.1; omega)
  rw [startB_of h (by omega) h1, show t - align = k * size + (t - align - k * size) from by omega, whole_of (by omega) (by omega)]
theorem startB_range {t size align : Int} (h : rightB size align) (h0 : 0 ≤ t) (h1 : t ≤ 1099511627776) : 0 ≤ startB t size align ∧ startB t size align ≤ t := by
  have ha := h.2.1
  rcases startB_is h h0 h1 with ⟨_, e⟩ | ⟨_, k, hk, e, h2, _⟩
  · omega
  · have h4 : 0 ≤ k * size := Int.mul_nonneg hk (by have := h.1.1; omega)
    omega
theorem startB_self {t size align : Int} (h : rightB size align) (h0 : 0 ≤ t) (h1 : t ≤ 1099511627776) : startB (startB t size align) size align = startB t size align := by
  have hs := h.1.1
  have ha := h.2.1
  rcases startB_is h h0 h1 with ⟨h2, e⟩ | ⟨_, k, hk, e, h2, _⟩
  · rw [e]
    by_cases h3 : align = 0
    · omega
    · exact startB_low (by omega)
  · rw [e]
    exact startB_eq h (by omega) hk (by omega) (by omega)
theorem endB_of {b size align : Int} (h : rightB size align) (h0 : 0 ≤ b) (h1 : b ≤ 1099511627776) : endB b size align = if b < align then align else startB b size align + size := by
  unfold endB
  rw [if_neg]
  rintro (h2 | h2 | h2)
  · exact h2 h
  · omega
  · omega
theorem endB_is {t size align : Int} (h : rightB size align) (h0 : 0 ≤ t) (h1 : t ≤ 1099511627776) : endB (startB t size align) size align = endB t size align ∧ t < endB t size align ∧ endB t size align - startB t size align ≤ size ∧ startB t size align < endB t size align := by
  have hs := h.1.1
  have ha := h.2.1
  have hl := h.2.2
  have hr := startB_range h h0 h1
  have hself := startB_self h h0 h1
  rw [endB_of h h0 h1, endB_of h hr.1 (by omega)]
  rcases startB_is h h0 h1 with ⟨h2, e⟩ | ⟨h4, k, hk, e, h2, h3⟩
  · rw [if_pos h2, e, if_pos (by omega)]; omega
  · have h4 : 0 ≤ k * size := Int.mul_nonneg hk (by omega)
    rw [if_neg (by omega), if_neg (by omega), hself]; omega
theorem same_bucket {t u size align : Int} (h : rightB size align) (ht0 : 0 ≤ t) (ht1 : t ≤ 1099511627776) (hu0 : 0 ≤ u) (hu1 : u ≤ 1099511627776) : startB u size align = startB t size align ↔ startB t size align ≤ u ∧ u < endB t size align := by
  have hs := h.1.1
  have ha := h.2.1
  have hu := endB_is h hu0 hu1
  have hru := startB_range h hu0 hu1
  constructor
  · intro e
    refine ⟨by omega, ?_⟩
    have h5 := endB_is h ht0 ht1
    have : endB t size align = endB u size align := by rw [← h5.1, ← hu.1, e]
    omega
  · rintro ⟨h1, h2⟩
    rw [endB_of h ht0 ht1] at h2
    rcases startB_is h ht0 ht1 with ⟨h3, e⟩ | ⟨h3, k, hk, e, h4, h5⟩
    · rw [if_pos h3] at h2
      rw [e, startB_low h2]
    · rw [if_neg (by omega), e] at h2
      rw [e] at h1 ⊢
      exact startB_eq h hu1 hk h1 h2
theorem startB_mono {t u size align : Int} (h : rightB size align) (h0 : 0 ≤ t) (htu : t ≤ u) (h1 : u ≤ 1099511627776) : startB t size align ≤ startB u size align := by
  have hs := h.1.1
  have ha := h.2.1
  rcases startB_is h h0 (by omega) with ⟨_, e⟩ | ⟨h3, k, hk, e, h4, h5⟩
  · have := (startB_range h (show 0 ≤ u by omega) h1).1; omega
  · rcases startB_is h (show 0 ≤ u by omega) h1 with ⟨h6, _⟩ | ⟨_, m, hm, e2, h7, h8⟩
    · omega
    · rw [e, e2]
      have : k ≤ m := by
        apply Int.le_of_lt_add_one
        have h9 : k * size < (m + 1) * size := by rw [Int.add_mul, Int.one_mul]; omega
        exact Int.lt_of_mul_lt_mul_right h9 (by omega)
      have := Int.mul_le_mul_of_nonneg_right this (show 0 ≤ size by omega)
      omega
theorem endB_next {t size align : Int} (h : rightB size align) (h0 : 0 ≤ t) (h1 : t ≤ 1099511627776) (he : endB t size align ≤ 1099511627776) : startB (endB t size align) size align = endB t size align := by
  have hs := h.1.1
  have ha := h.2.1
  rw [endB_of h h0 h1] at he ⊢
  rcases startB_is h h0 h1 with ⟨h3, e⟩ | ⟨h3, k, hk, e, h4, h5⟩
  · rw [if_pos h3] at he ⊢
    have := startB_eq (t := align) (k := 0) h he (by omega) (by omega) (by omega)
    omega
  · rw [if_neg (by omega), e] at he ⊢
    have := startB_eq (t := align + k * size + size) (k := k + 1) h he (by omega) (by rw [Int.add_mul, Int.one_mul]; omega) (by rw [Int.add_mul, Int.one_mul]; omega)
    rw [this, Int.add_mul, Int.one_mul]; omega
def addG (f : Int → Int) (gs : List (Int × List (Int × Int))) (x : Int × Int) : List (Int × List (Int × Int)) :=
  match gs.getLast? with
  | some g => if g.1 = f x.1 then gs.dropLast ++ [(g.1, g.2 ++ [x])] else gs ++ [(f x.1, [x])]
  | none => [(f x.1, [x])]
def grp (f : Int → Int) (l : List (Int × Int)) : List (Int × List (Int × Int)) := l.foldl (addG f) []
theorem grp_snoc (f : Int → Int) (l : List (Int × Int)) (x : Int × Int) : grp f (l ++ [x]) = addG f (grp f l) x := by unfold grp; rw [List.foldl_append]; rfl
theorem snoc_cases {P : List (Int × Int) → Prop} (h0 : P []) (h1 : ∀ l x, P l → P (l ++ [x])) (l : List (Int × Int)) : P l := by
  have : ∀ n (l : List (Int × Int)), l.length = n → P l := by
    intro n
    induction n with
    | zero => intro l hl; rw [List.eq_nil_of_length_eq_zero hl]; exact h0
    | succ n ih =>
      intro l hl
      have hne : l ≠ [] := by intro e; subst e; simp at hl
      rw [← List.dropLast_concat_getLast hne]
      exact h1 _ _ (ih _ (by simp; omega))
  exact this _ l rfl
theorem addG_new {f : Int → Int} {gs : List (Int × List (Int × Int))} {x : Int × Int} (h : ∀ g ∈ gs.getLast?, g.1 ≠ f x.1) : addG f gs x = gs ++ [(f x.1, [x])] := by
  unfold addG
  cases hg : gs.getLast? with
  | none => rw [List.getLast?_eq_none_iff.1 hg]; rfl
  | some g => simp only; rw [if_neg (h g hg)]
theorem addG_old {f : Int → Int} {ds : List (Int × List (Int × Int))} {g : Int × List (Int × Int)} {x : Int × Int} (h : g.1 = f x.1) : addG f (ds ++ [g]) x = ds ++ [(g.1, g.2 ++ [x])] := by
  unfold addG
  simp [h]
theorem addG_cases (f : Int → Int) (gs : List (Int × List (Int × Int))) (x : Int × Int) : ((∀ g ∈ gs.getLast?, g.1 ≠ f x.1) ∧ addG f gs x = gs ++ [(f x.1, [x])]) ∨ ∃ ds g, gs = ds ++ [g] ∧ g.1 = f x.1 ∧ addG f gs x = ds ++ [(g.1, g.2 ++ [x])] := by
  by_cases hne : gs = []
  · subst hne; exact .inl ⟨by simp, rfl⟩
  · have e := List.dropLast_concat_getLast hne
    by_cases h : (gs.getLast hne).1 = f x.1
    · refine .inr ⟨gs.dropLast, gs.getLast hne, e.symm, h, ?_⟩
      conv => lhs; rw [← e]
      exact addG_old h
    · refine .inl ⟨fun g hg => ?_, addG_new fun g hg => ?_⟩
      all_goals
        rw [List.getLast?_eq_some_getLast hne] at hg
        simp at hg
        subst hg
        exact h
theorem grp_flat (f : Int → Int) (l : List (Int × Int)) : ((grp f l).map (·.2)).flatten = l := by
  refine snoc_cases (P := fun l => ((grp f l).map (·.2)).flatten = l) rfl ?_ l
  intro l x ih
  rw [grp_snoc]
  rcases addG_cases f (grp f l) x with ⟨_, e⟩ | ⟨ds, g, e1, _, e⟩
  · rw [e]; simp [ih]
  · rw [e1] at ih
    rw [e]
    conv => rhs; rw [← ih]
    simp
theorem grp_mem (f : Int → Int) (l : List (Int × Int)) : ∀ g ∈ grp f l, g.2 ≠ [] ∧ ∀ u ∈ g.2, f u.1 = g.1 := by
  refine snoc_cases (P := fun l => ∀ g ∈ grp f l, g.2 ≠ [] ∧ ∀ u ∈ g.2, f u.1 = g.1) (by simp [grp]) ?_ l
  intro l x ih g hg
  rw [grp_snoc] at hg
  rcases addG_cases f (grp f l) x with ⟨_, e⟩ | ⟨ds, g0, e1, h1, e⟩
  · rw [e] at hg
    rcases List.mem_append.1 hg with hg | hg
    · exact ih g hg
    · have e2 : g = (f x.1, [x]) := by simpa using hg
      subst e2
      exact ⟨by simp, by simp⟩
  · rw [e] at hg
    rcases List.mem_append.1 hg with hg | hg
    · exact ih g (by rw [e1]; simp [hg])
    · have e2 : g = (g0.1, g0.2 ++ [x]) := by simpa using hg
      subst e2
      refine ⟨by simp, ?_⟩
      intro u hu
      rcases List.mem_append.1 hu with hu | hu
      · exact (ih g0 (by rw [e1]; simp)).2 u hu
      · have e3 : u = x := by simpa using hu
        subst e3; exact h1.symm
end Go.Proofs.YtmifpfojhlmbkaaGreat
