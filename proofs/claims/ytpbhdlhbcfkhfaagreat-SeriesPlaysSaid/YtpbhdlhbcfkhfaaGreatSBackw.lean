/-
  Contracts of slices.Backward of a list of chunks, and of a list of samples: places and elements are handed on, the last one first.
-/
import Derived.Test.YtpbhdlhbcfkhfaaGreatSRise
namespace Go.Proofs.YtpbhdlhbcfkhfaaGreat
open Go.RowKit Go.Shelf
set_option linter.unusedVariables false
set_option linter.unusedSimpArgs false
attribute [local go_sem] Oper.semAt_some

/-- The places from the last one down, as far as to j. -/
def revP (n j : Nat) : List Nat := ((List.range n).reverse).take (n - j)
theorem revP_all (n : Nat) : revP n 0 = (List.range n).reverse := by unfold revP; rw [Nat.sub_zero]; exact List.take_of_length_le (by simp)
theorem revP_none (n : Nat) : revP n n = [] := by unfold revP; simp
theorem revP_step (n j : Nat) (h : j < n) : revP n j = revP n (j + 1) ++ [j] ∧ ∃ rest, (List.range n).reverse = revP n (j + 1) ++ j :: rest := by
  have hl : n - (j + 1) < ((List.range n).reverse).length := by simp; omega
  have e : ((List.range n).reverse)[n - (j + 1)] = j := by rw [List.getElem_reverse]; simp; omega
  unfold revP
  refine ⟨?_, ((List.range n).reverse).drop (n - (j + 1) + 1), ?_⟩
  · rw [show n - j = n - (j + 1) + 1 from by omega, List.take_succ_eq_append_getElem hl, e]
  · conv => lhs; rw [← List.take_append_drop (n - (j + 1)) ((List.range n).reverse), List.drop_eq_getElem_cons hl, e]
/-- The blocks of a captured slice: the variable's, the row's. -/
def CapR (n bs : Nat) (a : Option Addr) (k : Nat) : Prop := k = bs ∨ (0 < n ∧ ∃ q, a = some q ∧ k = q.block)
def KR (R : Nat → Prop) (M : World → Nat → Prop) (w wr : World) : Prop := (∀ k, R k → wr.heap[k]? = w.heap[k]? ∧ ¬ M wr k) ∧ w.heap.size ≤ wr.heap.size
theorem KR.keep {R : Nat → Prop} {M : World → Nat → Prop} {w X Y : World} (h : KR R M w X) (hr : ∀ k, R k → k < w.heap.size) (k : KeepM M X Y) : KR R M w Y :=
  ⟨fun i hi => by
    obtain ⟨h1, h2⟩ := h.1 i hi
    obtain ⟨k1, k2⟩ := k.block i (Nat.lt_of_lt_of_le (hr i hi) h.2) h2
    exact ⟨k1.trans h1, k2⟩, Nat.le_trans h.2 k.size⟩
theorem cell_same {w w' : World} {b o : Nat} (h : w'.heap[b]? = w.heap[b]?) : w'.cell? ⟨b, o, none⟩ = w.cell? ⟨b, o, none⟩ := by unfold World.cell?; rw [h]

set_option maxRecDepth 100000 in
set_option maxHeartbeats 2000000 in
theorem back_chunks (bs n cap : Nat) (a : Option Addr) (qs : List Nat) (w : World) (hc : w.cell? ⟨bs, 0, none⟩ = some (.slice a n cap)) (hp : Ptrs w a n cap qs) (hn : n ≤ 1048576) :
    SeqAll 94 #[.pointer (some ⟨bs, 0, none⟩)] (fun j : Nat => #[.int .i64 (j : Int), ptr (qs.getD j 0)]) (List.range n).reverse (CapR n bs a) w := by
  intro l J M W hW hJ hM hR hY hJ0
  have hbs := World.block_lt_of_cell? w _ hc
  have HP := Lib.hid hp
  have HCW := Lib.hid hc
  have HY := Lib.hid hY
  have HM := Lib.hid hM
  have HJ0 := Lib.hid hJ0
  have HKR0 : Hid (0 < n → ∀ q, a = some q → q.block < w.heap.size) := Lib.hid (fun h0 q hq => by
    obtain ⟨b', off, e, hlt, _⟩ := HP.out.at_ 0 h0
    rw [hq] at e; cases e; exact hlt)
  have HK0 := Lib.hid (show KR (fun k => k = bs ∨ (0 < n ∧ ∃ q, a = some q ∧ k = q.block)) M w W from ⟨fun k hk => by
    refine ⟨hW.block k ?_, hR k hk⟩
    rcases hk with rfl | ⟨h0, q, hq, rfl⟩
    · exact hbs
    · exact HKR0.out h0 q hq, hW.size⟩)
  have HRL : Hid (∀ k, (k = bs ∨ (0 < n ∧ ∃ q, a = some q ∧ k = q.block)) → k < w.heap.size) := Lib.hid (fun k hk => by
    rcases hk with rfl | ⟨h0, q, hq, rfl⟩
    · exact hbs
    · exact HKR0.out h0 q hq)
  have cW : W.cell? ⟨bs, 0, none⟩ = some (.slice a n cap) := (cell_same (HK0.out.1 bs (.inl rfl)).1).trans hc
  clear hc hp hY hM hR hJ0 hJ hW
  refine (callsIn_wide (n := 0)).1 ?_
  refine callsIn_of_wp Tryz.func94 rfl trivial ?_ rfl
  simp only [Tryz.ntmps94, List.size_toArray, List.length_cons, List.length_nil, Nat.reduceAdd, Nat.reduceSub, Array.replicate_succ, Array.replicate_zero, List.push_toArray, List.append_toArray, List.nil_append, List.cons_append]
  gi_wp2
  gi_loopw [3] (fun i wr => ∃ j : Nat, j ≤ n ∧ i = .int .i64 ((j : Int) - 1) ∧ J (revP n j) wr ∧ KR (fun k => k = bs ∨ (0 < n ∧ ∃ q, a = some q ∧ k = q.block)) M w wr) (fun i _ => (intOf i + 1).toNat)
  case atStart => exact ⟨n, Nat.le_refl _, rfl, by rw [revP_none]; exact HJ0.out, HK0.out⟩
  case round =>
    obtain ⟨j, hj, rfl, hJj, hK⟩ := hrel
    cases j with
    | zero =>
      rw [revP_all] at hJj
      have hz : ¬ ((0 : Int) ≤ ((0 : Nat) : Int) - 1) := by omega
      gi_wp2
      go_end0
      exact ⟨⟨_, rfl⟩, hJj⟩
    | succ j =>
      obtain ⟨h1, rest, h2⟩ := revP_step n j (by omega)
      have HS := Lib.hid h1
      have c1 : wr.cell? ⟨bs, 0, none⟩ = some (.slice a n cap) := (cell_same (hK.1 bs (.inl rfl)).1).trans HCW.out
      obtain ⟨pb, po, hpe, hpb, x0⟩ := HP.out.at_ j (by omega)
      subst hpe
      have x1 := (cell_same (o := po + j) (hK.1 pb (.inr ⟨by omega, _, rfl, rfl⟩)).1).trans x0
      unfold ptr at x1
      obtain ⟨fn, tmps, assign, body, hy, hR⟩ := HY.out 0 _ j rest wr h2 hJj
      unfold ptr at hy
      generalize qs.getD j 0 = q at hy x1
      have HRR := Lib.hid hR
      have HKK := Lib.hid hK
      clear hR h1 h2 hJj hK
      have hq : ((j + 1 : Nat) : Int) - 1 = (j : Int) := by omega
      rw [hq]
      have hj0 : (0 : Int) ≤ (j : Int) := by omega
      have hj1 : (j : Int) < (n : Int) := by omega
      clear hq
      gi_wp2_with fail
      refine ⟨rfl, HRR.out.mono ?_⟩
      rintro e W6 ⟨rfl, J6, K6⟩
      have HK6 := Lib.hid (HKK.out.keep HRL.out K6)
      have HJ6 := Lib.hid J6
      clear J6 K6 hy HRR c1 x0 x1
      gi_wp2
      go_roundw
      case rel => exact ⟨j, by omega, rfl, by rw [HS.out]; exact HJ6.out, HK6.out⟩
      case measure => simp [intOf] <;> omega

theorem back_chunks_ok (a : Option Addr) (n cap : Nat) (w : World) : Calls Tryz.prog 84 #[.slice a n cap] w fun e w' => e = .returned (.func (.func 94) #[] #[.pointer (some ⟨w.heap.size, 0, none⟩)]) ∧ w' = w.alloc (.cells #[.slice a n cap] 50) := by
  go_enter Tryz.func84, Tryz.ntmps84
  go_wp2
  go_ret
  exact ⟨rfl, rfl⟩

set_option maxRecDepth 100000 in
set_option maxHeartbeats 2000000 in
theorem back_samps (bs n cap : Nat) (a : Option Addr) (z : List (Int × Int)) (w : World) (hc : w.cell? ⟨bs, 0, none⟩ = some (.slice a n cap)) (hp : Lst w a n cap z) (hn : n ≤ 1048576) :
    SeqAll 95 #[.pointer (some ⟨bs, 0, none⟩)] (fun j : Nat => #[.int .i64 (j : Int), .agg #[.int .i64 (tOf z j), .int .i64 (vOf z j)]]) (List.range n).reverse (CapR n bs a) w := by
  intro l J M W hW hJ hM hR hY hJ0
  have hbs := World.block_lt_of_cell? w _ hc
  have HP := Lib.hid hp
  have HCW := Lib.hid hc
  have HY := Lib.hid hY
  have HM := Lib.hid hM
  have HJ0 := Lib.hid hJ0
  have HKR0 : Hid (0 < n → ∀ q, a = some q → q.block < w.heap.size) := Lib.hid (fun h0 q hq => by
    obtain ⟨b', off, e, hlt, _⟩ := HP.out.1.at_ 0 h0
    rw [hq] at e; cases e; exact hlt)
  have HK0 := Lib.hid (show KR (fun k => k = bs ∨ (0 < n ∧ ∃ q, a = some q ∧ k = q.block)) M w W from ⟨fun k hk => by
    refine ⟨hW.block k ?_, hR k hk⟩
    rcases hk with rfl | ⟨h0, q, hq, rfl⟩
    · exact hbs
    · exact HKR0.out h0 q hq, hW.size⟩)
  have HRL : Hid (∀ k, (k = bs ∨ (0 < n ∧ ∃ q, a = some q ∧ k = q.block)) → k < w.heap.size) := Lib.hid (fun k hk => by
    rcases hk with rfl | ⟨h0, q, hq, rfl⟩
    · exact hbs
    · exact HKR0.out h0 q hq)
  have cW : W.cell? ⟨bs, 0, none⟩ = some (.slice a n cap) := (cell_same (HK0.out.1 bs (.inl rfl)).1).trans hc
  clear hc hp hY hM hR hJ0 hJ hW
  refine (callsIn_wide (n := 0)).1 ?_
  refine callsIn_of_wp Tryz.func95 rfl trivial ?_ rfl
  simp only [Tryz.ntmps95, List.size_toArray, List.length_cons, List.length_nil, Nat.reduceAdd, Nat.reduceSub, Array.replicate_succ, Array.replicate_zero, List.push_toArray, List.append_toArray, List.nil_append, List.cons_append]
  gi_wp2
  gi_loopw [3] (fun i wr => ∃ j : Nat, j ≤ n ∧ i = .int .i64 ((j : Int) - 1) ∧ J (revP n j) wr ∧ KR (fun k => k = bs ∨ (0 < n ∧ ∃ q, a = some q ∧ k = q.block)) M w wr) (fun i _ => (intOf i + 1).toNat)
  case atStart => exact ⟨n, Nat.le_refl _, rfl, by rw [revP_none]; exact HJ0.out, HK0.out⟩
  case round =>
    obtain ⟨j, hj, rfl, hJj, hK⟩ := hrel
    cases j with
    | zero =>
      rw [revP_all] at hJj
      have hz : ¬ ((0 : Int) ≤ ((0 : Nat) : Int) - 1) := by omega
      gi_wp2
      go_end0
      exact ⟨⟨_, rfl⟩, hJj⟩
    | succ j =>
      obtain ⟨h1, rest, h2⟩ := revP_step n j (by omega)
      have HS := Lib.hid h1
      have c1 : wr.cell? ⟨bs, 0, none⟩ = some (.slice a n cap) := (cell_same (hK.1 bs (.inl rfl)).1).trans HCW.out
      obtain ⟨pb, po, hpe, hpb, x0, y0⟩ := HP.out.1.at_ j (by omega)
      subst hpe
      have x1 := (cell_same (o := po + j * 2) (hK.1 pb (.inr ⟨by omega, _, rfl, rfl⟩)).1).trans x0
      have y1 := (cell_same (o := po + j * 2 + 1) (hK.1 pb (.inr ⟨by omega, _, rfl, rfl⟩)).1).trans y0
      obtain ⟨fn, tmps, assign, body, hy, hR⟩ := HY.out 0 _ j rest wr h2 hJj
      skip
      have HRR := Lib.hid hR
      have HKK := Lib.hid hK
      clear hR h1 h2 hJj hK
      have hq : ((j + 1 : Nat) : Int) - 1 = (j : Int) := by omega
      rw [hq]
      have hj0 : (0 : Int) ≤ (j : Int) := by omega
      have hj1 : (j : Int) < (n : Int) := by omega
      clear hq
      gi_wp2_with fail
      refine ⟨rfl, HRR.out.mono ?_⟩
      rintro e W6 ⟨rfl, J6, K6⟩
      have HK6 := Lib.hid (HKK.out.keep HRL.out K6)
      have HJ6 := Lib.hid J6
      clear J6 K6 hy HRR c1 x0 x1 y0 y1
      gi_wp2
      go_roundw
      case rel => exact ⟨j, by omega, rfl, by rw [HS.out]; exact HJ6.out, HK6.out⟩
      case measure => simp [intOf] <;> omega

theorem back_samps_ok (a : Option Addr) (n cap : Nat) (w : World) : Calls Tryz.prog 85 #[.slice a n cap] w fun e w' => e = .returned (.func (.func 95) #[] #[.pointer (some ⟨w.heap.size, 0, none⟩)]) ∧ w' = w.alloc (.cells #[.slice a n cap] 53) := by
  go_enter Tryz.func85, Tryz.ntmps85
  go_wp2
  go_ret
  exact ⟨rfl, rfl⟩

end Go.Proofs.YtpbhdlhbcfkhfaaGreat
