/-
  Contracts of chunk.half, chunk.Split, chunk.Copy.
  Condition: at most 2^20 samples.
-/
import Derived.Test.YtpbhdlhbcfkhfaaGreatCJoin
namespace Go.Proofs.YtpbhdlhbcfkhfaaGreat
open Go.RowKit
set_option linter.unusedVariables false
set_option linter.unusedSimpArgs false

set_option maxHeartbeats 1000000 in
theorem half_test (a : Option Addr) (len cap : Nat) (z : List (Int × Int)) (i bl ba all : Nat) (w : World) (hz : Lst w a len cap z) (hi : i < len) (hn : len ≤ 1048576) (hall : all ≤ 1073741824)
    (cl : w.cell? ⟨bl, 0, none⟩ = some (.slice a len cap)) (ct : w.cell? ⟨ba, 0, none⟩ = some (.int .i64 (all : Int))) :
    Calls Tryz.prog 92 #[.int .i64 (i : Int), .pointer (some ⟨bl, 0, none⟩), .pointer (some ⟨ba, 0, none⟩)] w fun e w' => e = .returned (.bool (decide (all ≤ 2 * (encTo z (i + 1)).length))) ∧ Below w.heap.size w w' := by
  obtain ⟨j, hj⟩ : ∃ j, i + 1 = j := ⟨_, rfl⟩
  obtain ⟨a1, hs1, LA⟩ := lst_to hz j (by omega)
  have HLA0 := Lib.hid LA
  have HLA : Hid (Lst w.drew a1 j cap (z.take j)) := HLA0
  have HB := Lib.hid (bitsZ_take z j (by rw [hz.len]; omega))
  rw [hj]
  have hle := encTo_le z j
  have hjn : j ≤ 1048576 := by omega
  have hbl : bl < w.heap.size := World.block_lt_of_cell? w _ cl
  have hba : ba < w.heap.size := World.block_lt_of_cell? w _ ct
  have h1 : IntKind.i64.wrap ((i : Int) + 1) = (j : Int) := by rw [IntWalk.i64_in _ ⟨by omega, by omega⟩]; omega
  have h2 : IntKind.i64.wrap (2 * ((encTo z j).length : Int)) = 2 * ((encTo z j).length : Int) := IntWalk.i64_in _ ⟨by omega, by omega⟩
  clear HLA0 LA hz hj
  generalize (encTo z j).length = nb at *
  go_enter Tryz.func92, Tryz.ntmps92
  go_wp2_with fail
  go_region_held3 (fun w' => w'.cell? ⟨bl, 0, none⟩ = some (.slice a len cap) ∧ w'.cell? ⟨ba, 0, none⟩ = some (.int .i64 (all : Int)))
    (first
      | go_keep
      | (go_split_ands
         refine ⟨?_, ?_⟩
         · (rw [b6.cell (by simpa using hbl)]; assumption)
         · (rw [b6.cell (by simpa using hba)]; assumption)))
    (first
      | (go_at_call 76
         (with_reducible refine (bits_lst a1 j cap (z.take j) _ HLA.out hjn).mono ?_)
         rintro e W6 ⟨rfl, b6⟩
         rw [HB.out]))
  have g6 : w.grownBy W6 none := gb_trans (Drew.gb (w := w) (w' := w.drew) ⟨1, rfl⟩ none) (gb_below b6)
  go_wp2
  go_ret
  refine ⟨ret_bool ?_, gb_below_none g6⟩
  simp
  omega

set_option maxHeartbeats 1000000 in
theorem half_ok (a : Option Addr) (len cap : Nat) (z : List (Int × Int)) (w : World) (hz : Lst w a len cap z) (hl : len ≤ 1048576) (h2 : 2 ≤ len) :
    Calls Tryz.prog 77 #[.slice a len cap] w (SearchP (halfK z) w) := by
  have HL := Lib.hid hz.len
  have hK := halfK_le z (by rw [hz.len]; exact h2)
  rw [hz.len] at hK
  have HI := Lib.hid (halfK_iff z)
  have hle := bitsZ_le z
  rw [hz.len] at hle
  have hz2 := hz.keepN (World.grownBy_alloc w (.cells #[.slice a len cap] 53) none)
  have B1 := (Below.refl w.heap.size w).alloc (Nat.le_refl _) (.cells #[.slice a len cap] 53)
  have hn1 := Lib.hid (heap_new w (.cells #[.slice a len cap] 53))
  have s1 : w.heap.size < (w.alloc (.cells #[.slice a len cap] 53)).heap.size := by simp
  clear hz
  go_enter Tryz.func77, Tryz.ntmps77
  go_wp2_with fail
  generalize w.alloc (.cells #[.slice a len cap] 53) = W1 at *
  have cl : W1.cell? ⟨w.heap.size, 0, none⟩ = some (.slice a len cap) := by rw [cell_of hn1.out]; rfl
  go_wp2_with fail
  refine (bits_lst a len cap z _ hz2 hl).mono ?_
  rintro e W2 ⟨rfl, b2⟩
  have B2 := bel_gbn B1 (Nat.le_of_lt s1) (gb_below b2)
  have s2 := Nat.lt_of_lt_of_le s1 b2.size
  have hz3 := hz2.keepB b2
  rw [← b2.cell s1] at cl
  clear B1 b2 hz2 s1 hn1
  obtain ⟨nb, hnb⟩ : ∃ nb, bitsZ z = nb := ⟨_, rfl⟩
  rw [hnb] at hle ⊢
  have HNB := Lib.hid hnb
  clear hnb
  have hsub : ((len : Int) - 2) = ((len - 2 : Nat) : Int) := by omega
  have HSUB := Lib.hid hsub
  clear hsub
  have cl3 : (W2.alloc (.cells #[.int .i64 (nb : Int)] 3)).cell? ⟨w.heap.size, 0, none⟩ = some (.slice a len cap) := by rw [((Below.refl W2.heap.size W2).alloc (Nat.le_refl _) _).cell s2]; exact cl
  go_wp2_with fail
  rw [HSUB.out]
  have B3 := B2.alloc (Nat.le_of_lt s2) (.cells #[.int .i64 (nb : Int)] 3)
  have hz4 := hz3.keepN (World.grownBy_alloc W2 (.cells #[.int .i64 (nb : Int)] 3) none)
  have ca : (W2.alloc (.cells #[.int .i64 (nb : Int)] 3)).cell? ⟨W2.heap.size, 0, none⟩ = some (.int .i64 (nb : Int)) := by rw [cell_of (heap_new W2 _)]; rfl
  have s3 : W2.heap.size < (W2.alloc (.cells #[.int .i64 (nb : Int)] 3)).heap.size := by simp
  clear B2 hz3 cl HSUB
  generalize W2.alloc (.cells #[.int .i64 (nb : Int)] 3) = W3 at *
  generalize W2.heap.size = k2 at *
  refine (search_any (len - 2) (halfK z - 1) 92 _ W3 (by omega) (by omega) (enters_of Tryz.func92 (by kernel_rfl) rfl) ?_).mono ?_
  · intro i wr hi hb
    refine (half_test a len cap z i w.heap.size k2 nb wr (hz4.keepB hb) (by omega) hl (by omega) (by rw [hb.cell (by simp; omega)]; exact cl3) (by rw [hb.cell s3]; exact ca)).mono ?_
    rintro e w' ⟨rfl, b⟩
    refine ⟨ret_bool ?_, b⟩
    have := HI.out i (by rw [HL.out]; exact hi)
    rw [HNB.out] at this
    apply decide_eq_decide.2
    omega
  · rintro e W4 ⟨rfl, b4⟩
    have B4 := B3.trans (b4.mono (by omega))
    clear B3 b4 cl3 ca hz4
    obtain ⟨q, hq⟩ : ∃ q, halfK z = q + 1 := ⟨halfK z - 1, by omega⟩
    rw [hq, Nat.add_sub_cancel]
    rw [hq] at hK
    have HQ := Lib.hid hq
    clear hq
    go_wp2
    go_ret
    exact ⟨ret_int (by rw [HQ.out]; omega), B4⟩

def SplitP (b : Nat) (sz : Int) (z : List (Int × Int)) (w : World) (e : Ending) (w' : World) : Prop :=
  ∃ o, e = .returned (.tuple #[.pointer (some ⟨o, 0, none⟩), .int .i64 0]) ∧ w.heap.size ≤ o ∧ PCk w' b sz (z.take (halfK z)) ∧ PCk w' o sz (z.drop (halfK z)) ∧ w.grownBy w' (some b)

theorem split_few (b : Nat) (sz : Int) (z : List (Int × Int)) (w : World) (h : PCk w b sz z) (hs : 1 ≤ sz) (hn : z.length < 2) :
    Calls Tryz.prog 60 #[.pointer (some ⟨b, 0, none⟩)] w fun e w' => e = .returned (.tuple #[.pointer none, .int .i64 5]) ∧ w = w' := by
  obtain ⟨a, cap, hc, hl⟩ := h
  have c1 : w.cell? ⟨b, 1, none⟩ = some (.slice a z.length cap) := by rw [cell_of hc]; rfl
  have HC := Lib.hid hc
  clear hc hl
  go_enter Tryz.func60, Tryz.ntmps60
  go_wp2_with fail
  refine (isNone_no b sz _ _ HC.out hs).mono ?_
  rintro e w' ⟨rfl, rfl⟩
  go_wp2
  go_ret2
  exact ⟨rfl, rfl⟩

set_option maxRecDepth 100000 in
set_option maxHeartbeats 2000000 in
theorem split_ok (b : Nat) (sz : Int) (z : List (Int × Int)) (w : World) (h : PCk w b sz z) (hs : 1 ≤ sz) (hn : z.length ≤ 1048576) (h2 : 2 ≤ z.length) :
    Calls Tryz.prog 60 #[.pointer (some ⟨b, 0, none⟩)] w (SplitP b sz z w) := by
  have hb := h.lt
  have HW0 := Lib.hid h
  obtain ⟨a, cap, hc, hl⟩ := h
  have hK := halfK_le z h2
  have HC := Lib.hid hc
  have HL := Lib.hid hl
  have c1 : w.cell? ⟨b, 1, none⟩ = some (.slice a z.length cap) := by rw [cell_of hc]; rfl
  obtain ⟨a1, hs1, LA⟩ := lst_from hl (halfK z) (by omega)
  obtain ⟨a2, hs2, LB⟩ := lst_to hl (halfK z) (by omega)
  have HLA := Lib.hid LA
  have HLB := Lib.hid LB
  have HS1 := Lib.hid hs1
  have HS2 := Lib.hid hs2
  clear hc hl LA LB hs1 hs2
  go_enter Tryz.func60, Tryz.ntmps60
  go_wp2_with fail
  refine (isNone_no b sz _ _ HC.out hs).mono ?_
  rintro e w' ⟨rfl, rfl⟩
  go_wp2_with fail
  refine (half_ok a _ cap z _ HL.out hn h2).mono ?_
  rintro e W1 ⟨rfl, b1⟩
  obtain ⟨k, hk⟩ : ∃ k, halfK z = k := ⟨_, rfl⟩
  rw [hk] at hK HLA HLB HS1 HS2 ⊢
  have HK := Lib.hid hk
  clear hk
  have hs1 := HS1.out
  have hs2 := HS2.out
  have hb1 := b1.size
  have HPT0 := Lib.hid (parts_one (HLA.out.keepB b1))
  have HPT : Hid (PartsAt (W1.alloc (.cells #[.slice a1 (z.length - k) (cap - k)] 53)).drew W1.heap.size [z.drop k] (fun _ => a1) (fun _ => cap - k)) := HPT0
  have hc1 := (b1.block b hb).trans HC.out
  clear c1
  have c0 : W1.cell? ⟨b, 0, none⟩ = some (.int .i64 sz) := by rw [cell_of hc1]; rfl
  have c1 : W1.cell? ⟨b, 1, none⟩ = some (.slice a z.length cap) := by rw [cell_of hc1]; rfl
  have hcA := heap_old (o := .cells #[.slice a1 (z.length - k) (cap - k)] 53) hc1
  have cA0 := Lib.hid ((cell_of (o := 0) hcA).trans (by rfl : _ = some (Value.int .i64 sz)))
  have cA1 := Lib.hid ((cell_of (o := 1) hcA).trans (by rfl : _ = some (Value.slice a z.length cap)))
  have HC1 := Lib.hid hc1
  have HD := Lib.hid (show (z.drop k).length = z.length - k from by simp)
  have HF := Lib.hid (show [z.drop k].flatten = z.drop k from by simp)
  have HZD := Lib.hid (show z.length - k ≤ 1048576 from by omega)
  clear HPT0 hcA hc1
  generalize hm : z.length - k = m at *
  generalize cap - k = ck at *
  clear hm
  go_wp2_with fail
  go_region_held3 (fun w' => w'.cell? ⟨b, 0, none⟩ = some (.int .i64 sz) ∧ w'.cell? ⟨b, 1, none⟩ = some (.slice a z.length cap))
    (first
      | exact ⟨cA0.out, cA1.out⟩
      | exact ⟨c6.out, c7.out⟩
      | exact ⟨(((Below.refl W6.heap.size W6).alloc (Nat.le_refl _) _).cell (p := ⟨b, 0, none⟩) s6).trans c6.out, (((Below.refl W6.heap.size W6).alloc (Nat.le_refl _) _).cell (p := ⟨b, 1, none⟩) s6).trans c7.out⟩
      | go_keep)
    (first
      | (go_at_call 54
         (with_reducible refine (laid_len W1.heap.size [z.drop k] _ _ 1 _ (z.drop k) m HF.out HD.out rfl HPT.out (by simp) HZD.out (by omega)).mono ?_)
         rintro e W6 ⟨a6, cap6, rfl, hl6, b6⟩
         have s6 : b < W6.heap.size := by have := b6.size; simp at this; omega
         have c6 := Lib.hid ((b6.cell (p := ⟨b, 0, none⟩) (by simp; omega)).trans cA0.out)
         have c7 := Lib.hid ((b6.cell (p := ⟨b, 1, none⟩) (by simp; omega)).trans cA1.out)))
  have g6 : W1.grownBy W6 none := gb_trans (gb_drew (gb_alloc (gb_refl W1 none) (.cells #[.slice a1 m ck] 53))) (gb_below b6)
  have g7 := gb_alloc g6 (.cells #[.int .i64 sz, .slice a6 m cap6] 76)
  have HO7 : Hid (PCk (W6.alloc (.cells #[.int .i64 sz, .slice a6 m cap6] 76)) W6.heap.size sz (z.drop k)) := by
    have := CAt.new 76 W6 sz a6 cap6 (z.drop k) (by rw [HD.out]; exact hl6)
    rw [HD.out] at this; exact this
  have s7 : W6.heap.size < (W6.alloc (.cells #[.int .i64 sz, .slice a6 m cap6] 76)).heap.size := by simp
  have hw6 : w.heap.size ≤ W6.heap.size := Nat.le_trans hb1 g6.size
  have B7 := bel_gbn b1 hb1 g7
  clear b6 c0 c1 cA0 cA1 c6 c7 g6 hl6 hs1 HPT HF HZD
  generalize W6.alloc (.cells #[.int .i64 sz, .slice a6 m cap6] 76) = W7 at *
  have hc7 := (g7.block b (by omega) (by simp)).trans HC1.out
  have d1 : W7.cell? ⟨b, 1, none⟩ = some (.slice a z.length cap) := by rw [cell_of hc7]; rfl
  have HB7 := Lib.hid hc7
  have HP8 := Lib.hid (parts_one (HLB.out.keepB B7))
  have g8 := gb_alloc (gb_refl W7 none) (.cells #[.slice a2 k cap] 53)
  have s8 : W7.heap.size < (W7.alloc (.cells #[.slice a2 k cap] 53)).heap.size := by simp
  have HD2 := Lib.hid (show (z.take k).length = k from by simp; omega)
  have HF2 := Lib.hid (show [z.take k].flatten = z.take k from by simp)
  have hko : k ≤ 1048576 := by omega
  generalize W6.heap.size = o at *
  clear hc7
  go_wp2_with fail
  generalize W7.alloc (.cells #[.slice a2 k cap] 53) = W8 at *
  refine (laid_len W7.heap.size [z.take k] _ _ 1 W8 (z.take k) k HF2.out HD2.out rfl HP8.out s8 hko (by omega)).mono ?_
  rintro e W9 ⟨a9, cap9, rfl, hl9, b9⟩
  have g9 : W7.grownBy W9 none := gb_trans g8 (gb_below b9)
  have hc9 := (g9.block b (by omega) (by simp)).trans HB7.out
  have d9 : W9.cell? ⟨b, 1, none⟩ = some (.slice a z.length cap) := by rw [cell_of hc9]; rfl
  have f9 := frozen_of (o := 1) hc9
  have HC9 := Lib.hid hc9
  have HL9 := Lib.hid hl9
  have HO9 := Lib.hid (CAt.keepN HO7.out g9)
  have B9 := bel_gbn B7 (Nat.le_trans hb1 g7.size) g9
  clear d1 b9 g8 g9 HP8 hc9 hl9 hs2 HO7 s8
  go_wp2
  go_ret2
  refine ⟨o, rfl, hw6, ?_, ?_, gb_set (gb_below B9) _ _⟩
  · rw [HK.out]
    have := CAt.set (z := z.take k) HC9.out (by rw [HD2.out]; exact HL9.out) (by decide)
    rw [HD2.out] at this
    exact this
  · rw [HK.out]
    exact CAt.keep HO9.out (gb_set (gb_refl _ _) _ _) (by omega) (noSamp_of HC9.out (by decide))

set_option maxHeartbeats 1000000 in
theorem copy_ok (b : Nat) (sz : Int) (z : List (Int × Int)) (w : World) (h : PCk w b sz z) (hs : 1 ≤ sz) (hn : z.length ≤ 1048576) :
    Calls Tryz.prog 31 #[.pointer (some ⟨b, 0, none⟩)] w fun e w' => ∃ o, e = .returned (.pointer (some ⟨o, 0, none⟩)) ∧ w.heap.size ≤ o ∧ PCk w' o sz z ∧ Below w.heap.size w w' := by
  have hb := h.lt
  obtain ⟨a, cap, hc, hl⟩ := h
  have HC := Lib.hid hc
  have HPT0 := Lib.hid (parts_one hl)
  obtain ⟨N, hN⟩ : ∃ N, z.length = N := ⟨_, rfl⟩
  have HN := Lib.hid hN
  have c0 : w.cell? ⟨b, 0, none⟩ = some (.int .i64 sz) := by rw [cell_of hc]; rfl
  have c1 : w.cell? ⟨b, 1, none⟩ = some (.slice a z.length cap) := by rw [cell_of hc]; rfl
  rw [hN] at c1 HPT0 hn hc HC
  have HPT : Hid (PartsAt (w.alloc (.cells #[.slice a N cap] 53)).drew w.heap.size [z] (fun _ => a) (fun _ => cap)) := HPT0
  have hcA := heap_old (o := .cells #[.slice a N cap] 53) hc
  have cA0 := Lib.hid ((cell_of (o := 0) hcA).trans (by rfl : _ = some (Value.int .i64 sz)))
  have cA1 := Lib.hid ((cell_of (o := 1) hcA).trans (by rfl : _ = some (Value.slice a N cap)))
  have HF := Lib.hid (show [z].flatten = z from by simp)
  clear hc hl HPT0 hcA hN
  go_enter Tryz.func31, Tryz.ntmps31
  go_wp2_with fail
  refine (isNone_no b sz _ _ HC.out hs).mono ?_
  rintro e w' ⟨rfl, rfl⟩
  go_wp2_with fail
  go_region_held3 (fun w' => w'.cell? ⟨b, 0, none⟩ = some (.int .i64 sz) ∧ w'.cell? ⟨b, 1, none⟩ = some (.slice a N cap))
    (first
      | exact ⟨cA0.out, cA1.out⟩
      | exact ⟨c6.out, c7.out⟩
      | exact ⟨(((Below.refl W6.heap.size W6).alloc (Nat.le_refl _) _).cell (p := ⟨b, 0, none⟩) s6).trans c6.out, (((Below.refl W6.heap.size W6).alloc (Nat.le_refl _) _).cell (p := ⟨b, 1, none⟩) s6).trans c7.out⟩
      | go_keep)
    (first
      | (go_at_call 54
         (with_reducible refine (laid_len w.heap.size [z] _ _ 1 _ z N HF.out HN.out rfl HPT.out (by simp) hn (by omega)).mono ?_)
         rintro e W6 ⟨a6, cap6, rfl, hl6, b6⟩
         have s6 : b < W6.heap.size := by have := b6.size; simp at this; omega
         have c6 := Lib.hid ((b6.cell (p := ⟨b, 0, none⟩) (by simp; omega)).trans cA0.out)
         have c7 := Lib.hid ((b6.cell (p := ⟨b, 1, none⟩) (by simp; omega)).trans cA1.out)))
  have g6 : w.grownBy W6 none := gb_trans (gb_drew (gb_alloc (gb_refl w none) (.cells #[.slice a N cap] 53))) (gb_below b6)
  have g7 := gb_alloc g6 (.cells #[.int .i64 sz, .slice a6 N cap6] 76)
  have HO7 : Hid (PCk (W6.alloc (.cells #[.int .i64 sz, .slice a6 N cap6] 76)) W6.heap.size sz z) := by
    have := CAt.new 76 W6 sz a6 cap6 z (by rw [HN.out]; exact hl6)
    rw [HN.out] at this; exact this
  clear b6 c0 c1 cA0 cA1 c6 c7 hl6 HPT HF
  go_wp2
  go_ret
  exact ⟨W6.heap.size, rfl, g6.size, HO7.out, gb_below_none g7⟩

end Go.Proofs.YtpbhdlhbcfkhfaaGreat
