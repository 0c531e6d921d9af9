/-
  Contract of chunk.Drop.
  Condition: at most 2^20 samples.
-/
import Derived.Test.YtpbhdlhbcfkhfaaGreatCTake
namespace Go.Proofs.YtpbhdlhbcfkhfaaGreat
open Go.RowKit
set_option linter.unusedVariables false
set_option linter.unusedSimpArgs false

/-- Two parts. -/
theorem parts_two {w : World} {a1 a2 : Option Addr} {k m c1 c2 : Nat} {x y : List (Int × Int)} (h1 : Lst w a1 k c1 x) (h2 : Lst w a2 m c2 y) :
    PartsAt (w.alloc (.cells #[.slice a1 k c1, .slice a2 m c2] 53)) w.heap.size
      [x, y] (fun i => if i = 0 then a1 else a2) (fun i => if i = 0 then c1 else c2) := by
  obtain rfl := h1.len
  obtain rfl := h2.len
  have hn := heap_new w (.cells #[.slice a1 x.length c1, .slice a2 y.length c2] 53)
  have h1' := h1.keepN (World.grownBy_alloc w (.cells #[.slice a1 x.length c1, .slice a2 y.length c2] 53) none)
  have h2' := h2.keepN (World.grownBy_alloc w (.cells #[.slice a1 x.length c1, .slice a2 y.length c2] 53) none)
  intro i hi
  rcases (show i = 0 ∨ i = 1 by simp at hi; omega) with rfl | rfl
  · exact ⟨by rw [cell_of hn]; rfl, h1'⟩
  · exact ⟨by rw [cell_of hn]; rfl, h2'⟩

set_option maxRecDepth 100000 in
set_option maxHeartbeats 2000000 in
theorem drop_ok (b : Nat) (sz : Int) (z : List (Int × Int)) (x y : Int) (w : World) (h : PCk w b sz z) (hs : 1 ≤ sz) (hr : Rising z) (hn : z.length ≤ 1048576) :
    Calls Tryz.prog 32 #[.pointer (some ⟨b, 0, none⟩), .int .i64 x, .int .i64 y] w (ErrP 76 b sz (dropN z x y : Int) (dropL z x y) w) := by
  have hb := h.lt
  have HW0 := Lib.hid h
  obtain ⟨a, cap, hc0, hl0⟩ := h
  have HC := Lib.hid hc0
  have HL := Lib.hid hl0
  have HR := Lib.hid hr
  have hk := bef_le z x
  have hu := upt_le z y
  have HD := Lib.hid (show dropL z x y = if upt z y ≤ bef z x then z else z.take (bef z x) ++ z.drop (upt z y) from rfl)
  have HN := Lib.hid (show dropN z x y = upt z y - bef z x from rfl)
  obtain ⟨a1, hs1, LA⟩ := lst_to hl0 (bef z x) hk
  obtain ⟨a2, hs2, LB⟩ := lst_from hl0 (upt z y) hu
  have HLA := Lib.hid LA
  have HLB := Lib.hid LB
  have HS1 := Lib.hid hs1
  have HS2 := Lib.hid hs2
  clear hc0 hl0 LA LB hr hs1 hs2
  by_cases hle : upt z y ≤ bef z x
  all_goals
    have HLE := Lib.hid hle
    go_enter Tryz.func32, Tryz.ntmps32
    go_wp2_with fail
    refine (list_ok b sz a _ cap _ HC.out hs).mono ?_
    rintro e w' ⟨rfl, rfl⟩
    go_wp2_with fail
    refine (before_any a _ cap z x _ HL.out HR.out hn).mono ?_
    rintro e W1 ⟨rfl, b1⟩
    go_wp2_with fail
    refine (upTo_any a _ cap z y _ (HL.out.keepB b1) HR.out hn).mono ?_
    rintro e W2 ⟨rfl, b2⟩
    have B2 := bel_gbn b1 b1.size (gb_below b2)
    clear b1 b2 W1
  · go_wp2
    go_ret
    exact ⟨by rw [HN.out]; rw [Nat.sub_eq_zero_of_le HLE.out]; rfl, by rw [HD.out, if_pos HLE.out]; exact HW0.out.keepB B2, gb_below B2⟩
  · have hs1 := HS1.out
    have hs2 := HS2.out
    have hc2 : W2.heap[b]? = _ := (B2.block b hb).trans HC.out
    have c1 : W2.cell? ⟨b, 1, none⟩ = some (.slice a z.length cap) := by rw [cell_of hc2]; rfl
    have f1 := frozen_of (o := 1) hc2
    have HC2 := Lib.hid hc2
    have HPT0 := Lib.hid (parts_two (HLA.out.keepB B2) (HLB.out.keepB B2))
    have HPT : Hid (PartsAt (W2.alloc (.cells #[.slice a1 (bef z x) cap, .slice a2 (z.length - upt z y) (cap - upt z y)] 53)).drew W2.heap.size [z.take (bef z x), z.drop (upt z y)] (fun i => if i = 0 then a1 else a2) (fun i => if i = 0 then cap else cap - upt z y)) := HPT0
    clear HPT0
    have hA : (W2.alloc (.cells #[.slice a1 (bef z x) cap, .slice a2 (z.length - upt z y) (cap - upt z y)] 53)).heap[b]? = _ := heap_old hc2
    have HcA := Lib.hid ((cell_of (o := 1) hA).trans (by rfl : _ = some (Value.slice a z.length cap)))
    have HfA := Lib.hid (frozen_of (o := 1) hA)
    have hs2' := B2.size
    clear hc2 hA
    go_wp2_with fail
    go_region_held3 (fun _ => True)
      (first
        | trivial
        | exact True.intro)
      (first
        | (go_at_call 54
           (refine (laid_any W2.heap.size _ _ _ 2 _ rfl HPT.out (by simp) (by simp; omega) (by omega)).mono ?_)
           rintro e W6 ⟨a6, cap6, rfl, hl6, b6⟩
           have c6 : W6.cell? ⟨b, 1, none⟩ = some (.slice a z.length cap) := (b6.cell (p := ⟨b, 1, none⟩) (by simp; omega)).trans HcA.out
           have f6 : W6.frozen? ⟨b, 1, none⟩ = false := (b6.frozen (p := ⟨b, 1, none⟩) (by simp; omega)).trans HfA.out))
    have g6 : W2.grownBy W6 none := gb_trans (gb_drew (gb_alloc (gb_refl W2 none) (.cells #[.slice a1 (bef z x) cap, .slice a2 (z.length - upt z y) (cap - upt z y)] 53))) (gb_below b6)
    have hc6 : W6.heap[b]? = _ := (g6.block b (by omega) (by simp)).trans HC2.out
    have B6 := bel_gbn B2 hs2' g6
    have HE := Lib.hid (show [z.take (bef z x), z.drop (upt z y)].flatten = dropL z x y from by rw [HD.out, if_neg (by have := HLE.out; omega)]; simp)
    have hl7 := hl6
    rw [HE.out] at hl7
    have HLEN := Lib.hid (show (dropL z x y).length = bef z x + (z.length - upt z y) from by rw [← HE.out]; simp; omega)
    have HC6 := Lib.hid hc6
    have HL7 := Lib.hid hl7
    clear hl6 hl7 hc6 b6 c6 f6 hs1 hs2 HPT HcA HfA c1 f1 g6
    go_wp2
    go_ret
    refine ⟨ret_int (by rw [HN.out]; have := HLE.out; omega), ?_, gb_set (gb_below B6) _ _⟩
    rw [← HLEN.out]
    exact CAt.set HC6.out HL7.out (by decide)

end Go.Proofs.YtpbhdlhbcfkhfaaGreat
