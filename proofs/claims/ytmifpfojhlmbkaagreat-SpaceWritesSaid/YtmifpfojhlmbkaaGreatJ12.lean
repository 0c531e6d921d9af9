/-
  Contracts.
-/
import Derived.Test.YtmifpfojhlmbkaaGreatJ11
import Derived.LaidEqlPtr
namespace Go.Proofs.YtmifpfojhlmbkaaGreat
open Lib (hid)
set_option maxRecDepth 100000
set_option maxHeartbeats 16000000
open Go.RowKit
set_option linter.unusedVariables false
set_option linter.unusedSimpArgs false
def joinE (sz : Int) (x y : List (Int × Int)) : Int := if meetB x y = true then 1 else tookE sz (x ++ y)
def joinL (sz : Int) (x y : List (Int × Int)) : List (Int × Int) := if joinE sz x y = 0 then x ++ y else x
def joinR (sz : Int) (x y : List (Int × Int)) : List (Int × Int) := if joinE sz x y = 0 then [] else y
def TwoOnly (b c : Nat) (w w' : World) : Prop := w'.os = w.os ∧ w'.tape = w.tape ∧ w'.output = w.output ∧ w.heap.size ≤ w'.heap.size ∧ ∀ k, k < w.heap.size → k ≠ b → k ≠ c → w'.heap[k]? = w.heap[k]?
theorem TwoOnly.of {b c : Nat} {w w1 w2 : World} (h : w.grownBy w1 (some b)) (k : w1.grownBy w2 (some c)) : TwoOnly b c w w2 :=
  ⟨k.os.trans h.os, k.tape.trans h.tape, k.output.trans h.output, Nat.le_trans h.size k.size, fun i hi h1 h2 => (k.block i (Nat.lt_of_lt_of_le hi h.size) (by simp; exact h2)).trans (h.block i hi (by simp; exact h1))⟩
def JoinP (ty : TypeId) (b o : Nat) (sz so : Int) (x y : List (Int × Int)) (w : World) (e : Ending) (w' : World) : Prop :=
  e = .returned (.int .i64 (joinE sz x y)) ∧ CAt ty w' b sz (joinL sz x y) ∧ CAt ty w' o so (joinR sz x y) ∧ TwoOnly b o w w'
theorem tookE_cases (sz : Int) (l : List (Int × Int)) : tookE sz l = 0 ∧ tookL sz [] l = l ∧ (∀ z, tookL sz z l = l) ∨ tookE sz l = 2 ∧ ∀ z, tookL sz z l = z := by
  unfold tookE tookL
  by_cases h : 8 * sz < (bitsZ l : Int)
  · right; rw [if_pos h]; exact ⟨rfl, fun z => by rw [if_pos h]⟩
  · left; rw [if_neg h]; exact ⟨rfl, by rw [if_neg h], fun z => by rw [if_neg h]⟩
theorem info_chunk : ∃ j, Tryz.prog.info? 202 = some j ∧ j.size ≠ 0 := by
  have h : (Tryz.prog.info? 202).map (·.size) = some 2 := by kernel_rfl
  cases hj : Tryz.prog.info? 202 with
  | none => rw [hj] at h; simp at h
  | some j => rw [hj] at h; simp at h; exact ⟨j, rfl, by omega⟩
theorem ptr_other {w : World} {b o : Nat} {cb co : Array Value} {tb to : TypeId} (hb : w.heap[b]? = some (.cells cb tb (0, 0))) (ho : w.heap[o]? = some (.cells co to (0, 0))) (hne : b ≠ o) :
    (binOp .eql 119 (.pointer (some ⟨o, 0, none⟩)) (.pointer (some ⟨b, 0, none⟩))).run Tryz.prog w = .ok (.bool false) w := by
  obtain ⟨j, hj, hsz⟩ := info_chunk
  exact run_eql_ptr_other w Tryz.underlying119 hj hsz (by intro e; cases e; exact hne rfl) ho hb
theorem take_len (b : Nat) (sz : Int) (z l : List (Int × Int)) (a : Option Addr) (N cap : Nat) (w : World) (h : PCk w b sz z) (hs : 1 ≤ sz) (hs2 : sz ≤ 4096) (hN : l.length = N) (hl : Lst w a N cap l) (hn : N ≤ 1048576) :
    Calls Tryz.prog 284 #[.pointer (some ⟨b, 0, none⟩), .slice a N cap] w (ErrP 202 b sz (tookE sz l) (tookL sz z l) w) := by
  subst hN
  exact take_ok b sz z l a cap w h hs hs2 hl hn
theorem laid_len (pb : Nat) (Z : List (List (Int × Int))) (A : Nat → Option Addr) (C : Nat → Nat) (n : Nat) (w : World) (z : List (Int × Int)) (N : Nat) (hz : Z.flatten = z) (hN : z.length = N) (hn : Z.length = n) (hp : PartsAt w pb Z A C) (hpb : pb < w.heap.size) (hs : N ≤ 1048576) (hn8 : n ≤ 8) :
    Calls Tryz.prog 199 #[.slice (some ⟨pb, 0, none⟩) n n] w fun e w' => ∃ a cap, e = .returned (.slice a N cap) ∧ Lst w' a N cap z ∧ Below w.heap.size w w' := by
  subst hz hN
  exact laid_any pb Z A C n w hn hp hpb hs hn8
theorem join_ok (b o : Nat) (sz so : Int) (x y : List (Int × Int)) (w : World) (hx : PCk w b sz x) (hy : PCk w o so y) (hne : b ≠ o) (hs : 1 ≤ sz) (hs2 : sz ≤ 4096) (hso : 1 ≤ so) (hn : x.length + y.length ≤ 1048576) :
    Calls Tryz.prog 230 #[.pointer (some ⟨b, 0, none⟩), .pointer (some ⟨o, 0, none⟩)] w (JoinP 202 b o sz so x y w) := by
  have hb := hx.lt
  have ho := hy.lt
  have HX := hid hx
  have HY := hid hy
  obtain ⟨a, cap, hcx, hlx⟩ := hx
  obtain ⟨a2, cap2, hcy, hly⟩ := hy
  have HCX := hid hcx
  have HCY := hid hcy
  have HLX := hid hlx
  have HLY := hid hly
  have heq := ptr_other hcx hcy hne
  clear hcx hlx hcy hly
  have hsx : x.length ≤ 1048576 := by omega
  have hsy : y.length ≤ 1048576 := by omega
  cases hm : meetB x y
  · have HM := hid hm
    clear hm
    go_enter Tryz.func230, Tryz.ntmps230
    go_wp2_with fail
    refine (isNone_no b sz _ _ HCX.out hs).mono ?_
    rintro e w' ⟨rfl, rfl⟩
    go_wp2_with fail
    refine (isNone_no o so _ _ HCY.out hso).mono ?_
    rintro e w' ⟨rfl, rfl⟩
    go_wp2_with fail
    refine (follows_ok o b so sz y x _ HY.out HX.out hso hs hsy hsx).mono ?_
    rintro e W1 ⟨rfl, b1⟩
    rw [HM.out]
    have hb1 := b1.size
    have hX1 := (b1.block b hb).trans HCX.out
    have hY1 := (b1.block o ho).trans HCY.out
    have c1 : W1.cell? ⟨b, 1, none⟩ = some (.slice a x.length cap) := by rw [cell_of hX1]; rfl
    have c2 : W1.cell? ⟨o, 1, none⟩ = some (.slice a2 y.length cap2) := by rw [cell_of hY1]; rfl
    have HPT0 := hid (parts_two (HLX.out.keepB b1) (HLY.out.keepB b1))
    have HPT : Hid (PartsAt (W1.alloc (.cells #[.slice a x.length cap, .slice a2 y.length cap2] 52)).drew W1.heap.size [x, y] (fun i => if i = 0 then a else a2) (fun i => if i = 0 then cap else cap2)) := HPT0
    have HXA0 := hid ((HX.out.keepB b1).keepN (World.grownBy_alloc W1 (.cells #[.slice a x.length cap, .slice a2 y.length cap2] 52) none))
    have HXA : Hid (PCk (W1.alloc (.cells #[.slice a x.length cap, .slice a2 y.length cap2] 52)).drew b sz x) := HXA0
    clear HPT0 HXA0 hX1 hY1
    obtain ⟨N, hN⟩ : ∃ N, (x ++ y).length = N := ⟨_, rfl⟩
    have HN := hid hN
    have hN2 : N ≤ 1048576 := by rw [← hN, List.length_append]; omega
    have HF := hid (show [x, y].flatten = x ++ y from by simp)
    clear hN
    go_wp2_with fail
    go_region_with
      (first
        | (go_at_call 199
           (with_reducible refine (laid_len W1.heap.size [x, y] _ _ 2 _ (x ++ y) N HF.out HN.out rfl HPT.out (by simp) hN2 (by omega)).mono ?_)
           rintro e W6 ⟨a6, cap6, rfl, hl6, b6⟩
           have hx6 : PCk W6 b sz x := CAt.keepB HXA.out b6)
        | (go_at_call 284
           (with_reducible refine (take_len b sz x (x ++ y) a6 N cap6 W6 hx6 hs hs2 HN.out hl6 hN2).mono ?_)
           rintro e W7 ⟨rfl, hp7, g7⟩))
    all_goals
      have g6 : W1.grownBy W6 none := gb_trans (gb_drew (gb_alloc (gb_refl W1 none) (.cells #[.slice a x.length cap, .slice a2 y.length cap2] 52))) (gb_below b6)
      have G7 : w.grownBy W7 (some b) := gb_trans (gb_none (gb_trans (gb_below b1) g6) _) g7
      have HY7 := hid (CAt.keep (CAt.keepN (CAt.keepB HY.out b1) g6) g7 (Ne.symm hne) (CAt.no hx6 (by decide)))
      have HB7 := hid hp7
      clear g6 g7 hp7 hx6 hl6 b6 HXA HPT c1 c2 b1 HX HY HCX HCY HLX HLY heq hb1
      rcases tookE_cases sz (x ++ y) with ⟨e0, _, eL⟩ | ⟨e2, eL⟩
      · have HE := hid (show joinE sz x y = 0 from by unfold joinE; rw [HM.out, e0]; rfl)
        have HL := hid (eL x)
        rw [e0]
        clear e0 eL
        obtain ⟨a7, cap7, hc7, hl7⟩ := HY7.out
        have c7 : W7.cell? ⟨o, 1, none⟩ = some (.slice a7 y.length cap7) := by rw [cell_of hc7]; rfl
        have f7 := frozen_of (o := 1) hc7
        have HC7 := hid hc7
        clear hc7 hl7
        go_wp2
        go_ret
        refine ⟨by rw [HE.out]; rfl, ?_, ?_, TwoOnly.of G7 (gb_set (gb_refl _ _) _ _)⟩
        · unfold joinL
          rw [if_pos HE.out, ← HL.out]
          exact CAt.keep HB7.out (gb_set (gb_refl _ _) _ _) hne (noSamp_of HC7.out (by decide))
        · unfold joinR
          rw [if_pos HE.out]
          exact CAt.set (z := []) HC7.out (Lst.nil _) (by decide)
      · have HE := hid (show joinE sz x y = 2 from by unfold joinE; rw [HM.out, e2]; rfl)
        have HL := hid (eL x)
        rw [e2]
        clear e2 eL
        go_wp2
        go_ret
        refine ⟨by rw [HE.out]; rfl, ?_, ?_, TwoOnly.of G7 (gb_refl _ _)⟩
        · unfold joinL
          rw [if_neg (by rw [HE.out]; decide), ← HL.out]
          exact HB7.out
        · unfold joinR
          rw [if_neg (by rw [HE.out]; decide)]
          exact HY7.out
  · have HM := hid hm
    clear hm
    go_enter Tryz.func230, Tryz.ntmps230
    go_wp2_with fail
    refine (isNone_no b sz _ _ HCX.out hs).mono ?_
    rintro e w' ⟨rfl, rfl⟩
    go_wp2_with fail
    refine (isNone_no o so _ _ HCY.out hso).mono ?_
    rintro e w' ⟨rfl, rfl⟩
    go_wp2_with fail
    refine (follows_ok o b so sz y x _ HY.out HX.out hso hs hsy hsx).mono ?_
    rintro e W1 ⟨rfl, b1⟩
    rw [HM.out]
    have HE := hid (show joinE sz x y = 1 from by unfold joinE; rw [HM.out]; rfl)
    clear heq
    go_wp2
    go_ret
    refine ⟨by rw [HE.out]; rfl, ?_, ?_, TwoOnly.of (gb_below b1) (gb_refl _ _)⟩
    · unfold joinL
      rw [if_neg (by rw [HE.out]; decide)]
      exact CAt.keepB HX.out b1
    · unfold joinR
      rw [if_neg (by rw [HE.out]; decide)]
      exact CAt.keepB HY.out b1
theorem half_test (a : Option Addr) (len cap : Nat) (z : List (Int × Int)) (i bl ba all : Nat) (w : World) (hz : Lst w a len cap z) (hi : i < len) (hn : len ≤ 1048576) (hall : all ≤ 1073741824)
    (cl : w.cell? ⟨bl, 0, none⟩ = some (.slice a len cap)) (ct : w.cell? ⟨ba, 0, none⟩ = some (.int .i64 (all : Int))) :
    Calls Tryz.prog 312 #[.int .i64 (i : Int), .pointer (some ⟨bl, 0, none⟩), .pointer (some ⟨ba, 0, none⟩)] w fun e w' => e = .returned (.bool (decide (all ≤ 2 * (encTo z (i + 1)).length))) ∧ Below w.heap.size w w' := by
  obtain ⟨j, hj⟩ : ∃ j, i + 1 = j := ⟨_, rfl⟩
  obtain ⟨a1, hs1, LA⟩ := lst_to hz j (by omega)
  have HLA0 := hid LA
  have HLA : Hid (Lst w.drew a1 j cap (z.take j)) := HLA0
  have HB := hid (bitsZ_take z j (by rw [hz.len]; omega))
  rw [hj]
  have hle := encTo_le z j
  have hjn : j ≤ 1048576 := by omega
  have hbl : bl < w.heap.size := World.block_lt_of_cell? w _ cl
  have hba : ba < w.heap.size := World.block_lt_of_cell? w _ ct
  have h1 : IntKind.i64.wrap ((i : Int) + 1) = (j : Int) := by rw [IntWalk.i64_in _ ⟨by omega, by omega⟩]; omega
  have h2 : IntKind.i64.wrap (2 * ((encTo z j).length : Int)) = 2 * ((encTo z j).length : Int) := IntWalk.i64_in _ ⟨by omega, by omega⟩
  clear HLA0 LA hz hj
  generalize (encTo z j).length = nb at *
  go_enter Tryz.func312, Tryz.ntmps312
  go_wp2_with fail
  go_region_held3 (fun w' => w'.cell? ⟨bl, 0, none⟩ = some (.slice a len cap) ∧ w'.cell? ⟨ba, 0, none⟩ = some (.int .i64 (all : Int)))
    (first
      | go_keep
      | (go_split_ands
         refine ⟨?_, ?_⟩
         · (rw [b6.cell (by simpa using hbl)]; assumption)
         · (rw [b6.cell (by simpa using hba)]; assumption)))
    (first
      | (go_at_call 265
         (with_reducible refine (bits_lst a1 j cap (z.take j) _ HLA.out hjn).mono ?_)
         rintro e W6 ⟨rfl, b6⟩
         rw [HB.out]))
  have g6 : w.grownBy W6 none := gb_trans (Drew.gb (w := w) (w' := w.drew) ⟨1, rfl⟩ none) (gb_below b6)
  go_wp2
  go_ret
  refine ⟨ret_bool ?_, gb_below_none g6⟩
  simp
  omega
theorem half_ok (a : Option Addr) (len cap : Nat) (z : List (Int × Int)) (w : World) (hz : Lst w a len cap z) (hl : len ≤ 1048576) (h2 : 2 ≤ len) :
    Calls Tryz.prog 266 #[.slice a len cap] w (SearchP (halfK z) w) := by
  have HL := hid hz.len
  have hK := halfK_le z (by rw [hz.len]; exact h2)
  rw [hz.len] at hK
  have HI := hid (halfK_iff z)
  have hle := bitsZ_le z
  rw [hz.len] at hle
  have hz2 := hz.keepN (World.grownBy_alloc w (.cells #[.slice a len cap] 52) none)
  have B1 := (Below.refl w.heap.size w).alloc (Nat.le_refl _) (.cells #[.slice a len cap] 52)
  have hn1 := hid (heap_new w (.cells #[.slice a len cap] 52))
  have s1 : w.heap.size < (w.alloc (.cells #[.slice a len cap] 52)).heap.size := by simp
  clear hz
  go_enter Tryz.func266, Tryz.ntmps266
  go_wp2_with fail
  generalize w.alloc (.cells #[.slice a len cap] 52) = W1 at *
  have cl : W1.cell? ⟨w.heap.size, 0, none⟩ = some (.slice a len cap) := by rw [cell_of hn1.out]; rfl
  go_wp2_with fail
  refine (bits_lst a len cap z _ hz2 hl).mono ?_
  rintro e W2 ⟨rfl, b2⟩
  have B2 := bel_gbn B1 (Nat.le_of_lt s1) (gb_below b2)
  have s2 := Nat.lt_of_lt_of_le s1 b2.size
  have hz3 := hz2.keepB b2
  rw [← b2.cell s1] at cl
  clear B1 b2 hz2 s1 hn1
  obtain ⟨nb, hnb⟩ : ∃ nb, bitsZ z = nb := ⟨_, rfl⟩
  rw [hnb] at hle ⊢
  have HNB := hid hnb
  clear hnb
  have hsub : ((len : Int) - 2) = ((len - 2 : Nat) : Int) := by omega
  have HSUB := hid hsub
  clear hsub
  have cl3 : (W2.alloc (.cells #[.int .i64 (nb : Int)] 3)).cell? ⟨w.heap.size, 0, none⟩ = some (.slice a len cap) := by rw [((Below.refl W2.heap.size W2).alloc (Nat.le_refl _) _).cell s2]; exact cl
  go_wp2_with fail
  rw [HSUB.out]
  have B3 := B2.alloc (Nat.le_of_lt s2) (.cells #[.int .i64 (nb : Int)] 3)
  have hz4 := hz3.keepN (World.grownBy_alloc W2 (.cells #[.int .i64 (nb : Int)] 3) none)
  have ca : (W2.alloc (.cells #[.int .i64 (nb : Int)] 3)).cell? ⟨W2.heap.size, 0, none⟩ = some (.int .i64 (nb : Int)) := by rw [cell_of (heap_new W2 _)]; rfl
  have s3 : W2.heap.size < (W2.alloc (.cells #[.int .i64 (nb : Int)] 3)).heap.size := by simp
  clear B2 hz3 cl HSUB
  generalize W2.alloc (.cells #[.int .i64 (nb : Int)] 3) = W3 at *
  generalize W2.heap.size = k2 at *
  refine (search_any (len - 2) (halfK z - 1) 312 _ W3 (by omega) (by omega) (enters_of Tryz.func312 (by kernel_rfl) rfl) ?_).mono ?_
  · intro i wr hi hb
    refine (half_test a len cap z i w.heap.size k2 nb wr (hz4.keepB hb) (by omega) hl (by omega) (by rw [hb.cell (by simp; omega)]; exact cl3) (by rw [hb.cell s3]; exact ca)).mono ?_
    rintro e w' ⟨rfl, b⟩
    refine ⟨ret_bool ?_, b⟩
    have := HI.out i (by rw [HL.out]; exact hi)
    rw [HNB.out] at this
    apply decide_eq_decide.2
    omega
  · rintro e W4 ⟨rfl, b4⟩
    have B4 := B3.trans (b4.mono (by omega))
    clear B3 b4 cl3 ca hz4
    obtain ⟨q, hq⟩ : ∃ q, halfK z = q + 1 := ⟨halfK z - 1, by omega⟩
    rw [hq, Nat.add_sub_cancel]
    rw [hq] at hK
    have HQ := hid hq
    clear hq
    go_wp2
    go_ret
    exact ⟨ret_int (by rw [HQ.out]; omega), B4⟩
def SplitP (b : Nat) (sz : Int) (z : List (Int × Int)) (w : World) (e : Ending) (w' : World) : Prop :=
  ∃ o, e = .returned (.tuple #[.pointer (some ⟨o, 0, none⟩), .int .i64 0]) ∧ w.heap.size ≤ o ∧ PCk w' b sz (z.take (halfK z)) ∧ PCk w' o sz (z.drop (halfK z)) ∧ w.grownBy w' (some b)
theorem split_ok (b : Nat) (sz : Int) (z : List (Int × Int)) (w : World) (h : PCk w b sz z) (hs : 1 ≤ sz) (hn : z.length ≤ 1048576) (h2 : 2 ≤ z.length) :
    Calls Tryz.prog 213 #[.pointer (some ⟨b, 0, none⟩)] w (SplitP b sz z w) := by
  have hb := h.lt
  have HW0 := hid h
  obtain ⟨a, cap, hc, hl⟩ := h
  have hK := halfK_le z h2
  have HC := hid hc
  have HL := hid hl
  have c1 : w.cell? ⟨b, 1, none⟩ = some (.slice a z.length cap) := by rw [cell_of hc]; rfl
  obtain ⟨a1, hs1, LA⟩ := lst_from hl (halfK z) (by omega)
  obtain ⟨a2, hs2, LB⟩ := lst_to hl (halfK z) (by omega)
  have HLA := hid LA
  have HLB := hid LB
  have HS1 := hid hs1
  have HS2 := hid hs2
  clear hc hl LA LB hs1 hs2
  go_enter Tryz.func213, Tryz.ntmps213
  go_wp2_with fail
  refine (isNone_no b sz _ _ HC.out hs).mono ?_
  rintro e w' ⟨rfl, rfl⟩
  go_wp2_with fail
  refine (half_ok a _ cap z _ HL.out hn h2).mono ?_
  rintro e W1 ⟨rfl, b1⟩
  obtain ⟨k, hk⟩ : ∃ k, halfK z = k := ⟨_, rfl⟩
  rw [hk] at hK HLA HLB HS1 HS2 ⊢
  have HK := hid hk
  clear hk
  have hs1 := HS1.out
  have hs2 := HS2.out
  have hb1 := b1.size
  have HPT0 := hid (parts_one (HLA.out.keepB b1))
  have HPT : Hid (PartsAt (W1.alloc (.cells #[.slice a1 (z.length - k) (cap - k)] 52)).drew W1.heap.size [z.drop k] (fun _ => a1) (fun _ => cap - k)) := HPT0
  have hc1 := (b1.block b hb).trans HC.out
  clear c1
  have c0 : W1.cell? ⟨b, 0, none⟩ = some (.int .i64 sz) := by rw [cell_of hc1]; rfl
  have c1 : W1.cell? ⟨b, 1, none⟩ = some (.slice a z.length cap) := by rw [cell_of hc1]; rfl
  have hcA := heap_old (o := .cells #[.slice a1 (z.length - k) (cap - k)] 52) hc1
  have cA0 := hid ((cell_of (o := 0) hcA).trans (by rfl : _ = some (Value.int .i64 sz)))
  have cA1 := hid ((cell_of (o := 1) hcA).trans (by rfl : _ = some (Value.slice a z.length cap)))
  have HC1 := hid hc1
  have HD := hid (show (z.drop k).length = z.length - k from by simp)
  have HF := hid (show [z.drop k].flatten = z.drop k from by simp)
  have HZD := hid (show z.length - k ≤ 1048576 from by omega)
  clear HPT0 hcA hc1
  generalize hm : z.length - k = m at *
  generalize cap - k = ck at *
  clear hm
  go_wp2_with fail
  go_region_held3 (fun w' => w'.cell? ⟨b, 0, none⟩ = some (.int .i64 sz) ∧ w'.cell? ⟨b, 1, none⟩ = some (.slice a z.length cap))
    (first
      | exact ⟨cA0.out, cA1.out⟩
      | exact ⟨c6.out, c7.out⟩
      | exact ⟨(((Below.refl W6.heap.size W6).alloc (Nat.le_refl _) _).cell (p := ⟨b, 0, none⟩) s6).trans c6.out, (((Below.refl W6.heap.size W6).alloc (Nat.le_refl _) _).cell (p := ⟨b, 1, none⟩) s6).trans c7.out⟩
      | go_keep)
    (first
      | (go_at_call 199
         (with_reducible refine (laid_len W1.heap.size [z.drop k] _ _ 1 _ (z.drop k) m HF.out HD.out rfl HPT.out (by simp) HZD.out (by omega)).mono ?_)
         rintro e W6 ⟨a6, cap6, rfl, hl6, b6⟩
         have s6 : b < W6.heap.size := by have := b6.size; simp at this; omega
         have c6 := hid ((b6.cell (p := ⟨b, 0, none⟩) (by simp; omega)).trans cA0.out)
         have c7 := hid ((b6.cell (p := ⟨b, 1, none⟩) (by simp; omega)).trans cA1.out)))
  have g6 : W1.grownBy W6 none := gb_trans (gb_drew (gb_alloc (gb_refl W1 none) (.cells #[.slice a1 m ck] 52))) (gb_below b6)
  have g7 := gb_alloc g6 (.cells #[.int .i64 sz, .slice a6 m cap6] 202)
  have HO7 : Hid (PCk (W6.alloc (.cells #[.int .i64 sz, .slice a6 m cap6] 202)) W6.heap.size sz (z.drop k)) := by
    have := CAt.new 202 W6 sz a6 cap6 (z.drop k) (by rw [HD.out]; exact hl6)
    rw [HD.out] at this; exact this
  have s7 : W6.heap.size < (W6.alloc (.cells #[.int .i64 sz, .slice a6 m cap6] 202)).heap.size := by simp
  have hw6 : w.heap.size ≤ W6.heap.size := Nat.le_trans hb1 g6.size
  have B7 := bel_gbn b1 hb1 g7
  clear b6 c0 c1 cA0 cA1 c6 c7 g6 hl6 hs1 HPT HF HZD
  generalize W6.alloc (.cells #[.int .i64 sz, .slice a6 m cap6] 202) = W7 at *
  have hc7 := (g7.block b (by omega) (by simp)).trans HC1.out
  have d1 : W7.cell? ⟨b, 1, none⟩ = some (.slice a z.length cap) := by rw [cell_of hc7]; rfl
  have HB7 := hid hc7
  have HP8 := hid (parts_one (HLB.out.keepB B7))
  have g8 := gb_alloc (gb_refl W7 none) (.cells #[.slice a2 k cap] 52)
  have s8 : W7.heap.size < (W7.alloc (.cells #[.slice a2 k cap] 52)).heap.size := by simp
  have HD2 := hid (show (z.take k).length = k from by simp; omega)
  have HF2 := hid (show [z.take k].flatten = z.take k from by simp)
  have hko : k ≤ 1048576 := by omega
  generalize W6.heap.size = o at *
  clear hc7
  go_wp2_with fail
  generalize W7.alloc (.cells #[.slice a2 k cap] 52) = W8 at *
  refine (laid_len W7.heap.size [z.take k] _ _ 1 W8 (z.take k) k HF2.out HD2.out rfl HP8.out s8 hko (by omega)).mono ?_
  rintro e W9 ⟨a9, cap9, rfl, hl9, b9⟩
  have g9 : W7.grownBy W9 none := gb_trans g8 (gb_below b9)
  have hc9 := (g9.block b (by omega) (by simp)).trans HB7.out
  have d9 : W9.cell? ⟨b, 1, none⟩ = some (.slice a z.length cap) := by rw [cell_of hc9]; rfl
  have f9 := frozen_of (o := 1) hc9
  have HC9 := hid hc9
  have HL9 := hid hl9
  have HO9 := hid (CAt.keepN HO7.out g9)
  have B9 := bel_gbn B7 (Nat.le_trans hb1 g7.size) g9
  clear d1 b9 g8 g9 HP8 hc9 hl9 hs2 HO7 s8
  go_wp2
  go_ret2
  refine ⟨o, rfl, hw6, ?_, ?_, gb_set (gb_below B9) _ _⟩
  · rw [HK.out]
    have := CAt.set (z := z.take k) HC9.out (by rw [HD2.out]; exact HL9.out) (by decide)
    rw [HD2.out] at this
    exact this
  · rw [HK.out]
    exact CAt.keep HO9.out (gb_set (gb_refl _ _) _ _) (by omega) (noSamp_of HC9.out (by decide))
theorem copy_ok (b : Nat) (sz : Int) (z : List (Int × Int)) (w : World) (h : PCk w b sz z) (hs : 1 ≤ sz) (hn : z.length ≤ 1048576) :
    Calls Tryz.prog 128 #[.pointer (some ⟨b, 0, none⟩)] w fun e w' => ∃ o, e = .returned (.pointer (some ⟨o, 0, none⟩)) ∧ w.heap.size ≤ o ∧ PCk w' o sz z ∧ Below w.heap.size w w' := by
  have hb := h.lt
  obtain ⟨a, cap, hc, hl⟩ := h
  have HC := hid hc
  have HPT0 := hid (parts_one hl)
  obtain ⟨N, hN⟩ : ∃ N, z.length = N := ⟨_, rfl⟩
  have HN := hid hN
  have c0 : w.cell? ⟨b, 0, none⟩ = some (.int .i64 sz) := by rw [cell_of hc]; rfl
  have c1 : w.cell? ⟨b, 1, none⟩ = some (.slice a z.length cap) := by rw [cell_of hc]; rfl
  rw [hN] at c1 HPT0 hn hc HC
  have HPT : Hid (PartsAt (w.alloc (.cells #[.slice a N cap] 52)).drew w.heap.size [z] (fun _ => a) (fun _ => cap)) := HPT0
  have hcA := heap_old (o := .cells #[.slice a N cap] 52) hc
  have cA0 := hid ((cell_of (o := 0) hcA).trans (by rfl : _ = some (Value.int .i64 sz)))
  have cA1 := hid ((cell_of (o := 1) hcA).trans (by rfl : _ = some (Value.slice a N cap)))
  have HF := hid (show [z].flatten = z from by simp)
  clear hc hl HPT0 hcA hN
  go_enter Tryz.func128, Tryz.ntmps128
  go_wp2_with fail
  refine (isNone_no b sz _ _ HC.out hs).mono ?_
  rintro e w' ⟨rfl, rfl⟩
  go_wp2_with fail
  go_region_held3 (fun w' => w'.cell? ⟨b, 0, none⟩ = some (.int .i64 sz) ∧ w'.cell? ⟨b, 1, none⟩ = some (.slice a N cap))
    (first
      | exact ⟨cA0.out, cA1.out⟩
      | exact ⟨c6.out, c7.out⟩
      | exact ⟨(((Below.refl W6.heap.size W6).alloc (Nat.le_refl _) _).cell (p := ⟨b, 0, none⟩) s6).trans c6.out, (((Below.refl W6.heap.size W6).alloc (Nat.le_refl _) _).cell (p := ⟨b, 1, none⟩) s6).trans c7.out⟩
      | go_keep)
    (first
      | (go_at_call 199
         (with_reducible refine (laid_len w.heap.size [z] _ _ 1 _ z N HF.out HN.out rfl HPT.out (by simp) hn (by omega)).mono ?_)
         rintro e W6 ⟨a6, cap6, rfl, hl6, b6⟩
         have s6 : b < W6.heap.size := by have := b6.size; simp at this; omega
         have c6 := hid ((b6.cell (p := ⟨b, 0, none⟩) (by simp; omega)).trans cA0.out)
         have c7 := hid ((b6.cell (p := ⟨b, 1, none⟩) (by simp; omega)).trans cA1.out)))
  have g6 : w.grownBy W6 none := gb_trans (gb_drew (gb_alloc (gb_refl w none) (.cells #[.slice a N cap] 52))) (gb_below b6)
  have g7 := gb_alloc g6 (.cells #[.int .i64 sz, .slice a6 N cap6] 202)
  have HO7 : Hid (PCk (W6.alloc (.cells #[.int .i64 sz, .slice a6 N cap6] 202)) W6.heap.size sz z) := by
    have := CAt.new 202 W6 sz a6 cap6 z (by rw [HN.out]; exact hl6)
    rw [HN.out] at this; exact this
  clear b6 c0 c1 cA0 cA1 c6 c7 hl6 HPT HF
  go_wp2
  go_ret
  exact ⟨W6.heap.size, rfl, g6.size, HO7.out, gb_below_none g7⟩
end Go.Proofs.YtmifpfojhlmbkaaGreat
