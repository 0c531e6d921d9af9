/-
  The fixed calls that each statement of layer 2 ends with come out as they must: 'known' returns true, and writes nothing that was there.
-/
import Derived.Test.YtoanifeffegkiaaDDec
import Derived.Test.YtoanifeffegkiaaRSame
namespace Go.Proofs.Ytoanifeffegkiaa
open Go.RowKit
set_option linter.unusedVariables false
set_option linter.unusedSimpArgs false

theorem decAll_more (z : List (Int × Int)) (hz : All64 z) (h0 : 0 < z.length) : decAll (z.length + 1) (encTo z z.length) = .error 3 := by
  have h := decS_enc z hz z.length (Nat.le_refl _) []
  rw [List.append_nil] at h
  obtain ⟨n, hn⟩ : ∃ n, z.length = n + 1 := ⟨z.length - 1, by omega⟩
  rw [hn] at h ⊢
  have := decS_err1 h gets_nil (by decide)
  rw [decAll, this]
theorem decAll_fewer (z : List (Int × Int)) (hz : All64 z) (n : Nat) (h : z.length = n + 1) : decAll n (encTo z z.length) = .error 4 := by
  have hd := decS_enc z hz n (by omega) (piece z n)
  have e : encTo z z.length = encTo z n ++ piece z n := by rw [h]; rfl
  have hp : piece z n ≠ [] := by
    intro h0
    have := piece_length z n
    rw [h0] at this
    have h1 := csize_le (tNum z (n - 1))
    have h2 := csize_le (vNum z (n - 1))
    split at this <;> simp at this <;> omega
  rw [decAll, e, hd]
  simp only [if_neg hp]
def zK : List (Int × Int) := [(10, 7), (20, 7), (30, 7)]
theorem zK_all : All64 zK := by
  intro x hx
  simp [zK] at hx
  rcases hx with rfl | rfl | rfl <;> exact ⟨⟨by decide, by decide⟩, ⟨by decide, by decide⟩⟩
theorem zK_len : (encTo zK 3).length = 140 := by
  rw [encTo_len_step, encTo_len_step, encTo_len_one]; decide +kernel
theorem zK_at (W : World) : SampAt (W.alloc (.cells #[.int .i64 10, .int .i64 7, .int .i64 20, .int .i64 7, .int .i64 30, .int .i64 7] 59)) (some ⟨W.heap.size, 0, none⟩) 3 3 zK := by
  refine ⟨rfl, Nat.le_refl _, by omega, zK_all, .inr ⟨W.heap.size, 0, rfl, by simp, fun i hi => ?_⟩⟩
  rw [cell_of (heap_new W _), cell_of (heap_new W _)]
  match i, hi with
  | 0, _ => exact ⟨rfl, rfl⟩
  | 1, _ => exact ⟨rfl, rfl⟩
  | 2, _ => exact ⟨rfl, rfl⟩
theorem str_size (l : List UInt8) : (⟨l.toArray⟩ : ByteArray).size = l.length := rfl
theorem bitsL_back (l : List Bool) : bitsL (⟨(packL l).toArray⟩ : ByteArray).data.toList l.length = l := bitsL_pack l
theorem code5 : code 5 = [true, false, false, false, false, false, true, false, true] := by decide
theorem pack5c : packL (code 5) = [130, 128] := by decide

/-- Decode of what Encode gave. -/
theorem decode_enc (l : List Bool) (m n : Int) (w : World) (hl : l.length ≤ 1125899906842624) (hm : m = (l.length : Int)) (h0 : 0 ≤ n) (h1 : n ≤ 100000) :
    Calls Try.prog 20 #[.string ⟨(packL l).toArray⟩, .int .i64 m, .int .i64 n] w (DecP n.toNat (decAll n.toNat l) w) := by
  subst hm
  have hs := str_size (packL l)
  rw [packL_length] at hs
  have h := decode_any ⟨(packL l).toArray⟩ (l.length : Int) n w (by rw [hs]; omega) h0 h1 (by omega) (by rw [hs]; omega)
  rw [Int.toNat_natCast, bitsL_back] at h
  exact h
theorem decode_enc_arg (l : List Bool) (m n : Int) (w : World) (hl : l.length ≤ 1125899906842624) (h1 : n < 0) :
    Calls Try.prog 20 #[.string ⟨(packL l).toArray⟩, .int .i64 m, .int .i64 n] w fun e w' => e = .returned (.tuple #[.slice none 0 0, .int .i64 1]) ∧ w = w' := by
  have hs := str_size (packL l)
  rw [packL_length] at hs
  exact decode_arg _ _ _ _ (by rw [hs]; omega) (.inl h1)
theorem read_enc (l : List Bool) (m : Int) (w : World) (hl : l.length ≤ 1125899906842624) (hm : m = (l.length : Int)) :
    Calls Try.prog 21 #[.string ⟨(packL l).toArray⟩, .int .i64 m] w (ReadP l w) := by
  subst hm
  have hs := str_size (packL l)
  rw [packL_length] at hs
  have h := read_okI ⟨(packL l).toArray⟩ (l.length : Int) w (by rw [hs]; omega) (by omega) (by rw [hs]; omega)
  rw [Int.toNat_natCast, bitsL_back] at h
  exact h

set_option maxRecDepth 100000 in
set_option maxHeartbeats 2000000 in
theorem known_any (w : World) :
    Calls Try.prog 10 #[] w fun e w' => e = .returned (.bool true) ∧ Below w.heap.size w w' := by
  go_enter Try.func10, Try.ntmps10
  go_wp2_with fail
  have B1 := (Below.refl w.heap.size w).alloc (Nat.le_refl _) (.cells #[.int .i64 10, .int .i64 7, .int .i64 20, .int .i64 7, .int .i64 30, .int .i64 7] 59)
  have hz1 := zK_at w
  have s1 : w.heap.size + 1 ≤ (w.alloc (.cells #[.int .i64 10, .int .i64 7, .int .i64 20, .int .i64 7, .int .i64 30, .int .i64 7] 59)).heap.size := by simp
  generalize w.alloc (.cells #[.int .i64 10, .int .i64 7, .int .i64 20, .int .i64 7, .int .i64 30, .int .i64 7] 59) = W1 at *
  refine (dencode_any _ 3 3 zK _ hz1 (by omega)).mono ?_
  rintro e W2 ⟨rfl, b2⟩
  have B2 := bel_gbn B1 (by omega) (gb_below b2)
  have s2 := Nat.le_trans s1 b2.size
  have hz2 := hz1.keep b2
  rw [zK_len]
  have HL := Lib.hid zK_len
  have D3 := Lib.hid (show decAll 3 (encTo zK 3) = .ok zK from decAll_enc zK zK_all)
  have D4 := Lib.hid (show decAll 4 (encTo zK 3) = .error 3 from decAll_more zK zK_all (by decide))
  have D2 := Lib.hid (show decAll 2 (encTo zK 3) = .error 4 from decAll_fewer zK zK_all 2 rfl)
  clear B1 s1 b2 hz1
  generalize encTo zK 3 = E at *
  go_wp2_with fail
  refine (decode_enc E _ 3 _ (by rw [HL.out]; omega) (by rw [HL.out]; rfl) (by omega) (by omega)).mono ?_
  rintro e W3 ⟨b3, hd3⟩
  rw [show (3 : Int).toNat = 3 from rfl, D3.out] at hd3
  obtain ⟨am, cm, rfl, hm3, hmb⟩ := hd3
  have hm3l := hm3.lt (by omega)
  have B3 := bel_gbn B2 (by omega) (gb_below b3)
  have s3 := Nat.le_trans s2 b3.size
  have hz3 := hz2.keep b3
  clear B2 s2 b3 hz2 hmb D3
  go_wp2_with fail
  refine (decode_enc E _ 4 _ (by rw [HL.out]; omega) (by rw [HL.out]; rfl) (by omega) (by omega)).mono ?_
  rintro e W4 ⟨b4, hd4⟩
  rw [show (4 : Int).toNat = 4 from rfl, D4.out] at hd4
  obtain ⟨_, rfl⟩ := hd4
  have B4 := bel_gbn B3 (by omega) (gb_below b4)
  have s4 := Nat.le_trans s3 b4.size
  have hz4 := hz3.keep b4
  have hm4 := hm3.keep b4
  clear B3 s3 b4 hz3 hm3 D4 hm3l
  go_wp2_with fail
  refine (decode_enc E _ 2 _ (by rw [HL.out]; omega) (by rw [HL.out]; rfl) (by omega) (by omega)).mono ?_
  rintro e W5 ⟨b5, hd5⟩
  rw [show (2 : Int).toNat = 2 from rfl, D2.out] at hd5
  obtain ⟨_, rfl⟩ := hd5
  have B5 := bel_gbn B4 (by omega) (gb_below b5)
  have s5 := Nat.le_trans s4 b5.size
  have hz5 := hz4.keep b5
  have hm5 := hm4.keep b5
  clear B4 s4 b5 hz4 hm4 D2
  go_wp2_with fail
  refine (decode_enc_arg E _ _ _ (by rw [HL.out]; omega) (by omega)).mono ?_
  rintro e w' ⟨rfl, rfl⟩
  go_wp2_with fail
  have B6 := B5.alloc (by omega) (.cells #[.pointer none, .int .u64 0, .int .i64 0] 28)
  have hw6 := wr_new W5
  have s6 : W5.heap.size + 1 ≤ (W5.alloc (.cells #[.pointer none, .int .u64 0, .int .i64 0] 28)).heap.size := by simp
  have hz6 := hz5.keep_gb (World.grownBy_alloc W5 (.cells #[.pointer none, .int .u64 0, .int .i64 0] 28) none) (by simp)
  have hm6 := hm5.keep_gb (World.grownBy_alloc W5 (.cells #[.pointer none, .int .u64 0, .int .i64 0] 28) none) (by simp)
  have HZL := Lib.hid (hz5.lt (by omega))
  have HML := Lib.hid (hm5.lt (by omega))
  clear hz5 hm5 B5
  generalize W5.alloc (.cells #[.pointer none, .int .u64 0, .int .i64 0] 28) = W6 at *
  generalize W5.heap.size = wb at *
  have hcode := dput_any wb [] 5 W6 hw6 (by simp) (by omega)
  rw [show ((5 : Nat) : Int) = 5 from rfl, List.nil_append] at hcode
  refine hcode.mono ?_
  clear hcode
  rintro e W7 ⟨rfl, hw7, g7⟩
  have B7 := bel_gb B6 (by omega) (by omega) g7
  have s7 := Nat.le_trans s6 g7.size
  have hz7 := hz6.keep_gb g7 (fun x hx => by have := HZL.out x hx; simp; omega)
  have hm7 := hm6.keep_gb g7 (fun x hx => by have := HML.out x hx; simp; omega)
  have hcl : (code 5).length = 9 := by decide
  have HCL := Lib.hid hcl
  clear B6 s6 g7 hz6 hm6 hw6
  go_wp2_with fail
  refine (bytes_any wb _ _ hw7 (by rw [hcl]; omega)).mono ?_
  rintro e W8 ⟨rfl, b8⟩
  have B8 := bel_gbn B7 (by omega) (gb_below b8)
  have s8 := Nat.le_trans s7 b8.size
  have hz8 := hz7.keep b8
  have hm8 := hm7.keep b8
  have hw8 := hw7.keep_none (gb_below b8)
  clear B7 s7 b8 hz7 hm7 hw7
  go_wp2_with fail
  refine (len_any wb _ _ hw8).mono ?_
  rintro e w' ⟨rfl, rfl⟩
  go_wp2_with fail
  refine (read_enc (code 5) _ _ (by rw [hcl]; omega) rfl).mono ?_
  rintro e W9 ⟨rb, rfl, hr9, hrb, b9⟩
  have B9 := bel_gbn B8 (by omega) (gb_below b9)
  have s9 := Nat.le_trans s8 b9.size
  have hz9 := hz8.keep b9
  have hm9 := hm8.keep b9
  have hw9 := hw8.keep_none (gb_below b9)
  have hrb' := Nat.le_trans s8 hrb
  clear B8 s8 b9 hz8 hm8 hw8 hrb hcl
  have hg1 : gets ((code 5).drop 0) = (5, 9, 0) := by decide
  have hg2 : gets ((code 5).drop (0 + 9)) = (0, 0, 3) := by decide
  have HP := Lib.hid pack5c
  have HG1 := Lib.hid hg1
  have HG2 := Lib.hid hg2
  clear hg1 hg2
  generalize code 5 = C5 at *
  go_wp2_with fail
  have hc10 := dget_any rb C5 0 5 9 0 W9 hr9 HG1.out
  refine hc10.mono ?_
  clear hc10
  rintro e W10 ⟨rfl, hr10, g10⟩
  have B10 := bel_gb B9 (by omega) (by omega) g10
  have s10 := Nat.le_trans s9 g10.size
  have hz10 := hz9.keep_gb g10 (fun x hx => by have := HZL.out x hx; simp; omega)
  have hm10 := hm9.keep_gb g10 (fun x hx => by have := HML.out x hx; simp; omega)
  have hw10 := hw9.keep g10 (by omega) hr9.apart
  clear B9 s9 g10 hz9 hm9 hw9 hr9
  rw [show ((5 : Nat) : Int) = 5 from rfl]
  go_wp2_with fail
  refine (dget_any rb C5 (0 + 9) 0 0 3 _ hr10 HG2.out).mono ?_
  rintro e W11 ⟨rfl, hr11, g11⟩
  have B11 := bel_gb B10 (by omega) (by omega) g11
  have s11 := Nat.le_trans s10 g11.size
  have hz11 := hz10.keep_gb g11 (fun x hx => by have := HZL.out x hx; simp; omega)
  have hm11 := hm10.keep_gb g11 (fun x hx => by have := HML.out x hx; simp; omega)
  have hw11 := hw10.keep g11 (by omega) hr10.apart
  clear B10 s10 g11 hz10 hm10 hw10 hr10 hr11
  rw [show ((0 : Nat) : Int) = 0 from rfl]
  go_wp2_with fail
  refine (read_okI _ 9 _ (by decide) (by decide) (by decide)).mono ?_
  rintro e W12 ⟨rx, rfl, hr12, hrx, b12⟩
  have B12 := bel_gbn B11 (by omega) (gb_below b12)
  have s12 := Nat.le_trans s11 b12.size
  have hz12 := hz11.keep b12
  have hm12 := hm11.keep b12
  have hw12 := hw11.keep_none (gb_below b12)
  have hrx' := Nat.le_trans s11 hrx
  clear B11 s11 b12 hz11 hm11 hw11 hrx
  go_wp2_with fail
  refine (dget_any rx _ 0 0 0 4 _ hr12 (by decide)).mono ?_
  rintro e W13 ⟨rfl, hr13, g13⟩
  have B13 := bel_gb B12 (by omega) (by omega) g13
  have s13 := Nat.le_trans s12 g13.size
  have hz13 := hz12.keep_gb g13 (fun x hx => by have := HZL.out x hx; simp; omega)
  have hm13 := hm12.keep_gb g13 (fun x hx => by have := HML.out x hx; simp; omega)
  have hw13 := hw12.keep g13 (by omega) hr12.apart
  clear B12 s12 g13 hz12 hm12 hw12 hr12 hr13
  rw [show ((0 : Nat) : Int) = 0 from rfl]
  go_wp2_with fail
  refine (same_any am _ 3 3 cm 3 zK zK _ hm13 hz13).mono ?_
  rintro e W14 ⟨rfl, d14⟩
  rw [show decide (zK = zK) = true from by simp]
  have B14 := bel_gbn B13 (by omega) (d14.gb none)
  have s14 := Nat.le_trans s13 (d14.gb none).size
  have hz14 := hz13.keep_gb (d14.gb none) (by simp)
  have hw14 := hw13.keep_none (d14.gb none)
  clear B13 s13 d14 hz13 hm13 hw13
  go_wp2_with fail
  have hc9 := HCL.out
  refine (bytes_any wb _ _ hw14 (by omega)).mono ?_
  rintro e W15 ⟨rfl, b15⟩
  have B15 := bel_gbn B14 (by omega) (gb_below b15)
  have s15 := Nat.le_trans s14 b15.size
  have hz15 := hz14.keep b15
  clear B14 s14 b15 hz14 hw14 hc9
  rw [HP.out]
  go_wp2_with fail
  have hsz := size_any 128 W15 (by omega)
  rw [show ((128 : Nat) : Int) = 128 from rfl, show ((csize 128 : Nat) : Int) = 15 from by decide] at hsz
  refine hsz.mono ?_
  clear hsz
  rintro e w' ⟨rfl, rfl⟩
  go_wp2_with fail
  refine (dbits_any _ 3 3 zK _ hz15 (by omega)).mono ?_
  rintro e W16 ⟨rfl, b16⟩
  rw [zK_len]
  have B16 := bel_gbn B15 (by omega) (gb_below b16)
  clear B15 s15 b16 hz15
  go_wp2
  go_ret
  exact ⟨rfl, B16⟩

end Go.Proofs.Ytoanifeffegkiaa
