/-
  Contract of the document's own answer for layer 2: Encode: samples as bits.
  Condition: at most 1000 samples.
-/
import Derived.Test.YtjhnajenkoepdaaRCode
import Derived.Test.YtjhnajenkoepdaaDBits
import Derived.Deep.RegionHeld3
import Derived.Deep.AppendLies
namespace Go.Proofs.Ytjhnajenkoepdaa
open Go.RowKit
set_option linter.unusedVariables false
set_option linter.unusedSimpArgs false

/-- A row of bits as a slice that lies somewhere new. -/
def SlcP (l : List Bool) (w : World) (e : Ending) (w' : World) : Prop :=
  ∃ g cp, e = .returned (.slice (some ⟨g, 0, none⟩) l.length cp) ∧ Hid (∀ j u, (bv l)[j]? = some u → w'.cell? ((⟨g, 0, none⟩ : Addr).add j) = some u) ∧ Below w.heap.size w w'
theorem rcodeS (u : Nat) (w : World) (hu : u < 18446744073709551616) :
    Calls Try.prog 55 #[.int .u64 (u : Int)] w (SlcP (code u) w) := by
  refine (rcode_any u w hu).mono ?_
  rintro e w' ⟨v, rfl, hv, b⟩
  obtain ⟨g, cp, rfl, hc, _⟩ := owns_cells hv (by rw [code_length]; have := csize_le u; omega)
  exact ⟨g, cp, rfl, hc, b⟩
theorem rbitsS (u : Nat) (n : Int) (k : Nat) (w : World) (hu : u < 18446744073709551616) (hn : n = (k : Int)) (hk : k ≤ 64) (h0 : 0 < k) :
    Calls Try.prog 54 #[.int .u64 (u : Int), .int .i64 n] w (SlcP (bitsOf u k) w) := by
  subst hn
  refine (rbits_any u k w hu hk).mono ?_
  rintro e w' ⟨v, rfl, hv, b⟩
  obtain ⟨g, cp, rfl, hc, _⟩ := owns_cells hv (by rw [bitsOf_length]; exact h0)
  exact ⟨g, cp, rfl, hc, b⟩

theorem wrap_is (n : Int) : IntKind.u64.wrap n = ((u64 n : Nat) : Int) := by rw [IntKind.wrap_u64]; unfold u64; omega

set_option maxRecDepth 100000 in
set_option maxHeartbeats 4000000 in
theorem rencode_any (a : Option Addr) (len cap : Nat) (z : List (Int × Int)) (w : World) (hz : SampAt w a len cap z) (hl : len ≤ 1000) :
    Calls Try.prog 46 #[.slice a len cap] w (BitsP (encTo z len) w) := by
  have HZ := Lib.hid hz
  clear hz
  obtain ⟨i0, hi, hz0, hz1, hz2⟩ := info_parts info_bool
  go_enter Try.func46, Try.ntmps46
  go_wp2
  go_loopw [3, 4, 5] (fun o st i wr => ∃ j : Nat, j ≤ len ∧ i = .int .i64 (j : Int) ∧ st = .int .i64 (stepOf z (j - 1)) ∧ wr.ownsRow w.heap.size 4 1 o (encTo z j).length (bv (encTo z j)) ∧ Below w.heap.size w wr) (fun _ _ i _ => len - (intOf i).toNat)
  case atStart => exact ⟨0, Nat.zero_le _, rfl, rfl, World.ownsRow_nil _ _ _ _, Below.refl _ _⟩
  case round =>
    obtain ⟨j, hj, rfl, rfl, hown, B2⟩ := hrel
    have s2 := B2.size
    by_cases hjl : j < len
    · obtain ⟨b, off, rfl, hb, hcs⟩ := HZ.out.all (by omega)
      by_cases hj0 : j = 0
      · subst hj0
        obtain ⟨c0, c1⟩ := hcs 0 hjl
        simp only [Nat.zero_mul, Nat.add_zero] at c0 c1
        have C0 := Lib.hid c0
        have C1 := Lib.hid c1
        rw [← B2.cell hb] at c0 c1
        have HE1 := Lib.hid (encTo_one z)
        replace hown : wr.ownsRow w.heap.size 4 1 u3 0 [] := hown
        clear hcs
        obtain ⟨T, hT⟩ : ∃ T, tOf z 0 = T := ⟨_, rfl⟩
        obtain ⟨V, hV⟩ : ∃ V, vOf z 0 = V := ⟨_, rfl⟩
        rw [hT] at c0 C0 HE1
        rw [hV] at c1 C1 HE1
        clear hT hV
        have hTl := u64_lt T
        have hVl := u64_lt V
        have HUT := Lib.hid (wrap_is T)
        have HUV := Lib.hid (wrap_is V)
        generalize Go.Proofs.Ytjhnajenkoepdaa.u64 T = ut at *
        generalize Go.Proofs.Ytjhnajenkoepdaa.u64 V = uv at *
        go_wp2_with fail
        rw [HUT.out]
        refine (rbitsS ut 64 64 _ hTl rfl (by decide) (by decide)).mono ?_
        rintro e W3 ⟨g, cp, rfl, HCL, b3⟩
        have o3 := hown.kept (gb_below (row := none) b3) (by simp; exact Classical.em _)
        have B3 := bel_gbn B2 s2 (gb_below b3)
        have s3 := Nat.le_trans s2 b3.size
        have HL := Lib.hid (show (bv (bitsOf ut 64)).length = 64 * 1 from by rw [bv_length, bitsOf_length])
        have HO := Lib.hid (bv_ones (bitsOf ut 64))
        rw [bitsOf_length]
        clear hown B2 s2 b3 c0 c1
        obtain ⟨n1, hn1⟩ : ∃ n1, bv (bitsOf ut 64) = n1 := ⟨_, rfl⟩
        rw [hn1] at HL HO HCL
        have HN1 := Lib.hid hn1
        clear hn1
        go_wp2_with (at_builtin; refine wpList_append_own _ rfl _ _ 72 rfl w.heap.size 4 i0 _ 1 1 Try.underlying72 hi hz0 hz1 hz2 rfl (by decide) _ _ _ rfl o3 ⟨g, 0, none⟩ 64 cp n1 rfl HL.out HCL.out HO.out (by unfold maxLen; omega) (by omega) s3 ?_)
        intro v4 W4 o4 g4 _
        have B4 := B3.grown g4 s3 (fun k hk => (o3.lt k hk).1)
        have s4 := Nat.le_trans s3 g4.size
        have c1 := C1.out
        have c0 := C0.out
        rw [← B4.cell hb] at c0 c1
        clear o3 B3 s3 g4 HL HO HCL
        go_wp2_with fail
        rw [HUV.out]
        refine (rbitsS uv 64 64 _ hVl rfl (by decide) (by decide)).mono ?_
        rintro e W5 ⟨g5, cp5, rfl, HCL, b5⟩
        have o5 := o4.kept (gb_below (row := none) b5) (by simp; exact Classical.em _)
        have B5 := bel_gbn B4 s4 (gb_below b5)
        have s5 := Nat.le_trans s4 b5.size
        have HL := Lib.hid (show (bv (bitsOf uv 64)).length = 64 * 1 from by rw [bv_length, bitsOf_length])
        have HO := Lib.hid (bv_ones (bitsOf uv 64))
        rw [bitsOf_length]
        clear o4 B4 s4 b5 c0 c1
        obtain ⟨n2, hn2⟩ : ∃ n2, bv (bitsOf uv 64) = n2 := ⟨_, rfl⟩
        rw [hn2] at HL HO HCL
        have HN2 := Lib.hid hn2
        clear hn2
        go_wp2_with (at_builtin; refine wpList_append_own _ rfl _ _ 72 rfl w.heap.size 4 i0 _ 1 1 Try.underlying72 hi hz0 hz1 hz2 rfl (by decide) _ _ _ rfl o5 ⟨g5, 0, none⟩ 64 cp5 n2 rfl HL.out HCL.out HO.out (by unfold maxLen; omega) (by omega) s5 ?_)
        intro v6 W6 o6 g6 _
        have B6 := B5.grown g6 s5 (fun k hk => (o5.lt k hk).1)
        clear o5 B5 s5 g6 HL HO HCL
        go_wp2
        go_roundw
        case rel =>
          refine ⟨1, by omega, by rfl, by rfl, ?_, B6⟩
          rw [encTo_len_one]
          have e : bv (encTo z 1) = [] ++ n1 ++ n2 := by rw [HE1.out, bv_append, bv_append, HN1.out, HN2.out]; rfl
          rw [e]; exact o6
        case measure => simp [intOf]; omega
      · obtain ⟨q, hq⟩ : ∃ q, j = q + 1 := ⟨j - 1, by omega⟩
        have hjne : ((j : Int) == 0) = false := by rw [beq_eq_false_iff_ne]; omega
        have hle := encTo_le z j
        have hle2 := encTo_le z (j + 1)
        have HS := Lib.hid (show encTo z (j + 1) = encTo z j ++ code (tNum z q) ++ code (vNum z q) from by rw [hq]; exact encTo_step z q)
        have HTN := Lib.hid (show tNum z q = zigZ (wrap64 (wrap64 (tOf z j - tOf z q) - stepOf z (j - 1))) from by
          rw [hq, Nat.add_sub_cancel]; rfl)
        have HVN := Lib.hid (show vNum z q = zigZ (wrap64 (vOf z j - vOf z q)) from by rw [hq]; rfl)
        have HSN := Lib.hid (show stepOf z (j + 1 - 1) = wrap64 (tOf z j - tOf z q) from by rw [hq]; rfl)
        have htl := tNum_lt z q
        have hvl := vNum_lt z q
        obtain ⟨c0, c1⟩ := hcs j hjl
        obtain ⟨d0, d1⟩ := hcs q (by omega)
        have C1 := Lib.hid c1
        have D1 := Lib.hid d1
        rw [← B2.cell hb] at c0 c1 d0 d1
        have HQ := Lib.hid hq
        have hqI : IntKind.i64.wrap ((j : Int) - 1) = (q : Int) := by rw [IntWalk.i64_in _ ⟨by omega, by omega⟩]; omega
        have HQI := Lib.hid hqI
        have hq0 : (0 : Int) ≤ (q : Int) := by omega
        have hq1 : (q : Int) < (len : Int) := by omega
        have hj1 : (0 : Int) ≤ (j : Int) := by omega
        have hj2 : (j : Int) < (len : Int) := by omega
        clear hcs hq hj0
        generalize tNum z q = tn at *
        generalize vNum z q = vn at *
        generalize tOf z j = T1 at *
        generalize tOf z q = T0 at *
        generalize vOf z j = V1 at *
        generalize vOf z q = V0 at *
        generalize stepOf z (j - 1) = st at *
        obtain ⟨xs, hxs⟩ : ∃ xs, encTo z j = xs := ⟨_, rfl⟩
        rw [hxs] at hown hle HS
        clear hxs
        go_wp2_with fail
        go_quiet (fail)
        have hd : Drew wr (wr.drewN nq) := ⟨nq, rfl⟩
        have o3 := hown.kept (hd.gb none) (by simp; exact Classical.em _)
        have B3 := bel_gbn B2 s2 (hd.gb none)
        have s3 := Nat.le_trans s2 (hd.gb none).size
        clear hown B2 s2 hd c0 c1 d0 d1 hqI
        generalize wr.drewN nq = W3 at *
        obtain ⟨nw, hnw⟩ : ∃ nw, wrap64 (T1 - T0) = nw := ⟨_, rfl⟩
        rw [hnw] at HTN HSN ⊢
        clear hnw
        go_wp2_with fail
        refine (rzigZ_any _ _ (wrap64_in64 _)).mono ?_
        rintro e w' ⟨rfl, rfl⟩
        rw [← HTN.out]
        go_wp2_with fail
        refine (rcodeS tn _ htl).mono ?_
        rintro e W4 ⟨g, cp, rfl, HCL, b4⟩
        have o4 := o3.kept (gb_below (row := none) b4) (by simp; exact Classical.em _)
        have B4 := bel_gbn B3 s3 (gb_below b4)
        have s4 := Nat.le_trans s3 b4.size
        have hct := csize_le tn
        have hcv := csize_le vn
        have HL := Lib.hid (show (bv (code tn)).length = csize tn * 1 from by rw [bv_length, code_length, Nat.mul_one])
        have HO := Lib.hid (bv_ones (code tn))
        have HBV := Lib.hid (show bv (encTo z (j + 1)) = bv xs ++ bv (code tn) ++ bv (code vn) from by rw [HS.out, bv_append, bv_append])
        have HLN := Lib.hid (show (encTo z (j + 1)).length = xs.length + csize tn + csize vn from by rw [HS.out, List.length_append, List.length_append, code_length, code_length])
        rw [code_length]
        clear o3 B3 s3 b4
        generalize bv (code tn) = n1 at *
        generalize csize tn = ct at *
        go_wp2_with (at_builtin; refine wpList_append_own _ rfl _ _ 72 rfl w.heap.size 4 i0 _ 1 1 Try.underlying72 hi hz0 hz1 hz2 rfl (by decide) _ _ _ rfl o4 ⟨g, 0, none⟩ ct cp n1 rfl HL.out HCL.out HO.out (by unfold maxLen; omega) (by omega) s4 ?_)
        intro v5 W5 o5 g5 _
        have B5 := B4.grown g5 s4 (fun k hk => (o4.lt k hk).1)
        have s5 := Nat.le_trans s4 g5.size
        have c1 := C1.out
        have d1 := D1.out
        rw [← B5.cell hb] at c1 d1
        clear o4 B4 s4 g5 HL HO HCL
        have HL := Lib.hid (show (bv (code vn)).length = csize vn * 1 from by rw [bv_length, code_length, Nat.mul_one])
        have HO := Lib.hid (bv_ones (code vn))
        have HCV := Lib.hid (code_length vn)
        obtain ⟨dv, hdv⟩ : ∃ dv, IntKind.i64.wrap (V1 - V0) = dv := ⟨_, rfl⟩
        have HDV := Lib.hid (show zigZ dv = vn from by rw [HVN.out, ← hdv, IntWalk.i64_left])
        have hdvi : in64 dv := by rw [← hdv, IntWalk.i64_left]; exact wrap64_in64 _
        have HDI := Lib.hid hdvi
        have hqI := HQI.out
        have hne : v5.ownBlock ≠ some b := by intro e; have := o5.lt b e; omega
        have hb5 : b < W5.heap.size := by omega
        clear hdvi HVN
        go_wp2_with fail
        go_region_held3 (fun w' => w'.cell? ⟨b, off + j * 2 + 1, none⟩ = some (.int .i64 V1) ∧ w'.cell? ⟨b, off + q * 2 + 1, none⟩ = some (.int .i64 V0))
          (first
            | go_keep
            | (go_split_ands
               refine ⟨?_, ?_⟩
               · (rw [hgrow.cell_far _ (by have := b6.size; simp at this ⊢; omega) (Ne.symm hne)]; assumption)
               · (rw [hgrow.cell_far _ (by have := b6.size; simp at this ⊢; omega) (Ne.symm hne)]; assumption))
            | (go_split_ands
               refine ⟨?_, ?_⟩
               · (rw [b6.cell (by simpa using hb5)]; assumption)
               · (rw [b6.cell (by simpa using hb5)]; assumption)))
          (first
            | (go_at_call 56
               (with_reducible refine (rzigZ_any dv _ HDI.out).mono ?_)
               rintro e w' ⟨rfl, rfl⟩
               rw [HDV.out])
            | (go_at_call 55
               (with_reducible refine (rcodeS vn _ hvl).mono ?_)
               rintro e W6 ⟨g6, cp6, rfl, HCL6, b6⟩
               rw [HCV.out])
            | (refine step_append_lies _ (by rfl) _ _ _ (by rfl) w.heap.size 4 i0 _ 1 1 Try.underlying72 hi hz0 hz1 hz2 rfl (by omega) v5 _ _ (by rfl) ((o5.drew).kept (gb_below (row := none) b6) (by simp; exact Classical.em _))
                ⟨g6, 0, none⟩ (csize vn) cp6 (bv (code vn)) (by rfl) HL.out HCL6.out HO.out
                (by omega) (by unfold maxLen; omega) (by omega) (by have := b6.size; simp at this; omega) W6.heap.size rfl ?_
               intro gg cp8 w8 ho8 hgrow hat hlt))
        have B6 := bel_gbn B5 s5 (gb_trans (Drew.gb (w := W5) (w' := W5.drew) ⟨1, rfl⟩ none) (gb_below b6))
        have s6 : w.heap.size ≤ W6.heap.size := by have := b6.size; simp at this; omega
        have B8 := B6.grown hgrow s6 (fun k hk => (o5.lt k hk).1)
        clear o5 B5 s5 b6 B6 s6 hgrow hat hlt hne hb5 c1 d1 hdv hqI HCL6 HL HO
        go_wp2
        go_roundw
        case rel => exact ⟨j + 1, by omega, by go_num, by rw [HSN.out], by rw [HBV.out, HLN.out]; exact ho8, B8⟩
        case measure => simp [intOf]; omega
    · obtain rfl : j = len := by omega
      go_wp2
      go_ret
      exact ⟨_, rfl, hown, B2⟩

end Go.Proofs.Ytjhnajenkoepdaa
