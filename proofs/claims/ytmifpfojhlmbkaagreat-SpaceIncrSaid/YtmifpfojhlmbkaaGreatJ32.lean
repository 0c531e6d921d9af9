/-
  Contracts.
-/
import Derived.Test.YtmifpfojhlmbkaaGreatJ0
import Derived.Test.YtmifpfojhlmbkaaGreatJ31
import Derived.Lib.SlicesS
import Derived.Shelf.Sort.Plain
import Derived.Shelf.Slices.Turned
import Derived.Ground.Names2Prog
import Derived.Shelf.Slices.Clone
import Derived.Shelf.Slices.CompactS
import Derived.Shelf.Slices.In.SortNone
import Derived.Test.YtmifpfojhlmbkaaGreatProg
namespace Go.Proofs.YtmifpfojhlmbkaaGreat
set_option maxRecDepth 100000
set_option maxHeartbeats 16000000
open Go.RowKit
set_option linter.unusedVariables false
set_option linter.unusedSimpArgs false
theorem bel_drewN {B : Nat} {w W : World} (h : Below B w W) (n : Nat) : Below B w (W.drewN n) := ⟨h.os, h.tape, h.output, h.size, h.block⟩
theorem bel_drew {B : Nat} {w W : World} (h : Below B w W) : Below B w W.drew := ⟨h.os, h.tape, h.output, h.size, h.block⟩
def okUpto (l : List Lb) (j : Nat) : Prop := (∀ x ∈ l.take j, keyB x.1 ∧ keyB x.2) ∧ (keysL (l.take j)).Nodup
theorem take_snoc9 {l : List Lb} {j : Nat} (h : j < l.length) : l.take (j + 1) = l.take j ++ [(lN l j, lV l j)] := by rw [List.take_succ_eq_append_getElem h, lb_get h]
theorem okUpto_snoc {l : List Lb} {j : Nat} (h : j < l.length) (k : okUpto l j) (h1 : keyB (lN l j)) (h2 : keyB (lV l j)) (h3 : lN l j ∉ keysL (l.take j)) : okUpto l (j + 1) := by
  unfold okUpto
  rw [take_snoc9 h]
  refine ⟨fun x hx => ?_, ?_⟩
  · rcases List.mem_append.1 hx with hx | hx
    · exact k.1 x hx
    · rw [List.mem_singleton] at hx
      subst hx; exact ⟨h1, h2⟩
  · unfold keysL at *
    rw [List.map_append, List.nodup_append]
    refine ⟨k.2, by simp, fun a ha b hb e => ?_⟩
    simp only [List.map_cons, List.map_nil, List.mem_singleton] at hb
    subst hb; subst e; exact h3 ha
theorem not_right_key {l : List Lb} {j : Nat} (h : j < l.length) (h1 : ¬ (keyB (lN l j) ∧ keyB (lV l j))) : ¬ rightL l := fun hr => h1 (hr.2.1 _ (lb_mem h))
theorem not_right_dup {l : List Lb} {j : Nat} (h : j < l.length) (h1 : lN l j ∈ keysL (l.take j)) : ¬ rightL l := fun hr => by
  have hn := hr.2.2
  have hs : l = l.take (j + 1) ++ l.drop (j + 1) := (List.take_append_drop ..).symm
  rw [take_snoc9 h] at hs
  rw [hs] at hn
  unfold keysL at *
  rw [List.map_append, List.map_append] at hn
  have := (List.nodup_append.1 (List.nodup_append.1 hn).1).2.2 _ h1 (lN l j) (by simp)
  exact this rfl
theorem right_all {l : List Lb} (h : l.length ≤ 8) (k : okUpto l l.length) : rightL l := by
  unfold okUpto at k
  rw [List.take_length] at k
  exact ⟨h, k⟩
theorem run_lb_to (b off n c k : Nat) (h1 : k ≤ n) (h2 : n ≤ c) (h0 : 0 < n) (W : World) : (Instr.slice 28 (.slice (some ⟨b, off, none⟩) n c) none (some (.int .i64 (k : Int))) none).run Tryz.prog W = .ok (.slice (some ⟨b, off, none⟩) k c) W := by
  rw [run_slice_h W 28 _ _ _ (by kernel_rfl) .i64 (k : Int) (by omega) (by omega), size_lb]
  have : c ≠ 0 := by omega
  simp [Result.andThen, sliced, this, Addr.add]
theorem right9_any (a : Option Addr) (n c : Nat) (l : List Lb) (w : World) (h : LbAt w a n c l) :
    Calls Tryz.prog 86 #[.slice a n c] w fun e w' => e = .returned (.bool (decide (rightL l))) ∧ Below w.heap.size w w' := by
  have hln := h.1
  have hnc := h.2.1
  have h63 := h.2.2.1
  have HL := Lib.hid h
  clear h
  have HLN := Lib.hid hln
  clear hln
  by_cases hn : n ≤ 8
  · have hnz : ¬ (8 : Int) < (n : Int) := by omega
    have HZ := Lib.hid (show okUpto l 0 from ⟨by simp, by simp [keysL]⟩)
    go_enter Tryz.func86, Tryz.ntmps86
    go_wp2_with fail
    go_loopw [10] (fun vi wr => ∃ (j : Nat), vi = .int .i64 (j : Int) ∧ j ≤ n ∧ Hid (okUpto l j) ∧ Hid (Below w.heap.size w wr)) (fun vi _ => n - (intOf vi).toNat)
    case atStart => exact ⟨0, rfl, Nat.zero_le _, HZ, Lib.hid (Below.refl _ _)⟩
    case round =>
      obtain ⟨j, rfl, hj, HU, HB⟩ := hrel
      clear HZ
      by_cases hjn : j < n
      · have hjz : (j : Int) < (n : Int) := by omega
        have hj0 : (0 : Int) ≤ (j : Int) := by omega
        obtain ⟨pb, po, e1, hpb, x0, x1⟩ := HL.out.at_ j hjn
        rw [← HB.out.cell hpb] at x0 x1
        subst e1
        have hsl := fun W => run_lb_to pb po n c j hj hnc (by omega) W
        have hjl : j < l.length := by rw [HLN.out]; exact hjn
        have HSN := Lib.hid (fun h1 h2 h3 => okUpto_snoc hjl HU.out h1 h2 h3)
        have HN1 := Lib.hid (not_right_key hjl)
        have HN2 := Lib.hid (not_right_dup hjl)
        have hszw : w.heap.size ≤ wr.heap.size := HB.out.size
        have B2 := (Below.refl wr.heap.size wr).alloc (Nat.le_refl _) (.cells #[.string (bs (lN l j)), .string (bs (lV l j))] 100)
        have X2 := Lib.hid (show BoxL (wr.alloc (.cells #[.string (bs (lN l j)), .string (bs (lV l j))] 100)) wr.heap.size (lN l j) (lV l j) from heap_new wr _)
        have hs2 : (wr.alloc (.cells #[.string (bs (lN l j)), .string (bs (lV l j))] 100)).heap.size = wr.heap.size + 1 := by simp
        have T0 := Lib.hid (HL.out.keep HB.out |>.keep B2 |>.to_ j hj)
        have B3 := Lib.hid (HB.out.trans (B2.mono hszw))
        clear HU B2 HB
        generalize hk0 : l.take j = lj at *
        clear hk0 hjl
        generalize lN l j = nm at *
        generalize lV l j = vl at *
        go_wp2_with fail
        generalize wr.alloc (.cells #[.string (bs nm), .string (bs vl)] 100) = W2 at *
        generalize wr.heap.size = B at *
        have b0 := X2.out.x0
        have b1 := X2.out.x1
        have hpb2 : pb < W2.heap.size := by omega
        by_cases k1 : keyB nm
        · have hK1 := fun W => key_any nm W
          rw [decide_eq_true k1] at hK1
          have HK1 := Lib.hid hK1
          clear hK1
          by_cases k2 : keyB vl
          · have hK2 := fun W => key_any vl W
            rw [decide_eq_true k2] at hK2
            have HK2 := Lib.hid hK2
            have TD : Hid (LbAt W2.drew (some ⟨pb, po, none⟩) j c lj) := T0
            have HD := Lib.hid (hasName_any pb po j c lj nm W2.drew TD.out hpb2)
            clear hK2 x0 x1
            by_cases k3 : nm ∈ keysL lj
            · rw [decide_eq_true k3] at HD
              go_region_held3 (fun w' => w'.cell? ⟨B, 0, none⟩ = some (.string (bs nm)) ∧ w'.cell? ⟨B, 1, none⟩ = some (.string (bs vl)))
                (first
                  | exact ⟨d0.out, d1.out⟩
                  | exact ⟨b0, b1⟩
                  | go_keep)
                (first
                  | (go_at_call 153
                     (with_reducible refine (HK1.out _).mono ?_)
                     rintro e W6 ⟨rfl, rfl⟩)
                  | (go_at_call 153
                     (with_reducible refine (HK2.out _).mono ?_)
                     rintro e W6 ⟨rfl, rfl⟩)
                  | (go_at_call 154
                     (with_reducible refine HD.out.mono ?_)
                     rintro e W6 ⟨rfl, hb6⟩
                     have d0 := Lib.hid ((hb6.cell (p := ⟨B, 0, none⟩) (show B < W2.drew.heap.size from hs2 ▸ Nat.lt_succ_self B)).trans b0)
                     have d1 := Lib.hid ((hb6.cell (p := ⟨B, 1, none⟩) (show B < W2.drew.heap.size from hs2 ▸ Nat.lt_succ_self B)).trans b1))
                  | fail)
              go_wp2
              go_ret
              exact ⟨ret_bool (decide_eq_false (HN2.out k3)).symm, (bel_drew B3.out).trans (hb6.mono B3.out.size)⟩
            · rw [decide_eq_false k3] at HD
              go_region_held3 (fun w' => w'.cell? ⟨B, 0, none⟩ = some (.string (bs nm)) ∧ w'.cell? ⟨B, 1, none⟩ = some (.string (bs vl)))
                (first
                  | exact ⟨d0.out, d1.out⟩
                  | exact ⟨b0, b1⟩
                  | go_keep)
                (first
                  | (go_at_call 153
                     (with_reducible refine (HK1.out _).mono ?_)
                     rintro e W6 ⟨rfl, rfl⟩)
                  | (go_at_call 153
                     (with_reducible refine (HK2.out _).mono ?_)
                     rintro e W6 ⟨rfl, rfl⟩)
                  | (go_at_call 154
                     (with_reducible refine HD.out.mono ?_)
                     rintro e W6 ⟨rfl, hb6⟩
                     have d0 := Lib.hid ((hb6.cell (p := ⟨B, 0, none⟩) (show B < W2.drew.heap.size from hs2 ▸ Nat.lt_succ_self B)).trans b0)
                     have d1 := Lib.hid ((hb6.cell (p := ⟨B, 1, none⟩) (show B < W2.drew.heap.size from hs2 ▸ Nat.lt_succ_self B)).trans b1))
                  | fail)
              have B7 := Lib.hid ((bel_drew B3.out).trans (hb6.mono B3.out.size))
              have U7 := Lib.hid (HSN.out k1 k2 k3)
              clear d0 d1 b0 b1 hb6 HD TD T0 X2 B3
              go_wp2
              go_roundw
              case rel => exact ⟨j + 1, by go_num, by omega, U7, B7⟩
              case measure => simp [intOf]; omega
          · have hK2 := fun W => key_any vl W
            rw [decide_eq_false k2] at hK2
            have HK2 := Lib.hid hK2
            clear hK2 x0 x1
            go_quiet (first
              | with_reducible exact quietL (HK1.out _)
              | with_reducible exact quietL (HK2.out _))
            go_wp2
            go_ret
            exact ⟨ret_bool (decide_eq_false (HN1.out (fun h => k2 h.2))).symm, bel_drewN B3.out _⟩
        · have hK1 := fun W => key_any nm W
          rw [decide_eq_false k1] at hK1
          have HK1 := Lib.hid hK1
          clear hK1 x0 x1
          go_quiet (with_reducible exact quietL (HK1.out _))
          go_wp2
          go_ret
          exact ⟨ret_bool (decide_eq_false (HN1.out (fun h => k1 h.1))).symm, bel_drewN B3.out _⟩
      · have hjz : ¬ (j : Int) < (n : Int) := by omega
        obtain rfl : j = n := by omega
        go_wp2
        go_ret
        exact ⟨ret_bool (decide_eq_true (right_all (by rw [HLN.out]; exact hn) (by rw [HLN.out]; exact HU.out))).symm, HB.out⟩
  · have hnz : (8 : Int) < (n : Int) := by omega
    go_enter Tryz.func86, Tryz.ntmps86
    go_wp2
    go_ret
    exact ⟨ret_bool (decide_eq_false (fun hr => hn (by have := hr.1; rw [HLN.out] at this; exact this))).symm, Below.refl _ _⟩
end Go.Proofs.YtmifpfojhlmbkaaGreat
namespace Go.Proofs.YtmifpfojhlmbkaaGreat
set_option maxRecDepth 100000
set_option maxHeartbeats 16000000
open Go.Shelf
def sh_lays190_ren : Go.Shelf.Ren := ⟨fun | 190 => 192 | 125 => 252 | 258 => 251 | 128 => 301 | 129 => 302 | 302 => 292 | 303 => 293 | 304 => 294 | 305 => 295 | 306 => 296 | 307 => 297 | 308 => 298 | 309 => 299 | 310 => 300 | 333 => 328 | 329 => 329 | 330 => 330 | 334 => 331 | 335 => 332 | 336 => 281 | 344 => 345 | n => n, fun | 31 => 49 | 9 => 9 | 3 => 3 | 46 => 282 | 0 => 0 | 51 => 320 | 53 => 322 | 4 => 4 | 183 => 314 | 182 => 313 | 131 => 102 | 5 => 5 | 218 => 337 | 222 => 341 | 228 => 351 | 229 => 114 | n => n, fun | n => n⟩
theorem sh_lays190 : Go.Proofs.Lays.n190 Tryz.prog sh_lays190_ren := {
  mixed := by kernel_rfl
  f125 := Tryz.func252.trans (congrArg some (by kernel_rfl))
  f128 := Tryz.func301.trans (congrArg some (by kernel_rfl))
  f129 := Tryz.func302.trans (congrArg some (by kernel_rfl))
  f190 := Tryz.func192.trans (congrArg some (by kernel_rfl))
  f258 := Tryz.func251.trans (congrArg some (by kernel_rfl))
  f302 := Tryz.func292.trans (congrArg some (by kernel_rfl))
  f303 := Tryz.func293.trans (congrArg some (by kernel_rfl))
  f304 := Tryz.func294.trans (congrArg some (by kernel_rfl))
  f305 := Tryz.func295.trans (congrArg some (by kernel_rfl))
  f306 := Tryz.func296.trans (congrArg some (by kernel_rfl))
  f307 := Tryz.func297.trans (congrArg some (by kernel_rfl))
  f308 := Tryz.func298.trans (congrArg some (by kernel_rfl))
  f309 := Tryz.func299.trans (congrArg some (by kernel_rfl))
  f310 := Tryz.func300.trans (congrArg some (by kernel_rfl))
  f329 := Tryz.func329.trans (congrArg some (by kernel_rfl))
  f330 := Tryz.func330.trans (congrArg some (by kernel_rfl))
  f333 := Tryz.func328.trans (congrArg some (by kernel_rfl))
  f334 := Tryz.func331.trans (congrArg some (by kernel_rfl))
  f335 := Tryz.func332.trans (congrArg some (by kernel_rfl))
  f336 := Tryz.func281.trans (congrArg some (by kernel_rfl))
  f344 := Tryz.func345.trans (congrArg some (by kernel_rfl))
  t0 := Tryz.underlying0
  a0 := Tryz.isAgg0
  z0 := Tryz.sizeOf0
  v0 := Tryz.zeroValue0
  t3 := Tryz.underlying3
  a3 := Tryz.isAgg3
  z3 := Tryz.sizeOf3
  v3 := Tryz.zeroValue3
  t4 := Tryz.underlying4
  a4 := Tryz.isAgg4
  z4 := Tryz.sizeOf4
  v4 := Tryz.zeroValue4
  t5 := Tryz.underlying5
  a5 := Tryz.isAgg5
  z5 := Tryz.sizeOf5
  v5 := Tryz.zeroValue5
  t9 := Tryz.underlying9
  a9 := Tryz.isAgg9
  z9 := Tryz.sizeOf9
  v9 := Tryz.zeroValue9
  t31 := Tryz.underlying49
  a31 := Tryz.isAgg49
  z31 := Tryz.sizeOf49
  v31 := Tryz.zeroValue49
  t46 := Tryz.underlying282
  a46 := Tryz.isAgg282
  z46 := Tryz.sizeOf282
  v46 := Tryz.zeroValue282
  t51 := Tryz.underlying320
  a51 := Tryz.isAgg320
  z51 := Tryz.sizeOf320
  v51 := Tryz.zeroValue320
  t53 := Tryz.underlying322
  a53 := Tryz.isAgg322
  z53 := Tryz.sizeOf322
  v53 := Tryz.zeroValue322
  t131 := Tryz.underlying102
  a131 := Tryz.isAgg102
  z131 := Tryz.sizeOf102
  v131 := Tryz.zeroValue102
  t182 := Tryz.underlying313
  a182 := Tryz.isAgg313
  z182 := Tryz.sizeOf313
  v182 := Tryz.zeroValue313
  t183 := Tryz.underlying314
  a183 := Tryz.isAgg314
  z183 := Tryz.sizeOf314
  v183 := Tryz.zeroValue314
  t218 := Tryz.underlying337
  a218 := Tryz.isAgg337
  z218 := Tryz.sizeOf337
  v218 := Tryz.zeroValue337
  t222 := Tryz.underlying341
  a222 := Tryz.isAgg341
  z222 := Tryz.sizeOf341
  v222 := Tryz.zeroValue341
  t228 := Tryz.underlying351
  a228 := Tryz.isAgg351
  z228 := Tryz.sizeOf351
  v228 := Tryz.zeroValue351
  t229 := Tryz.underlying114
  a229 := Tryz.isAgg114
  z229 := Tryz.sizeOf114
  v229 := Tryz.zeroValue114 }
open Go.Sort Go.RowKit in
theorem sh_slices_Sort_string (blk off cap : Nat) (ss : List (List UInt8)) (w : World) (hH : Holds encStr w blk off ss.toArray) (hblk : blk < w.heap.size) (hsz : ss.length < 4611686018427387904) :
    Calls Tryz.prog 192 #[.slice (some ⟨blk, off, none⟩) ss.length cap] w fun e w' =>
      e = .returned (.tuple #[]) ∧ ∃ n os, w' = grow (putRow encStr (Sort.ahead w n) blk off (ss.mergeSort fun x y => decide (x ≤ y)).toArray) os := Any.slices_Sort_string sh_lays190 blk off cap ss w hH hblk hsz
open Go.Lib in
open Go.Lib in
def sh_laysNm216_ren : Go.Shelf.Ren := ⟨fun | 16 => 191 | n => n, fun | 24 => 49 | 9 => 9 | 4 => 4 | n => n, fun | n => n⟩
theorem sh_laysNm216 : Go.Proofs.Lays2.n16 Tryz.prog sh_laysNm216_ren := {
  mixed := by kernel_rfl
  f16 := Tryz.func191.trans (congrArg some (by kernel_rfl))
  t4 := Tryz.underlying4
  a4 := Tryz.isAgg4
  z4 := Tryz.sizeOf4
  v4 := Tryz.zeroValue4
  t9 := Tryz.underlying9
  a9 := Tryz.isAgg9
  z9 := Tryz.sizeOf9
  v9 := Tryz.zeroValue9
  t24 := Tryz.underlying49
  a24 := Tryz.isAgg49
  z24 := Tryz.sizeOf49
  v24 := Tryz.zeroValue49
  i9 := by kernel_rfl }
open Go.RowKit Go.Lib in
theorem sh_slices_Clone_string (b off n c : Nat) (zs : List ByteArray) (w : World) (hz : n ≤ zs.length) (hbig : n * 16 ≤ 140737488355328) (hc : ∀ j, j < zs.length → w.cell? ⟨b, off + j, none⟩ = some (.string (zs.getD j ByteArray.empty))) :
    Calls Tryz.prog 191 #[.slice (some ⟨b, off, none⟩) n c] w fun e w' => ∃ v', e = .returned v' ∧ w'.ownsRow w.heap.size 9 1 v' n ((zs.take n).map (Value.string)) ∧ v' ≠ .slice none 0 0 ∧ Below w.heap.size w w' := Any.slices_Clone_string sh_laysNm216 b off n c zs w hz hbig hc
open Go.RowKit Go.Lib in
theorem sh_slices_Clone_string_nil (n c : Nat) (w : World) :
    Calls Tryz.prog 191 #[.slice none n c] w fun e w' => e = .returned (.slice none 0 0) ∧ w' = w := Any.slices_Clone_string_nil sh_laysNm216 n c w
open Go.RowKit Go.Lib in
theorem sh_slices_Clone_string_zero (a : Addr) (c : Nat) (w : World) :
    Calls Tryz.prog 191 #[.slice (some a) 0 c] w fun e w' => ∃ v', e = .returned v' ∧ w'.ownsRow w.heap.size 9 1 v' 0 [] ∧ v' ≠ .slice none 0 0 ∧ Below w.heap.size w w' := Any.slices_Clone_string_zero sh_laysNm216 a c w
def sh_lays194_ren : Go.Shelf.Ren := ⟨fun | 194 => 193 | n => n, fun | 31 => 49 | 9 => 9 | 3 => 3 | 4 => 4 | 0 => 0 | n => n, fun | n => n⟩
theorem sh_lays194 : Go.Proofs.Lays.n194 Tryz.prog sh_lays194_ren := {
  mixed := by kernel_rfl
  f194 := Tryz.func193.trans (congrArg some (by kernel_rfl))
  t0 := Tryz.underlying0
  a0 := Tryz.isAgg0
  z0 := Tryz.sizeOf0
  v0 := Tryz.zeroValue0
  t3 := Tryz.underlying3
  a3 := Tryz.isAgg3
  z3 := Tryz.sizeOf3
  v3 := Tryz.zeroValue3
  t4 := Tryz.underlying4
  a4 := Tryz.isAgg4
  z4 := Tryz.sizeOf4
  v4 := Tryz.zeroValue4
  t9 := Tryz.underlying9
  a9 := Tryz.isAgg9
  z9 := Tryz.sizeOf9
  v9 := Tryz.zeroValue9
  t31 := Tryz.underlying49
  a31 := Tryz.isAgg49
  z31 := Tryz.sizeOf49
  v31 := Tryz.zeroValue49 }
open Go.RowKit Go.Lib Go.Sort in
theorem sh_slices_Compact_string (blk off cap : Nat) (zs : List (List UInt8)) (w : World) (hH : Holds encStr w blk off zs.toArray) (hsz : zs.length ≤ 9223372036854775807) (hcap : zs.length ≤ cap) :
    Calls Tryz.prog 193 #[.slice (some ⟨blk, off, none⟩) zs.length cap] w fun e w' => e = .returned (.slice (some ⟨blk, off, none⟩) (Lib.compact zs).length cap) ∧ ∃ q, w' = putRow encStr (Sort.ahead w q) blk off (Lib.compact zs ++ List.replicate (zs.length - (Lib.compact zs).length) []).toArray := Any.slices_Compact_string sh_lays194 blk off cap zs w hH hsz hcap
open Go.RowKit Go.Lib Go.Sort in
theorem sh_slices_Compact_string_empty (a : Option Addr) (cap : Nat) (w : World) :
    Calls Tryz.prog 193 #[.slice a 0 cap] w fun e w' => e = .returned (.slice a 0 cap) ∧ w' = w := Any.slices_Compact_string_empty sh_lays194 a cap w
open Go.RowKit Go.Sort in
theorem sh_slices_Sort_string_none (p : Option Addr) (cap : Nat) (w : World) :
    Calls Tryz.prog 192 #[.slice p 0 cap] w fun e w' => e = .returned (.tuple #[]) ∧ w' = w := Any.slices_Sort_string_none sh_lays190 p cap w
end Go.Proofs.YtmifpfojhlmbkaaGreat
namespace Go.Proofs.YtmifpfojhlmbkaaGreat
set_option maxRecDepth 100000
set_option maxHeartbeats 16000000
open Go.RowKit
set_option linter.unusedVariables false
set_option linter.unusedSimpArgs false
theorem isNaN_any (s : ByteArray) (w : World) : Calls Tryz.prog 281 #[.string s] w fun e w' => e = .returned (.bool false) ∧ w = w' := by
  have tb : (s.toList != s.toList) = false := by simp
  go_enter Tryz.func281, Tryz.ntmps281
  go_wp2
  go_ret
  exact ⟨by simp, rfl⟩
def cmpL (x y : Tx) : Int := if x < y then -1 else if y < x then 1 else 0
theorem cmp_any (x y : Tx) (w : World) : Calls Tryz.prog 228 #[.string (bs x), .string (bs y)] w fun e w' => e = .returned (.int .i64 (cmpL x y)) ∧ w = w' := by
  have t1 := less_bs x y
  have t2 := less_bs y x
  have t3 := eq_bs x y
  have HE : Hid (cmpL x y = if x < y then -1 else if y < x then 1 else 0) := Lib.hid rfl
  by_cases h1 : x < y
  · have h2 : ¬ y < x := lt_as h1
    have h3 : ¬ x = y := lt_ne h1
    have E := Lib.hid (show cmpL x y = -1 from by rw [HE.out, if_pos h1])
    rw [decide_eq_true h1] at t1
    rw [decide_eq_false h2] at t2
    rw [decide_eq_false h3] at t3
    clear h1 h2 h3
    generalize cmpL x y = r at *
    generalize bs x = s at *
    generalize bs y = u at *
    go_enter Tryz.func228, Tryz.ntmps228
    go_wp2_with fail
    refine (isNaN_any s _).mono ?_
    rintro e w' ⟨rfl, rfl⟩
    go_wp2_with fail
    refine (isNaN_any u _).mono ?_
    rintro e w' ⟨rfl, rfl⟩
    go_wp2
    go_ret
    exact ⟨ret_int E.out.symm, rfl⟩
  · by_cases h2 : y < x
    · have h3 : ¬ x = y := fun e => lt_ne h2 e.symm
      have E := Lib.hid (show cmpL x y = 1 from by rw [HE.out, if_neg h1, if_pos h2])
      rw [decide_eq_false h1] at t1
      rw [decide_eq_true h2] at t2
      rw [decide_eq_false h3] at t3
      clear h1 h2 h3
      generalize cmpL x y = r at *
      generalize bs x = s at *
      generalize bs y = u at *
      go_enter Tryz.func228, Tryz.ntmps228
      go_wp2_with fail
      refine (isNaN_any s _).mono ?_
      rintro e w' ⟨rfl, rfl⟩
      go_wp2_with fail
      refine (isNaN_any u _).mono ?_
      rintro e w' ⟨rfl, rfl⟩
      go_wp2
      go_ret
      exact ⟨ret_int E.out.symm, rfl⟩
    · have h3 : x = y := by
        rcases lt_3 x y with k | k | k
        · exact absurd k h1
        · exact k
        · exact absurd k h2
      have E := Lib.hid (show cmpL x y = 0 from by rw [HE.out, if_neg h1, if_neg h2])
      rw [decide_eq_false h1] at t1
      rw [decide_eq_false h2] at t2
      rw [decide_eq_true h3] at t3
      clear h1 h2 h3
      generalize cmpL x y = r at *
      generalize bs x = s at *
      generalize bs y = u at *
      go_enter Tryz.func228, Tryz.ntmps228
      go_wp2_with fail
      refine (isNaN_any s _).mono ?_
      rintro e w' ⟨rfl, rfl⟩
      go_wp2_with fail
      refine (isNaN_any u _).mono ?_
      rintro e w' ⟨rfl, rfl⟩
      go_wp2
      go_ret
      exact ⟨ret_int E.out.symm, rfl⟩
end Go.Proofs.YtmifpfojhlmbkaaGreat
namespace Go.Proofs.YtmifpfojhlmbkaaGreat
set_option maxRecDepth 100000
set_option maxHeartbeats 16000000
open Go.RowKit Go.Shelf Go.Lib Go.Sort
set_option linter.unusedVariables false
set_option linter.unusedSimpArgs false
theorem lnew_row (w : World) : LRow (w.alloc (.cells #[] 100)) w.heap.size (.slice (some ⟨w.heap.size, 0, none⟩) 0 0) [] :=
  World.ownsRow_made w #[] 0 (Nat.le_refl _) (Nat.zero_le _) (by simp)
theorem lclone_any (a : Option Addr) (n c : Nat) (l : List Lb) (w : World) (h : LbAt w a n c l) (hn : n ≤ 1000) :
    Calls Tryz.prog 151 #[.slice a n c] w fun e w' => ∃ v, e = .returned v ∧ LRow w' w.heap.size v l ∧ Below w.heap.size w w' := by
  have heq := fun (W : World) (a : Option Addr) (n c n' c' : Nat) => Lib.run_eql_slice_nil (P := Tryz.prog) W 28 _ a n c n' c' Tryz.underlying28
  cases a with
  | none =>
    have h0 : n = 0 := by
      rcases h.2.2.2 with e | ⟨b, off, e, _⟩
      · exact e
      · cases e
    have e0 : l = [] := List.eq_nil_of_length_eq_zero (by rw [h.1]; exact h0)
    subst e0
    clear h
    go_enter Tryz.func151, Tryz.ntmps151
    go_wp2
    go_ret
    exact ⟨_, rfl, LRow.nil _ _, Below.refl _ _⟩
  | some ad =>
    have B1 := (Below.refl w.heap.size w).alloc (Nat.le_refl _) (.cells #[] 100)
    have R1 := Lib.hid (lnew_row w)
    have H1 := Lib.hid (h.keep B1)
    have HB := Lib.hid B1
    clear h B1
    go_enter Tryz.func151, Tryz.ntmps151
    go_wp2_with (at_builtin; refine wpList_append_lb rfl _ _ rfl w.heap.size _ [] rfl R1.out _ n c l rfl H1.out (by simp; omega) HB.out.size ?_; intro v2 w2 R2 g2)
    go_ret
    exact ⟨v2, rfl, R2, LRow.bel HB.out HB.out.size R1.out (Nat.le_refl _) g2⟩
theorem cmpLb (x y : Lb) (W : World) : Calls Tryz.prog 227 #[.agg #[.string (bs x.1), .string (bs x.2)], .agg #[.string (bs y.1), .string (bs y.2)]] W fun e w' => e = .returned (.int .i64 (cmpL x.1 y.1)) ∧ ∃ q os', w' = grow (W.drewN q) os' := by
  have HC := Lib.hid (fun W' => cmp_any x.1 y.1 W')
  generalize cmpL x.1 y.1 = r at HC ⊢
  have B1 := (Below.refl W.heap.size W).alloc (Nat.le_refl _) (.cells #[.string (bs x.1), .string (bs x.2)] 100)
  have X1 : BoxL (W.alloc (.cells #[.string (bs x.1), .string (bs x.2)] 100)) W.heap.size x.1 x.2 := heap_new W _
  have X2 : BoxL ((W.alloc (.cells #[.string (bs x.1), .string (bs x.2)] 100)).alloc (.cells #[.string (bs y.1), .string (bs y.2)] 100)) (W.heap.size + 1) y.1 y.2 := by
    have := heap_new (W.alloc (.cells #[.string (bs x.1), .string (bs x.2)] 100)) (.cells #[.string (bs y.1), .string (bs y.2)] 100)
    rw [World.size_alloc] at this
    exact this
  have X1' := X1.trn (F := fun _ => False) (.of ((Below.refl _ _).alloc (Nat.le_refl _) (.cells #[.string (bs y.1), .string (bs y.2)] 100)))
  have x0 := X1'.x0
  have y0 := X2.x0
  clear X1 B1
  go_enter Tryz.func227, Tryz.ntmps227
  go_wp2_with fail
  refine (HC.out _).mono ?_
  rintro e w' ⟨rfl, rfl⟩
  go_wp2
  go_ret
  exact ⟨rfl, 0, _, by rw [alloc_eq_grow, alloc_eq_grow, grow_grow]; rfl⟩
def cfLb (x y : Lb) : Int := cmpL x.1 y.1
theorem ltLb (x y : Lb) : ltOf cfLb x y = decide (x.1 < y.1) := by
  unfold ltOf cfLb cmpL
  by_cases h1 : x.1 < y.1
  · simp [h1]
  · by_cases h2 : y.1 < x.1 <;> simp [h1, h2]
theorem swoLb : SWO (ltOf cfLb) where
  irrefl x := by rw [ltLb]; simp [lt_no]
  trans x y z h1 h2 := by
    rw [ltLb] at *
    exact decide_eq_true (lt_tr (of_decide_eq_true h1) (of_decide_eq_true h2))
  ntrans x y z h1 h2 := by
    rw [ltLb] at *
    have a := of_decide_eq_false h1
    have b := of_decide_eq_false h2
    refine decide_eq_false (fun h => ?_)
    rcases lt_3 x.1 y.1 with q | q | q
    · exact a q
    · rw [q] at h; exact b h
    · exact b (lt_tr q h)
theorem holdsK_of {w : World} {base g cap : Nat} {l : List Lb} (h : LRow w base (.slice (some ⟨g, 0, none⟩) l.length cap) l) : HoldsK encLb 2 w g 0 l.toArray ∧ base ≤ g ∧ g < w.heap.size := by
  rcases h.2 with ⟨e, _⟩ | ⟨g', cap', cur, e, hb, hg, hle, hmx, hsz, htk⟩
  · cases e
  · simp only [Value.slice.injEq, Option.some.injEq, Addr.mk.injEq] at e
    obtain ⟨⟨rfl, _, _⟩, _, rfl⟩ := e
    refine ⟨fun t ht => ?_, hb, heap_lt hg⟩
    rw [size_flatK] at ht
    simp only [List.size_toArray] at ht
    have hcell : ∀ j u, (lbCells l)[j]? = some u → w.cell? ⟨g, j, none⟩ = some u := fun j u hu => by
      have hjl : j < l.length * 2 := by have := (List.getElem?_eq_some_iff.1 hu).1; rw [lbCells_length] at this; exact this
      rw [cell_of hg]
      rw [← htk, List.getElem?_take, if_pos hjl, Array.getElem?_toList] at hu
      exact hu
    refine ⟨?_, frozen_of hg⟩
    rw [get_flatK encLb 2 l.toArray t (by simpa using ht), Nat.zero_add]
    have hd : (l.toArray)[t / 2]! = (lN l (t / 2), lV l (t / 2)) := by
      have : t / 2 < l.length := by omega
      rw [← lb_bang this]; simp
    rw [hd]
    obtain ⟨e0, e1⟩ := lbCells_get l (t / 2) (by omega)
    rcases Nat.mod_two_eq_zero_or_one t with m | m
    · have et : t = t / 2 * 2 := by omega
      rw [m]
      conv => lhs; rw [et]
      rw [hcell _ _ e0]; rfl
    · have et : t = t / 2 * 2 + 1 := by omega
      rw [m]
      conv => lhs; rw [et]
      rw [hcell _ _ e1]; rfl
theorem lb_of_holdsK {w : World} {g cap : Nat} {l : List Lb} (h : HoldsK encLb 2 w g 0 l.toArray) (hg : g < w.heap.size) (hc : l.length ≤ cap) (hn : l.length ≤ 1000) : LbAt w (some ⟨g, 0, none⟩) l.length cap l := by
  refine ⟨rfl, hc, by omega, .inr ⟨g, 0, rfl, hg, fun i hi => ?_⟩⟩
  have hd : (l.toArray)[i]! = (lN l i, lV l i) := by rw [← lb_bang hi]; simp
  have h0 := (h (i * 2) (by rw [size_flatK]; simp; omega)).1
  have h1 := (h (i * 2 + 1) (by rw [size_flatK]; simp; omega)).1
  rw [get_flatK encLb 2 l.toArray _ (by simp; omega)] at h0 h1
  rw [show i * 2 / 2 = i from by omega, show i * 2 % 2 = 0 from by omega, hd] at h0
  rw [show (i * 2 + 1) / 2 = i from by omega, show (i * 2 + 1) % 2 = 1 from by omega, hd] at h1
  exact ⟨h0, h1⟩
theorem below_sortK {w0 w : World} {B g m : Nat} {d : Array Lb} {os : Array Obj} (h : RowKit.Below B w0 w) (hB : B ≤ w.heap.size) (hg : B ≤ g) : RowKit.Below B w0 (sortWorldK encLb 2 w g 0 m d os) := by
  refine ⟨h.os, h.tape, h.output, ?_, fun k hk => ?_⟩
  · have := h.size
    simp [sortWorldK, putRowK, putRow, mapBlock, Sort.ahead, grow]; omega
  · have hkw : k < w.heap.size := by omega
    rw [← h.block k hk]
    simp [sortWorldK, putRowK, putRow, mapBlock, Sort.ahead, grow, Array.getElem?_append, Array.getElem?_modify, show g ≠ k by omega, hkw, Array.getElem_modify]
theorem ty_sortK {w : World} {g m : Nat} {d : Array Lb} {os : Array Obj} {cs : Array Value} {t : TypeId} {f : Nat × Nat} (h : w.heap[g]? = some (.cells cs t f)) : ∃ cs', (sortWorldK encLb 2 w g 0 m d os).heap[g]? = some (.cells cs' t f) := by
  have hg := heap_lt h
  refine ⟨putCells id 0 (flatK encLb 2 d) cs, ?_⟩
  unfold sortWorldK
  rw [heap_grow_old _ _ (by rw [size_putRowK]; exact hg)]
  show ((Sort.ahead w m).heap.modify g _)[g]? = _
  rw [Array.getElem?_modify, if_pos rfl]
  show (w.heap[g]?).map _ = _
  rw [h]; rfl
theorem srt_of_sorted {l : List Lb} {d : Array Lb} (hn : (keysL l).Nodup) (hp : PermIn 0 l.toArray.size l.toArray d) (hs : SortedIn (ltOf cfLb) 0 l.toArray.size d) : d.toList = srt l := by
  obtain ⟨p1, _, p3⟩ := hp
  have e1 : d.toList.Perm l := by
    have a1 : (d.extract 0 l.toArray.size).toList = d.toList := by rw [← p1]; simp
    have a2 : (l.toArray.extract 0 l.toArray.size).toList = l := by simp
    rw [a1, a2] at p3; exact p3
  have hnd : (keysL d.toList).Nodup := (e1.map Prod.fst).nodup_iff.2 hn
  refine srt_of hn ?_ e1
  unfold SS keysL at *
  rw [List.pairwise_map, List.pairwise_iff_getElem]
  intro i j hi hj hij
  have hd := hs i j (Nat.zero_le _) hij (by rw [← p1]; simpa using hj)
  rw [ltLb] at hd
  have h1 := of_decide_eq_false hd
  have gi : d[i]! = d.toList[i] := by rw [getElem!_pos d i (by simpa using hi)]; simp
  have gj : d[j]! = d.toList[j] := by rw [getElem!_pos d j (by simpa using hj)]; simp
  rw [gi, gj] at h1
  rcases lt_3 d.toList[i].1 d.toList[j].1 with q | q | q
  · exact q
  · exfalso
    rw [List.Nodup, List.pairwise_map, List.pairwise_iff_getElem] at hnd
    exact hnd i j hi hj hij q
  · exact absurd q h1
theorem sorted9_any (a : Option Addr) (n c : Nat) (l : List Lb) (w : World) (h : LbAt w a n c l) (hn : n ≤ 1000) (hd : (keysL l).Nodup) :
    Calls Tryz.prog 157 #[.slice a n c] w fun e w' => ∃ a' c', e = .returned (.slice a' n c') ∧ LbAt w' a' n c' (srt l) ∧ RowKit.Below w.heap.size w w' ∧ LbTy w' a' (srt l) := by
  have HL := Lib.hid (lclone_any a n c l w h hn)
  have HLN := Lib.hid h.1
  have HN := Lib.hid hd
  clear h hd
  have eg : ∀ args w, (callFunc 227 args).run Tryz.prog w = .ok (.enter 227 args) w := enters_of Tryz.func227 (by kernel_rfl) rfl
  by_cases h0 : n = 0
  · subst h0
    have e0 : l = [] := List.eq_nil_of_length_eq_zero HLN.out
    subst e0
    clear hn HN HLN
    go_enter Tryz.func157, Tryz.ntmps157
    go_wp2_with fail
    refine HL.out.mono ?_
    rintro e w1 ⟨v, rfl, R1, B1⟩
    obtain ⟨a1, c1, rfl, L1⟩ := R1.shape
    have HL1 := Lib.hid L1
    have HB := Lib.hid B1
    have HS := Lib.hid (show Calls Tryz.prog 226 #[.slice a1 0 c1, .func (.func 227) #[] #[]] w1 _ from AnyF.slices_SortFunc_none sh_laysSortLb a1 c1 (.func (.func 227) #[] #[]) w1)
    replace HL1 : Hid (LbAt w1 a1 0 c1 []) := HL1
    clear R1 B1 L1 HL
    rw [show ([] : List Lb).length = 0 from rfl]
    go_wp2_with fail
    refine HS.out.mono ?_
    rintro e w2 ⟨rfl, rfl⟩
    go_wp2
    go_ret
    exact ⟨a1, c1, rfl, HL1.out, HB.out, .inl rfl⟩
  · go_enter Tryz.func157, Tryz.ntmps157
    go_wp2_with fail
    refine HL.out.mono ?_
    rintro e w1 ⟨v, rfl, R1, B1⟩
    obtain ⟨g, cap, rfl, hcap⟩ : ∃ g cap, v = .slice (some ⟨g, 0, none⟩) n cap ∧ n ≤ cap := by
      rcases R1.2 with ⟨_, e⟩ | ⟨g, cap, cur, e, _, _, hle, _⟩
      · exact absurd (by rw [← HLN.out]; exact e) h0
      · exact ⟨g, cap, by rw [e, HLN.out], by rw [← HLN.out]; exact hle⟩
    have R2 : LRow w1 w.heap.size (.slice (some ⟨g, 0, none⟩) l.length cap) l := by rw [HLN.out]; exact R1
    obtain ⟨hH, hb, hg⟩ := holdsK_of R2
    have hs1 : l.toArray.size = n := by simpa using HLN.out
    have hcon := AnyQ.slices_SortFunc sh_laysSortLb 2 Tryz.isAgg100 Tryz.sizeOf100 encLb (fun _ => rfl) (fun x v hv => by simp [encLb] at hv; rcases hv with rfl | rfl <;> rfl) cfLb swoLb 227 #[] g 0 cap l.toArray w1 eg
      (fun _ _ _ _ x y => cmpLb x y _) hH hg (by rw [hs1]; omega)
    rw [hs1] at hcon
    change Calls Tryz.prog 226 _ _ _ at hcon
    have HC := Lib.hid hcon
    have HE := Lib.hid (fun (d' : Array Lb) (m : Nat) (os : Array Obj) (hp : PermIn 0 n l.toArray d') (hs : SortedIn (ltOf cfLb) 0 n d') =>
      show LbAt (sortWorldK encLb 2 w1 g 0 m d' os) (some ⟨g, 0, none⟩) n cap (srt l) ∧ RowKit.Below w.heap.size w (sortWorldK encLb 2 w1 g 0 m d' os) ∧ LbTy (sortWorldK encLb 2 w1 g 0 m d' os) (some ⟨g, 0, none⟩) (srt l) from by
        have hse := srt_of_sorted (l := l) (d := d') HN.out (by rw [hs1]; exact hp) (by rw [hs1]; exact hs)
        have hds : d'.size = l.toArray.size := by rw [hs1, ← hs1]; exact hp.1
        have hK := holdsK_sortWorldK_c encLb 2 w1 g 0 l.toArray d' m os hH hg hds
        have hg2 : g < (sortWorldK encLb 2 w1 g 0 m d' os).heap.size := Nat.lt_of_lt_of_le hg (size_sortWorldK_c encLb 2 w1 g 0 m d' os)
        have hd2 : d' = (srt l).toArray := by rw [← hse]
        have hlen : (srt l).length = n := by rw [srt_len]; exact HLN.out
        refine ⟨?_, below_sortK B1 B1.size hb, ?_⟩
        rotate_left
        · rcases R2.2 with ⟨e, _⟩ | ⟨g', cap', cur, e, _, hgc, _⟩
          · cases e
          · simp only [Value.slice.injEq, Option.some.injEq, Addr.mk.injEq] at e
            obtain ⟨⟨rfl, _⟩, _⟩ := e
            obtain ⟨cs', hcs⟩ := ty_sortK (m := m) (d := d') (os := os) hgc
            exact .inr ⟨g, 0, cs', _, rfl, hcs⟩
        rw [hd2] at hK
        have := lb_of_holdsK (cap := cap) hK (by rw [← hd2]; exact hg2) (by rw [hlen]; exact hcap) (by rw [hlen]; exact hn)
        rw [hlen, ← hd2] at this
        exact this)
    clear R1 B1 R2 hH hcon HL hs1
    go_wp2_with fail
    refine HC.out.mono ?_
    rintro e w2 ⟨rfl, d', m, os, hp, hs, rfl⟩
    have HF := Lib.hid (HE.out d' m os hp hs)
    clear hp hs
    generalize sortWorldK encLb 2 w1 g 0 m d' os = W2 at *
    go_wp2
    go_ret
    exact ⟨_, cap, rfl, HF.out.1, HF.out.2.1, HF.out.2.2⟩
end Go.Proofs.YtmifpfojhlmbkaaGreat
