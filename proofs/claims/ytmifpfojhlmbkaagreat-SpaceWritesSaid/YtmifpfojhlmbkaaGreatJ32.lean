/-
  Contracts.
-/
import Derived.Test.YtmifpfojhlmbkaaGreatJ0
import Derived.Test.YtmifpfojhlmbkaaGreatJ31
import Derived.Lib.SlicesS
import Derived.Shelf.Sort.Plain
import Derived.Shelf.Slices.Turned
import Derived.Ground.Names2Prog
import Derived.Shelf.Slices.Clone
import Derived.Shelf.Slices.CompactS
import Derived.Shelf.Slices.In.SortNone
import Derived.Test.YtmifpfojhlmbkaaGreatProg
namespace Go.Proofs.YtmifpfojhlmbkaaGreat
open Lib (hid)
set_option maxRecDepth 100000
set_option maxHeartbeats 16000000
open Go.Shelf
def sh_lays190_ren : Go.Shelf.Ren := ⟨fun | 190 => 192 | 125 => 252 | 258 => 251 | 128 => 301 | 129 => 302 | 302 => 292 | 303 => 293 | 304 => 294 | 305 => 295 | 306 => 296 | 307 => 297 | 308 => 298 | 309 => 299 | 310 => 300 | 333 => 328 | 329 => 329 | 330 => 330 | 334 => 331 | 335 => 332 | 336 => 281 | 344 => 345 | n => n, fun | 31 => 49 | 9 => 9 | 3 => 3 | 46 => 282 | 0 => 0 | 51 => 320 | 53 => 322 | 4 => 4 | 183 => 314 | 182 => 313 | 131 => 102 | 5 => 5 | 218 => 337 | 222 => 341 | 228 => 351 | 229 => 114 | n => n, fun | n => n⟩
theorem sh_lays190 : Go.Proofs.Lays.n190 Tryz.prog sh_lays190_ren := {
  mixed := by kernel_rfl
  f125 := Tryz.func252.trans (congrArg some (by kernel_rfl))
  f128 := Tryz.func301.trans (congrArg some (by kernel_rfl))
  f129 := Tryz.func302.trans (congrArg some (by kernel_rfl))
  f190 := Tryz.func192.trans (congrArg some (by kernel_rfl))
  f258 := Tryz.func251.trans (congrArg some (by kernel_rfl))
  f302 := Tryz.func292.trans (congrArg some (by kernel_rfl))
  f303 := Tryz.func293.trans (congrArg some (by kernel_rfl))
  f304 := Tryz.func294.trans (congrArg some (by kernel_rfl))
  f305 := Tryz.func295.trans (congrArg some (by kernel_rfl))
  f306 := Tryz.func296.trans (congrArg some (by kernel_rfl))
  f307 := Tryz.func297.trans (congrArg some (by kernel_rfl))
  f308 := Tryz.func298.trans (congrArg some (by kernel_rfl))
  f309 := Tryz.func299.trans (congrArg some (by kernel_rfl))
  f310 := Tryz.func300.trans (congrArg some (by kernel_rfl))
  f329 := Tryz.func329.trans (congrArg some (by kernel_rfl))
  f330 := Tryz.func330.trans (congrArg some (by kernel_rfl))
  f333 := Tryz.func328.trans (congrArg some (by kernel_rfl))
  f334 := Tryz.func331.trans (congrArg some (by kernel_rfl))
  f335 := Tryz.func332.trans (congrArg some (by kernel_rfl))
  f336 := Tryz.func281.trans (congrArg some (by kernel_rfl))
  f344 := Tryz.func345.trans (congrArg some (by kernel_rfl))
  t0 := Tryz.underlying0
  a0 := Tryz.isAgg0
  z0 := Tryz.sizeOf0
  v0 := Tryz.zeroValue0
  t3 := Tryz.underlying3
  a3 := Tryz.isAgg3
  z3 := Tryz.sizeOf3
  v3 := Tryz.zeroValue3
  t4 := Tryz.underlying4
  a4 := Tryz.isAgg4
  z4 := Tryz.sizeOf4
  v4 := Tryz.zeroValue4
  t5 := Tryz.underlying5
  a5 := Tryz.isAgg5
  z5 := Tryz.sizeOf5
  v5 := Tryz.zeroValue5
  t9 := Tryz.underlying9
  a9 := Tryz.isAgg9
  z9 := Tryz.sizeOf9
  v9 := Tryz.zeroValue9
  t31 := Tryz.underlying49
  a31 := Tryz.isAgg49
  z31 := Tryz.sizeOf49
  v31 := Tryz.zeroValue49
  t46 := Tryz.underlying282
  a46 := Tryz.isAgg282
  z46 := Tryz.sizeOf282
  v46 := Tryz.zeroValue282
  t51 := Tryz.underlying320
  a51 := Tryz.isAgg320
  z51 := Tryz.sizeOf320
  v51 := Tryz.zeroValue320
  t53 := Tryz.underlying322
  a53 := Tryz.isAgg322
  z53 := Tryz.sizeOf322
  v53 := Tryz.zeroValue322
  t131 := Tryz.underlying102
  a131 := Tryz.isAgg102
  z131 := Tryz.sizeOf102
  v131 := Tryz.zeroValue102
  t182 := Tryz.underlying313
  a182 := Tryz.isAgg313
  z182 := Tryz.sizeOf313
  v182 := Tryz.zeroValue313
  t183 := Tryz.underlying314
  a183 := Tryz.isAgg314
  z183 := Tryz.sizeOf314
  v183 := Tryz.zeroValue314
  t218 := Tryz.underlying337
  a218 := Tryz.isAgg337
  z218 := Tryz.sizeOf337
  v218 := Tryz.zeroValue337
  t222 := Tryz.underlying341
  a222 := Tryz.isAgg341
  z222 := Tryz.sizeOf341
  v222 := Tryz.zeroValue341
  t228 := Tryz.underlying351
  a228 := Tryz.isAgg351
  z228 := Tryz.sizeOf351
  v228 := Tryz.zeroValue351
  t229 := Tryz.underlying114
  a229 := Tryz.isAgg114
  z229 := Tryz.sizeOf114
  v229 := Tryz.zeroValue114 }
open Go.Sort Go.RowKit in
theorem sh_slices_Sort_string (blk off cap : Nat) (ss : List (List UInt8)) (w : World) (hH : Holds encStr w blk off ss.toArray) (hblk : blk < w.heap.size) (hsz : ss.length < 4611686018427387904) :
    Calls Tryz.prog 192 #[.slice (some ⟨blk, off, none⟩) ss.length cap] w fun e w' =>
      e = .returned (.tuple #[]) ∧ ∃ n os, w' = grow (putRow encStr (Sort.ahead w n) blk off (ss.mergeSort fun x y => decide (x ≤ y)).toArray) os := Any.slices_Sort_string sh_lays190 blk off cap ss w hH hblk hsz
open Go.Lib in
open Go.Lib in
def sh_laysNm216_ren : Go.Shelf.Ren := ⟨fun | 16 => 191 | n => n, fun | 24 => 49 | 9 => 9 | 4 => 4 | n => n, fun | n => n⟩
theorem sh_laysNm216 : Go.Proofs.Lays2.n16 Tryz.prog sh_laysNm216_ren := {
  mixed := by kernel_rfl
  f16 := Tryz.func191.trans (congrArg some (by kernel_rfl))
  t4 := Tryz.underlying4
  a4 := Tryz.isAgg4
  z4 := Tryz.sizeOf4
  v4 := Tryz.zeroValue4
  t9 := Tryz.underlying9
  a9 := Tryz.isAgg9
  z9 := Tryz.sizeOf9
  v9 := Tryz.zeroValue9
  t24 := Tryz.underlying49
  a24 := Tryz.isAgg49
  z24 := Tryz.sizeOf49
  v24 := Tryz.zeroValue49
  i9 := by kernel_rfl }
open Go.RowKit Go.Lib in
theorem sh_slices_Clone_string (b off n c : Nat) (zs : List ByteArray) (w : World) (hz : n ≤ zs.length) (hbig : n * 16 ≤ 140737488355328) (hc : ∀ j, j < zs.length → w.cell? ⟨b, off + j, none⟩ = some (.string (zs.getD j ByteArray.empty))) :
    Calls Tryz.prog 191 #[.slice (some ⟨b, off, none⟩) n c] w fun e w' => ∃ v', e = .returned v' ∧ w'.ownsRow w.heap.size 9 1 v' n ((zs.take n).map (Value.string)) ∧ v' ≠ .slice none 0 0 ∧ Below w.heap.size w w' := Any.slices_Clone_string sh_laysNm216 b off n c zs w hz hbig hc
open Go.RowKit Go.Lib in
theorem sh_slices_Clone_string_nil (n c : Nat) (w : World) :
    Calls Tryz.prog 191 #[.slice none n c] w fun e w' => e = .returned (.slice none 0 0) ∧ w' = w := Any.slices_Clone_string_nil sh_laysNm216 n c w
open Go.RowKit Go.Lib in
theorem sh_slices_Clone_string_zero (a : Addr) (c : Nat) (w : World) :
    Calls Tryz.prog 191 #[.slice (some a) 0 c] w fun e w' => ∃ v', e = .returned v' ∧ w'.ownsRow w.heap.size 9 1 v' 0 [] ∧ v' ≠ .slice none 0 0 ∧ Below w.heap.size w w' := Any.slices_Clone_string_zero sh_laysNm216 a c w
def sh_lays194_ren : Go.Shelf.Ren := ⟨fun | 194 => 193 | n => n, fun | 31 => 49 | 9 => 9 | 3 => 3 | 4 => 4 | 0 => 0 | n => n, fun | n => n⟩
theorem sh_lays194 : Go.Proofs.Lays.n194 Tryz.prog sh_lays194_ren := {
  mixed := by kernel_rfl
  f194 := Tryz.func193.trans (congrArg some (by kernel_rfl))
  t0 := Tryz.underlying0
  a0 := Tryz.isAgg0
  z0 := Tryz.sizeOf0
  v0 := Tryz.zeroValue0
  t3 := Tryz.underlying3
  a3 := Tryz.isAgg3
  z3 := Tryz.sizeOf3
  v3 := Tryz.zeroValue3
  t4 := Tryz.underlying4
  a4 := Tryz.isAgg4
  z4 := Tryz.sizeOf4
  v4 := Tryz.zeroValue4
  t9 := Tryz.underlying9
  a9 := Tryz.isAgg9
  z9 := Tryz.sizeOf9
  v9 := Tryz.zeroValue9
  t31 := Tryz.underlying49
  a31 := Tryz.isAgg49
  z31 := Tryz.sizeOf49
  v31 := Tryz.zeroValue49 }
open Go.RowKit Go.Lib Go.Sort in
theorem sh_slices_Compact_string (blk off cap : Nat) (zs : List (List UInt8)) (w : World) (hH : Holds encStr w blk off zs.toArray) (hsz : zs.length ≤ 9223372036854775807) (hcap : zs.length ≤ cap) :
    Calls Tryz.prog 193 #[.slice (some ⟨blk, off, none⟩) zs.length cap] w fun e w' => e = .returned (.slice (some ⟨blk, off, none⟩) (Lib.compact zs).length cap) ∧ ∃ q, w' = putRow encStr (Sort.ahead w q) blk off (Lib.compact zs ++ List.replicate (zs.length - (Lib.compact zs).length) []).toArray := Any.slices_Compact_string sh_lays194 blk off cap zs w hH hsz hcap
open Go.RowKit Go.Lib Go.Sort in
theorem sh_slices_Compact_string_empty (a : Option Addr) (cap : Nat) (w : World) :
    Calls Tryz.prog 193 #[.slice a 0 cap] w fun e w' => e = .returned (.slice a 0 cap) ∧ w' = w := Any.slices_Compact_string_empty sh_lays194 a cap w
open Go.RowKit Go.Sort in
theorem sh_slices_Sort_string_none (p : Option Addr) (cap : Nat) (w : World) :
    Calls Tryz.prog 192 #[.slice p 0 cap] w fun e w' => e = .returned (.tuple #[]) ∧ w' = w := Any.slices_Sort_string_none sh_lays190 p cap w
open Go.RowKit
set_option linter.unusedVariables false
set_option linter.unusedSimpArgs false
theorem isNaN_any (s : ByteArray) (w : World) : Calls Tryz.prog 281 #[.string s] w fun e w' => e = .returned (.bool false) ∧ w = w' := by
  have tb : (s.toList != s.toList) = false := by simp
  go_enter Tryz.func281, Tryz.ntmps281
  go_wp2
  go_ret
  exact ⟨by simp, rfl⟩
def cmpL (x y : Tx) : Int := if x < y then -1 else if y < x then 1 else 0
theorem cmp_any (x y : Tx) (w : World) : Calls Tryz.prog 228 #[.string (bs x), .string (bs y)] w fun e w' => e = .returned (.int .i64 (cmpL x y)) ∧ w = w' := by
  have t1 := less_bs x y
  have t2 := less_bs y x
  have t3 := eq_bs x y
  have HE : Hid (cmpL x y = if x < y then -1 else if y < x then 1 else 0) := hid rfl
  by_cases h1 : x < y
  · have h2 : ¬ y < x := lt_as h1
    have h3 : ¬ x = y := lt_ne h1
    have E := hid (show cmpL x y = -1 from by rw [HE.out, if_pos h1])
    rw [decide_eq_true h1] at t1
    rw [decide_eq_false h2] at t2
    rw [decide_eq_false h3] at t3
    clear h1 h2 h3
    generalize cmpL x y = r at *
    generalize bs x = s at *
    generalize bs y = u at *
    go_enter Tryz.func228, Tryz.ntmps228
    go_wp2_with fail
    refine (isNaN_any s _).mono ?_
    rintro e w' ⟨rfl, rfl⟩
    go_wp2_with fail
    refine (isNaN_any u _).mono ?_
    rintro e w' ⟨rfl, rfl⟩
    go_wp2
    go_ret
    exact ⟨ret_int E.out.symm, rfl⟩
  · by_cases h2 : y < x
    · have h3 : ¬ x = y := fun e => lt_ne h2 e.symm
      have E := hid (show cmpL x y = 1 from by rw [HE.out, if_neg h1, if_pos h2])
      rw [decide_eq_false h1] at t1
      rw [decide_eq_true h2] at t2
      rw [decide_eq_false h3] at t3
      clear h1 h2 h3
      generalize cmpL x y = r at *
      generalize bs x = s at *
      generalize bs y = u at *
      go_enter Tryz.func228, Tryz.ntmps228
      go_wp2_with fail
      refine (isNaN_any s _).mono ?_
      rintro e w' ⟨rfl, rfl⟩
      go_wp2_with fail
      refine (isNaN_any u _).mono ?_
      rintro e w' ⟨rfl, rfl⟩
      go_wp2
      go_ret
      exact ⟨ret_int E.out.symm, rfl⟩
    · have h3 : x = y := by
        rcases lt_3 x y with k | k | k
        · exact absurd k h1
        · exact k
        · exact absurd k h2
      have E := hid (show cmpL x y = 0 from by rw [HE.out, if_neg h1, if_neg h2])
      rw [decide_eq_false h1] at t1
      rw [decide_eq_false h2] at t2
      rw [decide_eq_true h3] at t3
      clear h1 h2 h3
      generalize cmpL x y = r at *
      generalize bs x = s at *
      generalize bs y = u at *
      go_enter Tryz.func228, Tryz.ntmps228
      go_wp2_with fail
      refine (isNaN_any s _).mono ?_
      rintro e w' ⟨rfl, rfl⟩
      go_wp2_with fail
      refine (isNaN_any u _).mono ?_
      rintro e w' ⟨rfl, rfl⟩
      go_wp2
      go_ret
      exact ⟨ret_int E.out.symm, rfl⟩
theorem ss_snoc {l : List Tx} {j : Nat} (h : SS (l.take (j + 1))) (hj : j + 1 < l.length) (k : l.getD j [] < l.getD (j + 1) []) : SS (l.take (j + 1 + 1)) := by
  rw [List.take_succ_eq_append_getElem hj]
  refine ss_app.2 ⟨h, one_ss _, fun x hx y hy => ?_⟩
  have e : y = l[j + 1] := by simpa using hy
  rw [getD_get (by omega), getD_get hj] at k
  rw [List.take_succ_eq_append_getElem (by omega), ss_app] at h
  rw [List.take_succ_eq_append_getElem (by omega), List.mem_append] at hx
  rw [e]
  rcases hx with hx | hx
  · exact lt_tr (h.2.2 x hx l[j] (by simp)) k
  · have e2 : x = l[j] := by simpa using hx
    rw [e2]; exact k
theorem ss_not {l : List Tx} {j : Nat} (hj : j + 1 < l.length) (k : ¬ l.getD j [] < l.getD (j + 1) []) : ¬ SS l := fun h => by
  rw [getD_get (by omega), getD_get hj] at k
  exact k (List.pairwise_iff_getElem.1 h j (j + 1) (by omega) hj (by omega))
theorem ss_short {l : List Tx} (h : l.length ≤ 1) : SS l := by
  match l, h with
  | [], _ => exact ss_nil
  | [x], _ => exact one_ss x
open Go.RowKit Go.Shelf Go.Lib Go.Sort
theorem lnew_row (w : World) : LRow (w.alloc (.cells #[] 100)) w.heap.size (.slice (some ⟨w.heap.size, 0, none⟩) 0 0) [] :=
  World.ownsRow_made w #[] 0 (Nat.le_refl _) (Nat.zero_le _) (by simp)
theorem lclone_any (a : Option Addr) (n c : Nat) (l : List Lb) (w : World) (h : LbAt w a n c l) (hn : n ≤ 1000) :
    Calls Tryz.prog 151 #[.slice a n c] w fun e w' => ∃ v, e = .returned v ∧ LRow w' w.heap.size v l ∧ Below w.heap.size w w' := by
  have heq := fun (W : World) (a : Option Addr) (n c n' c' : Nat) => Lib.run_eql_slice_nil (P := Tryz.prog) W 28 _ a n c n' c' Tryz.underlying28
  cases a with
  | none =>
    have h0 : n = 0 := by
      rcases h.2.2.2 with e | ⟨b, off, e, _⟩
      · exact e
      · cases e
    have e0 : l = [] := List.eq_nil_of_length_eq_zero (by rw [h.1]; exact h0)
    subst e0
    clear h
    go_enter Tryz.func151, Tryz.ntmps151
    go_wp2
    go_ret
    exact ⟨_, rfl, LRow.nil _ _, Below.refl _ _⟩
  | some ad =>
    have B1 := (Below.refl w.heap.size w).alloc (Nat.le_refl _) (.cells #[] 100)
    have R1 := hid (lnew_row w)
    have H1 := hid (h.keep B1)
    have HB := hid B1
    clear h B1
    go_enter Tryz.func151, Tryz.ntmps151
    go_wp2_with (at_builtin; refine wpList_append_lb rfl _ _ rfl w.heap.size _ [] rfl R1.out _ n c l rfl H1.out (by simp; omega) HB.out.size ?_; intro v2 w2 R2 g2)
    go_ret
    exact ⟨v2, rfl, R2, LRow.bel HB.out HB.out.size R1.out (Nat.le_refl _) g2⟩
theorem cmpLb (x y : Lb) (W : World) : Calls Tryz.prog 227 #[.agg #[.string (bs x.1), .string (bs x.2)], .agg #[.string (bs y.1), .string (bs y.2)]] W fun e w' => e = .returned (.int .i64 (cmpL x.1 y.1)) ∧ ∃ q os', w' = grow (W.drewN q) os' := by
  have HC := hid (fun W' => cmp_any x.1 y.1 W')
  generalize cmpL x.1 y.1 = r at HC ⊢
  have B1 := (Below.refl W.heap.size W).alloc (Nat.le_refl _) (.cells #[.string (bs x.1), .string (bs x.2)] 100)
  have X1 : BoxL (W.alloc (.cells #[.string (bs x.1), .string (bs x.2)] 100)) W.heap.size x.1 x.2 := heap_new W _
  have X2 : BoxL ((W.alloc (.cells #[.string (bs x.1), .string (bs x.2)] 100)).alloc (.cells #[.string (bs y.1), .string (bs y.2)] 100)) (W.heap.size + 1) y.1 y.2 := by
    have := heap_new (W.alloc (.cells #[.string (bs x.1), .string (bs x.2)] 100)) (.cells #[.string (bs y.1), .string (bs y.2)] 100)
    rw [World.size_alloc] at this
    exact this
  have X1' := X1.trn (F := fun _ => False) (.of ((Below.refl _ _).alloc (Nat.le_refl _) (.cells #[.string (bs y.1), .string (bs y.2)] 100)))
  have x0 := X1'.x0
  have y0 := X2.x0
  clear X1 B1
  go_enter Tryz.func227, Tryz.ntmps227
  go_wp2_with fail
  refine (HC.out _).mono ?_
  rintro e w' ⟨rfl, rfl⟩
  go_wp2
  go_ret
  exact ⟨rfl, 0, _, by rw [alloc_eq_grow, alloc_eq_grow, grow_grow]; rfl⟩
def cfLb (x y : Lb) : Int := cmpL x.1 y.1
theorem ltLb (x y : Lb) : ltOf cfLb x y = decide (x.1 < y.1) := by
  unfold ltOf cfLb cmpL
  by_cases h1 : x.1 < y.1
  · simp [h1]
  · by_cases h2 : y.1 < x.1 <;> simp [h1, h2]
theorem swoLb : SWO (ltOf cfLb) where
  irrefl x := by rw [ltLb]; simp [lt_no]
  trans x y z h1 h2 := by
    rw [ltLb] at *
    exact decide_eq_true (lt_tr (of_decide_eq_true h1) (of_decide_eq_true h2))
  ntrans x y z h1 h2 := by
    rw [ltLb] at *
    have a := of_decide_eq_false h1
    have b := of_decide_eq_false h2
    refine decide_eq_false (fun h => ?_)
    rcases lt_3 x.1 y.1 with q | q | q
    · exact a q
    · rw [q] at h; exact b h
    · exact b (lt_tr q h)
theorem holdsK_of {w : World} {base g cap : Nat} {l : List Lb} (h : LRow w base (.slice (some ⟨g, 0, none⟩) l.length cap) l) : HoldsK encLb 2 w g 0 l.toArray ∧ base ≤ g ∧ g < w.heap.size := by
  rcases h.2 with ⟨e, _⟩ | ⟨g', cap', cur, e, hb, hg, hle, hmx, hsz, htk⟩
  · cases e
  · simp only [Value.slice.injEq, Option.some.injEq, Addr.mk.injEq] at e
    obtain ⟨⟨rfl, _, _⟩, _, rfl⟩ := e
    refine ⟨fun t ht => ?_, hb, heap_lt hg⟩
    rw [size_flatK] at ht
    simp only [List.size_toArray] at ht
    have hcell : ∀ j u, (lbCells l)[j]? = some u → w.cell? ⟨g, j, none⟩ = some u := fun j u hu => by
      have hjl : j < l.length * 2 := by have := (List.getElem?_eq_some_iff.1 hu).1; rw [lbCells_length] at this; exact this
      rw [cell_of hg]
      rw [← htk, List.getElem?_take, if_pos hjl, Array.getElem?_toList] at hu
      exact hu
    refine ⟨?_, frozen_of hg⟩
    rw [get_flatK encLb 2 l.toArray t (by simpa using ht), Nat.zero_add]
    have hd : (l.toArray)[t / 2]! = (lN l (t / 2), lV l (t / 2)) := by
      have : t / 2 < l.length := by omega
      rw [← lb_bang this]; simp
    rw [hd]
    obtain ⟨e0, e1⟩ := lbCells_get l (t / 2) (by omega)
    rcases Nat.mod_two_eq_zero_or_one t with m | m
    · have et : t = t / 2 * 2 := by omega
      rw [m]
      conv => lhs; rw [et]
      rw [hcell _ _ e0]; rfl
    · have et : t = t / 2 * 2 + 1 := by omega
      rw [m]
      conv => lhs; rw [et]
      rw [hcell _ _ e1]; rfl
theorem lb_of_holdsK {w : World} {g cap : Nat} {l : List Lb} (h : HoldsK encLb 2 w g 0 l.toArray) (hg : g < w.heap.size) (hc : l.length ≤ cap) (hn : l.length ≤ 1000) : LbAt w (some ⟨g, 0, none⟩) l.length cap l := by
  refine ⟨rfl, hc, by omega, .inr ⟨g, 0, rfl, hg, fun i hi => ?_⟩⟩
  have hd : (l.toArray)[i]! = (lN l i, lV l i) := by rw [← lb_bang hi]; simp
  have h0 := (h (i * 2) (by rw [size_flatK]; simp; omega)).1
  have h1 := (h (i * 2 + 1) (by rw [size_flatK]; simp; omega)).1
  rw [get_flatK encLb 2 l.toArray _ (by simp; omega)] at h0 h1
  rw [show i * 2 / 2 = i from by omega, show i * 2 % 2 = 0 from by omega, hd] at h0
  rw [show (i * 2 + 1) / 2 = i from by omega, show (i * 2 + 1) % 2 = 1 from by omega, hd] at h1
  exact ⟨h0, h1⟩
theorem below_sortK {w0 w : World} {B g m : Nat} {d : Array Lb} {os : Array Obj} (h : RowKit.Below B w0 w) (hB : B ≤ w.heap.size) (hg : B ≤ g) : RowKit.Below B w0 (sortWorldK encLb 2 w g 0 m d os) := by
  refine ⟨h.os, h.tape, h.output, ?_, fun k hk => ?_⟩
  · have := h.size
    simp [sortWorldK, putRowK, putRow, mapBlock, Sort.ahead, grow]; omega
  · have hkw : k < w.heap.size := by omega
    rw [← h.block k hk]
    simp [sortWorldK, putRowK, putRow, mapBlock, Sort.ahead, grow, Array.getElem?_append, Array.getElem?_modify, show g ≠ k by omega, hkw, Array.getElem_modify]
theorem ty_sortK {w : World} {g m : Nat} {d : Array Lb} {os : Array Obj} {cs : Array Value} {t : TypeId} {f : Nat × Nat} (h : w.heap[g]? = some (.cells cs t f)) : ∃ cs', (sortWorldK encLb 2 w g 0 m d os).heap[g]? = some (.cells cs' t f) := by
  have hg := heap_lt h
  refine ⟨putCells id 0 (flatK encLb 2 d) cs, ?_⟩
  unfold sortWorldK
  rw [heap_grow_old _ _ (by rw [size_putRowK]; exact hg)]
  show ((Sort.ahead w m).heap.modify g _)[g]? = _
  rw [Array.getElem?_modify, if_pos rfl]
  show (w.heap[g]?).map _ = _
  rw [h]; rfl
theorem srt_of_sorted {l : List Lb} {d : Array Lb} (hn : (keysL l).Nodup) (hp : PermIn 0 l.toArray.size l.toArray d) (hs : SortedIn (ltOf cfLb) 0 l.toArray.size d) : d.toList = srt l := by
  obtain ⟨p1, _, p3⟩ := hp
  have e1 : d.toList.Perm l := by
    have a1 : (d.extract 0 l.toArray.size).toList = d.toList := by rw [← p1]; simp
    have a2 : (l.toArray.extract 0 l.toArray.size).toList = l := by simp
    rw [a1, a2] at p3; exact p3
  have hnd : (keysL d.toList).Nodup := (e1.map Prod.fst).nodup_iff.2 hn
  refine srt_of hn ?_ e1
  unfold SS keysL at *
  rw [List.pairwise_map, List.pairwise_iff_getElem]
  intro i j hi hj hij
  have hd := hs i j (Nat.zero_le _) hij (by rw [← p1]; simpa using hj)
  rw [ltLb] at hd
  have h1 := of_decide_eq_false hd
  have gi : d[i]! = d.toList[i] := by rw [getElem!_pos d i (by simpa using hi)]; simp
  have gj : d[j]! = d.toList[j] := by rw [getElem!_pos d j (by simpa using hj)]; simp
  rw [gi, gj] at h1
  rcases lt_3 d.toList[i].1 d.toList[j].1 with q | q | q
  · exact q
  · exfalso
    rw [List.Nodup, List.pairwise_map, List.pairwise_iff_getElem] at hnd
    exact hnd i j hi hj hij q
  · exact absurd q h1
theorem sorted9_any (a : Option Addr) (n c : Nat) (l : List Lb) (w : World) (h : LbAt w a n c l) (hn : n ≤ 1000) (hd : (keysL l).Nodup) :
    Calls Tryz.prog 157 #[.slice a n c] w fun e w' => ∃ a' c', e = .returned (.slice a' n c') ∧ LbAt w' a' n c' (srt l) ∧ RowKit.Below w.heap.size w w' ∧ LbTy w' a' (srt l) := by
  have HL := hid (lclone_any a n c l w h hn)
  have HLN := hid h.1
  have HN := hid hd
  clear h hd
  have eg : ∀ args w, (callFunc 227 args).run Tryz.prog w = .ok (.enter 227 args) w := enters_of Tryz.func227 (by kernel_rfl) rfl
  by_cases h0 : n = 0
  · subst h0
    have e0 : l = [] := List.eq_nil_of_length_eq_zero HLN.out
    subst e0
    clear hn HN HLN
    go_enter Tryz.func157, Tryz.ntmps157
    go_wp2_with fail
    refine HL.out.mono ?_
    rintro e w1 ⟨v, rfl, R1, B1⟩
    obtain ⟨a1, c1, rfl, L1⟩ := R1.shape
    have HL1 := hid L1
    have HB := hid B1
    have HS := hid (show Calls Tryz.prog 226 #[.slice a1 0 c1, .func (.func 227) #[] #[]] w1 _ from AnyF.slices_SortFunc_none sh_laysSortLb a1 c1 (.func (.func 227) #[] #[]) w1)
    replace HL1 : Hid (LbAt w1 a1 0 c1 []) := HL1
    clear R1 B1 L1 HL
    rw [show ([] : List Lb).length = 0 from rfl]
    go_wp2_with fail
    refine HS.out.mono ?_
    rintro e w2 ⟨rfl, rfl⟩
    go_wp2
    go_ret
    exact ⟨a1, c1, rfl, HL1.out, HB.out, .inl rfl⟩
  · go_enter Tryz.func157, Tryz.ntmps157
    go_wp2_with fail
    refine HL.out.mono ?_
    rintro e w1 ⟨v, rfl, R1, B1⟩
    obtain ⟨g, cap, rfl, hcap⟩ : ∃ g cap, v = .slice (some ⟨g, 0, none⟩) n cap ∧ n ≤ cap := by
      rcases R1.2 with ⟨_, e⟩ | ⟨g, cap, cur, e, _, _, hle, _⟩
      · exact absurd (by rw [← HLN.out]; exact e) h0
      · exact ⟨g, cap, by rw [e, HLN.out], by rw [← HLN.out]; exact hle⟩
    have R2 : LRow w1 w.heap.size (.slice (some ⟨g, 0, none⟩) l.length cap) l := by rw [HLN.out]; exact R1
    obtain ⟨hH, hb, hg⟩ := holdsK_of R2
    have hs1 : l.toArray.size = n := by simpa using HLN.out
    have hcon := AnyQ.slices_SortFunc sh_laysSortLb 2 Tryz.isAgg100 Tryz.sizeOf100 encLb (fun _ => rfl) (fun x v hv => by simp [encLb] at hv; rcases hv with rfl | rfl <;> rfl) cfLb swoLb 227 #[] g 0 cap l.toArray w1 eg
      (fun _ _ _ _ x y => cmpLb x y _) hH hg (by rw [hs1]; omega)
    rw [hs1] at hcon
    change Calls Tryz.prog 226 _ _ _ at hcon
    have HC := hid hcon
    have HE := hid (fun (d' : Array Lb) (m : Nat) (os : Array Obj) (hp : PermIn 0 n l.toArray d') (hs : SortedIn (ltOf cfLb) 0 n d') =>
      show LbAt (sortWorldK encLb 2 w1 g 0 m d' os) (some ⟨g, 0, none⟩) n cap (srt l) ∧ RowKit.Below w.heap.size w (sortWorldK encLb 2 w1 g 0 m d' os) ∧ LbTy (sortWorldK encLb 2 w1 g 0 m d' os) (some ⟨g, 0, none⟩) (srt l) from by
        have hse := srt_of_sorted (l := l) (d := d') HN.out (by rw [hs1]; exact hp) (by rw [hs1]; exact hs)
        have hds : d'.size = l.toArray.size := by rw [hs1, ← hs1]; exact hp.1
        have hK := holdsK_sortWorldK_c encLb 2 w1 g 0 l.toArray d' m os hH hg hds
        have hg2 : g < (sortWorldK encLb 2 w1 g 0 m d' os).heap.size := Nat.lt_of_lt_of_le hg (size_sortWorldK_c encLb 2 w1 g 0 m d' os)
        have hd2 : d' = (srt l).toArray := by rw [← hse]
        have hlen : (srt l).length = n := by rw [srt_len]; exact HLN.out
        refine ⟨?_, below_sortK B1 B1.size hb, ?_⟩
        rotate_left
        · rcases R2.2 with ⟨e, _⟩ | ⟨g', cap', cur, e, _, hgc, _⟩
          · cases e
          · simp only [Value.slice.injEq, Option.some.injEq, Addr.mk.injEq] at e
            obtain ⟨⟨rfl, _⟩, _⟩ := e
            obtain ⟨cs', hcs⟩ := ty_sortK (m := m) (d := d') (os := os) hgc
            exact .inr ⟨g, 0, cs', _, rfl, hcs⟩
        rw [hd2] at hK
        have := lb_of_holdsK (cap := cap) hK (by rw [← hd2]; exact hg2) (by rw [hlen]; exact hcap) (by rw [hlen]; exact hn)
        rw [hlen, ← hd2] at this
        exact this)
    clear R1 B1 R2 hH hcon HL hs1
    go_wp2_with fail
    refine HC.out.mono ?_
    rintro e w2 ⟨rfl, d', m, os, hp, hs, rfl⟩
    have HF := hid (HE.out d' m os hp hs)
    clear hp hs
    generalize sortWorldK encLb 2 w1 g 0 m d' os = W2 at *
    go_wp2
    go_ret
    exact ⟨_, cap, rfl, HF.out.1, HF.out.2.1, HF.out.2.2⟩
theorem iset_ok (w : World) (x bl bn : Nat) (ρ : Rho) (E : List Ent) (key : Tx) (a : Option Addr) (n c : Nat) (l : List Lb) (h : IxAt w x bl bn ρ E) (hl : LbAt w a n c l) :
    Calls Tryz.prog 88 #[.pointer (some ⟨x, 0, none⟩), .string (bs key), .slice a n c] w fun e w' => e = .returned (.int .i64 (if okE key l then 0 else 1)) ∧ ∃ ρ', IxTurn w w' x bl bn ρ ρ' (stepE key l E) := by
  have HX := hid h
  have HL := hid hl
  have HK := hid (key_any key w)
  clear h hl
  by_cases k1 : keyB key
  · rw [decide_eq_true k1] at HK
    have HR := hid (right9_any a n c l w HL.out)
    by_cases k2 : rightL l
    · rw [decide_eq_true k2] at HR
      have hok : okE key l := ⟨k1, k2⟩
      have hst : stepE key l E = insG (key, srt l) (dels E key) := by unfold stepE; rw [if_pos hok]; rfl
      rw [if_pos hok, hst]
      have hn8 : n ≤ 1000 := by have := k2.1; rw [HL.out.1] at this; omega
      have HK1 := hid k1
      have HK2 := hid k2
      clear k1 k2 hok hst
      go_enter Tryz.func88, Tryz.ntmps88
      go_wp2_with fail
      refine (iNone_no w x bl bn HX.out.cell).mono ?_
      rintro e w' ⟨rfl, rfl⟩
      go_wp2_with fail
      refine HK.out.mono ?_
      rintro e w' ⟨rfl, rfl⟩
      go_wp2_with fail
      refine HR.out.mono ?_
      rintro e w1 ⟨rfl, b1⟩
      have B1 := hid b1
      have X1 := hid (HX.out.keep b1)
      clear b1
      go_wp2_with fail
      refine (idrop_ok w1 x bl bn ρ E key X1.out).mono ?_
      rintro e w2 ⟨rfl, t2⟩
      have T2 := hid t2
      have L2 := hid ((HL.out.keep B1.out).trn t2.trn)
      clear t2 X1
      go_wp2_with fail
      refine (sorted9_any a n c l w2 L2.out hn8 HK2.out.2.2).mono ?_
      rintro e w3 ⟨a', c', rfl, l3, b3, y3⟩
      have L3 := hid l3
      have Y3 := hid y3
      have T3 := hid (T2.out.thenB b3)
      clear l3 b3 y3 T2 L2
      go_wp2_with fail
      refine (iput_ok w3 x bl bn ρ (dels E key) key a' n c' (srt l) T3.out.ix (dels_not E key) HK1.out (right_srt HK2.out) (srt_ss HK2.out.2.2) L3.out Y3.out).mono ?_
      rintro e w4 ⟨rfl, ρ', t4⟩
      have T4 := hid (IxTurn.pre B1.out (T3.out.trans t4))
      clear t4 T3 L3
      go_wp2
      go_ret
      exact ⟨rfl, ρ', T4.out⟩
    · rw [decide_eq_false k2] at HR
      have hok : ¬ okE key l := fun h => k2 h.2
      rw [if_neg hok, show stepE key l E = E from if_neg hok]
      clear k1 k2 hok
      go_enter Tryz.func88, Tryz.ntmps88
      go_wp2_with fail
      refine (iNone_no w x bl bn HX.out.cell).mono ?_
      rintro e w' ⟨rfl, rfl⟩
      go_wp2_with fail
      refine HK.out.mono ?_
      rintro e w' ⟨rfl, rfl⟩
      go_wp2_with fail
      refine HR.out.mono ?_
      rintro e w1 ⟨rfl, b1⟩
      go_wp2
      go_ret
      exact ⟨rfl, ρ, HX.out.keep b1, .refl _ _, .of b1⟩
  · rw [decide_eq_false k1] at HK
    have hok : ¬ okE key l := fun h => k1 h.1
    rw [if_neg hok, show stepE key l E = E from if_neg hok]
    clear k1 hok
    go_enter Tryz.func88, Tryz.ntmps88
    go_wp2_with fail
    refine (iNone_no w x bl bn HX.out.cell).mono ?_
    rintro e w' ⟨rfl, rfl⟩
    go_wp2_with fail
    refine HK.out.mono ?_
    rintro e w' ⟨rfl, rfl⟩
    go_wp2
    go_ret
    exact ⟨rfl, ρ, HX.out, .refl _ _, .refl _ _⟩
def MadeL (w : World) (l : List Lb) (e : Ending) (w' : World) : Prop := ∃ a c, e = .returned (.slice a l.length c) ∧ LbAt w' a l.length c l ∧ Below w.heap.size w w'
theorem ilabels_ok (w : World) (x bl bn : Nat) (ρ : Rho) (E : List Ent) (key : Tx) (h : IxAt w x bl bn ρ E) :
    Calls Tryz.prog 83 #[.pointer (some ⟨x, 0, none⟩), .string (bs key)] w (MadeL w ((look E key).getD [])) := by
  obtain ⟨hc, rl, rn, ⟨T, t1, t2, t3⟩, hn, hok, hg⟩ := h
  obtain ⟨a, c, m, hlk, hv, hm⟩ : ∃ a c m, (look (T.map mpV) key).getD (.slice none 0 0) = .slice a m c ∧ LbAt w a m c ((look E key).getD []) ∧ m ≤ 8 := by
    by_cases hk : key ∈ keysL E
    · obtain ⟨p, hp, rfl⟩ := List.mem_map.1 hk
      have hp' : (p.1, p.2) ∈ E := hp
      obtain ⟨v, hlv, a, c, rfl, hl, _⟩ := LabsAt.look_hit t1.nodup t2 t3 hp'
      rw [hlv, mem_look (ssG_nodup hg.ss) hp']
      exact ⟨a, c, p.2.length, rfl, hl, (hg.right _ hp').1⟩
    · rw [LabsAt.look_miss t2 hk, look_none.2 hk]
      exact ⟨none, 0, 0, rfl, LbAt.nil w none 0, by omega⟩
  have HV := hid hv
  have HC := hid hc
  have H1 := hid t1
  have c0 := hc.c0
  clear t1 t2 t3 hn hok hg hc hv rl rn
  generalize (look E key).getD [] = l at *
  go_enter Tryz.func83, Tryz.ntmps83
  go_wp2_with fail
  refine (iNone_no w x bl bn HC.out).mono ?_
  rintro e w' ⟨rfl, rfl⟩
  go_wp2_with (first
    | (at_lookup; refine wpList_lookup_m _ rfl _ _ 168 rfl 9 28 Tryz.underlying168 Tryz.underlying9 _ (Tryz.zeroValue28 _) bl _ rfl H1.out key _ rfl rfl _ hlk ?_))
  refine (lclone_any a m c l w HV.out (by omega)).mono ?_
  rintro e w1 ⟨v, rfl, R1, b1⟩
  obtain ⟨a1, c1, rfl, l1⟩ := R1.shape
  have L1 := hid l1
  have B1 := hid b1
  clear R1 l1 b1
  generalize l.length = q at *
  go_wp2
  go_ret
  exact ⟨a1, c1, by rw [L1.out.1]; rfl, by rw [L1.out.1]; exact L1.out, B1.out⟩
end Go.Proofs.YtmifpfojhlmbkaaGreat
