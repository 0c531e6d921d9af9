/-
  Contracts.
-/
import Derived.Test.YtmifpfojhlmbkaaGreatJ0
import Derived.Test.YtmifpfojhlmbkaaGreatJ4
import Derived.Test.YtmifpfojhlmbkaaGreatJ9
import Derived.Deep.RegionHeld3
import Derived.IntWalk
import Derived.StillTailTactics
import Derived.OwnWalk
import Derived.Laws.CopyOwn
namespace Go.Proofs.YtmifpfojhlmbkaaGreat
open Lib (hid)
set_option maxRecDepth 100000
set_option maxHeartbeats 16000000
open Go.RowKit
set_option linter.unusedVariables false
set_option linter.unusedSimpArgs false
theorem run_copy_wide {P : Program} (w : World) (dT sT ty elem : TypeId) (g o dLen dCap : Nat) (a : Addr) (sLen sCap : Nat) (cur : Array Value) (t : TypeId) (cs : List Value) (n sz : Nat)
    (hu : P.underlying dT = some (.slice elem)) (hs : (P.info? elem).map (·.size) = some sz)
    (hg : w.heap[g]? = some (.cells cur t (0, 0))) (hm : n = Nat.min sLen dLen) (hn : cs.length = n * sz)
    (hsrc : ∀ j v, cs[j]? = some v → w.cell? (a.add j) = some v) (hfit : o + cs.length ≤ cur.size) (h1 : ∀ v ∈ cs, v.oneCell' = true) :
    (Builtin.copy_ #[dT, sT] ty #[.slice (some ⟨g, o, none⟩) dLen dCap, .slice (some a) sLen sCap]).run P w =
      .ok (goInt n) (w.setRow g (cur.toList.take o ++ cs ++ cur.toList.drop (o + cs.length)).toArray) := by
  have hl := run_loadCells_list (P := P) w a cs hsrc
  have hst := run_storeCells_at P g o t cs 0 cur w hg (by simpa using hfit) h1
  rw [hn] at hl
  have hm' : Nat.min sLen dLen = n := hm.symm
  cases hq : P.info? elem with
  | none => simp [hq] at hs
  | some i =>
    have hi : i.size = sz := by simpa [hq] using hs
    simp [Builtin.copy_, run_underlying hu, Builtin.lenOf, Builtin.firstCells, sizeOf, typeInfo, hq, hi, hm', hl, hst, Nat.mul_comm]
theorem run_copy_wide_none {P : Program} (w : World) (dT sT ty elem : TypeId) (d a : Option Addr) (dLen dCap sLen sCap sz : Nat) (hu : P.underlying dT = some (.slice elem)) (hs : (P.info? elem).map (·.size) = some sz) (hn : Nat.min sLen dLen = 0) :
    (Builtin.copy_ #[dT, sT] ty #[.slice d dLen dCap, .slice a sLen sCap]).run P w = .ok (goInt 0) w := by
  cases hq : P.info? elem with
  | none => simp [hq] at hs
  | some i =>
    have hl : ∀ (x : Addr), (loadCells x 0).run P w = .ok #[] w := fun x => by simpa using run_loadCells_list (P := P) w x [] (by simp)
    cases d <;> cases a <;> simp [Builtin.copy_, run_underlying hu, Builtin.lenOf, Builtin.firstCells, sizeOf, typeInfo, hq, hn, storeCells, hl]
theorem step_copy_wide {P : Program} {ops : Array Oper} {o : Oper} {a : Act} {w : World} {K : Act → World → Prop} {Q : Exit → Act → World → Prop} {E : Prop} (hgd : o.guard = none) (d s : Operand) (dT sT : TypeId)
    (ho : o.op = .call { callee := .builtin .copy, args := #[d, s], argTypes := #[dT, sT] }) (elem : TypeId) (hu : P.underlying dT = some (.slice elem)) (sz : Nat) (hsz : (P.info? elem).map (·.size) = some sz)
    (dp sp : Option Addr) (dLen dCap sLen sCap : Nat) (hd : a.eval d = .slice dp dLen dCap) (hs : a.eval s = .slice sp sLen sCap)
    (g off : Nat) (cur : List Value) (t : TypeId) (hg : w.heap[g]? = some (.cells cur.toArray t (0, 0))) (cs : List Value) (n : Nat) (hm : n = Nat.min sLen dLen) (hn : cs.length = n * sz)
    (hpos : 0 < n → dp = some ⟨g, off, none⟩ ∧ ∃ ad, sp = some ad ∧ ∀ j v, cs[j]? = some v → w.cell? (ad.add j) = some v)
    (hfit : off + cs.length ≤ cur.length) (h1 : ∀ v ∈ cs, v.oneCell' = true) (B : Nat) (w0 : World) (hb : RowKit.Below B w0 w) (hBg : B ≤ g)
    (h : ∀ w', RowKit.Hid (w'.heap[g]? = some (.cells (splice cur off cs).toArray t (0, 0))) → w.grownBy w' (some g) → RowKit.Below B w0 w' → K (a.put o.dst (goInt n)) w') :
    if Region.wanted o (yielded ops a.tmps) = true then Oper.wp P o a w K Q else E := by
  have hw : Region.wanted o (yielded ops a.tmps) = true := by simp [Region.wanted, hgd]
  rw [if_pos hw]
  by_cases h0 : n = 0
  · subst h0
    obtain rfl : cs = [] := List.eq_nil_of_length_eq_zero (by omega)
    have hrun := run_copy_wide_none (P := P) w dT sT o.type elem dp sp dLen dCap sLen sCap sz hu hsz hm.symm
    unfold Oper.wp
    simp [execOp, ho, resolve, invoke, builtin, hd, hs, hrun, Result.andThen]
    exact h w (show _ = _ by simpa [splice] using hg) (gb_refl _ _) hb
  · obtain ⟨rfl, ad, rfl, hsrc⟩ := hpos (by omega)
    have hrun := run_copy_wide (P := P) w dT sT o.type elem g off dLen dCap ad sLen sCap cur.toArray t cs n sz hu hsz hg hm hn hsrc (by simpa using hfit) h1
    unfold Oper.wp
    simp [execOp, ho, resolve, invoke, builtin, hd, hs, hrun, Result.andThen]
    exact h _ (show _ = _ by simpa [splice] using setRow_heap w g _ _ t _ hg) ⟨rfl, rfl, rfl, by simp [World.setRow], fun k hk hr => setRow_other w g k _ (by intro e; exact hr (by rw [e]))⟩ (below_setRow hb hBg _)
theorem wpList_copy_wide {P : Program} {w : World} {ops : Array Oper} {rest : List Oper} {o : Oper} {a : Act} {Q : Exit → Act → World → Prop} (hgd : o.guard = none) (d s : Operand) (dT sT : TypeId)
    (ho : o.op = .call { callee := .builtin .copy, args := #[d, s], argTypes := #[dT, sT] }) (elem : TypeId) (hu : P.underlying dT = some (.slice elem)) (sz : Nat) (hsz : (P.info? elem).map (·.size) = some sz)
    (dp sp : Option Addr) (dLen dCap sLen sCap : Nat) (hd : a.eval d = .slice dp dLen dCap) (hs : a.eval s = .slice sp sLen sCap)
    (g off : Nat) (cur : List Value) (t : TypeId) (hg : w.heap[g]? = some (.cells cur.toArray t (0, 0))) (cs : List Value) (n : Nat) (hm : n = Nat.min sLen dLen) (hn : cs.length = n * sz)
    (hpos : 0 < n → dp = some ⟨g, off, none⟩ ∧ ∃ ad, sp = some ad ∧ ∀ j v, cs[j]? = some v → w.cell? (ad.add j) = some v)
    (hfit : off + cs.length ≤ cur.length) (h1 : ∀ v ∈ cs, v.oneCell' = true) (B : Nat) (w0 : World) (hb : RowKit.Below B w0 w) (hBg : B ≤ g)
    (h : ∀ w', RowKit.Hid (w'.heap[g]? = some (.cells (splice cur off cs).toArray t (0, 0))) → w.grownBy w' (some g) → RowKit.Below B w0 w' → wpList P ops Q rest (a.put o.dst (goInt n)) w') :
    wpList P ops Q (o :: rest) a w := by
  refine wpList_plain hgd fun K hK => ?_
  have := step_copy_wide (P := P) (ops := ops) (Q := Q) (E := True) (K := K) hgd d s dT sT ho elem hu sz hsz dp sp dLen dCap sLen sCap hd hs g off cur t hg cs n hm hn hpos hfit h1 B w0 hb hBg (fun w' a1 a2 a3 => hK _ _ (h w' a1 a2 a3))
  rwa [if_pos (by simp [Region.wanted, hgd])] at this
def PartsAt (w : World) (pb : Nat) (Z : List (List (Int × Int))) (A : Nat → Option Addr) (C : Nat → Nat) : Prop :=
  ∀ i, i < Z.length → w.cell? ⟨pb, i, none⟩ = some (.slice (A i) (Z.getD i []).length (C i)) ∧ Lst w (A i) (Z.getD i []).length (C i) (Z.getD i [])
def LaidP (z : List (Int × Int)) (w : World) (e : Ending) (w' : World) : Prop :=
  ∃ a cap, e = .returned (.slice a z.length cap) ∧ Lst w' a z.length cap z ∧ Below w.heap.size w w'
def LaidN (z : List (Int × Int)) (w : World) (e : Ending) (w' : World) : Prop :=
  ∃ a cap, e = .returned (.slice a z.length cap) ∧ Lst w' a z.length cap z ∧ Below w.heap.size w w' ∧ ∀ q, a = some q → w.heap.size ≤ q.block
theorem LaidN.laid {z : List (Int × Int)} {w w' : World} {e : Ending} (h : LaidN z w e w') : LaidP z w e w' := by
  obtain ⟨a, cap, h1, h2, h3, _⟩ := h; exact ⟨a, cap, h1, h2, h3⟩
def sumTo (Z : List (List (Int × Int))) (i : Nat) : Nat := (Z.take i).flatten.length
theorem take_flat (Z : List (List (Int × Int))) (i : Nat) (h : i < Z.length) : (Z.take (i + 1)).flatten = (Z.take i).flatten ++ Z.getD i [] := by
  rw [List.take_succ_eq_append_getElem h, List.flatten_append]
  simp [List.getD_eq_getElem?_getD, List.getElem?_eq_getElem h]
theorem sumTo_succ (Z : List (List (Int × Int))) (i : Nat) (h : i < Z.length) : sumTo Z (i + 1) = sumTo Z i + (Z.getD i []).length := by
  unfold sumTo; rw [take_flat Z i h, List.length_append]
theorem sumTo_le (Z : List (List (Int × Int))) (i : Nat) : sumTo Z i ≤ Z.flatten.length := by
  unfold sumTo
  conv => rhs; rw [← List.take_append_drop i Z, List.flatten_append, List.length_append]
  omega
theorem sumTo_all (Z : List (List (Int × Int))) : sumTo Z Z.length = Z.flatten.length := by unfold sumTo; rw [List.take_length]
theorem smpCells_append (x y : List (Int × Int)) : smpCells (x ++ y) = smpCells x ++ smpCells y := by simp [smpCells]
theorem parts_all64 {w : World} {pb : Nat} {Z : List (List (Int × Int))} {A : Nat → Option Addr} {C : Nat → Nat} (h : PartsAt w pb Z A C) : All64 Z.flatten := by
  intro x hx
  obtain ⟨l, hl, hxl⟩ := List.mem_flatten.1 hx
  obtain ⟨i, hi, rfl⟩ := List.mem_iff_getElem.1 hl
  have := (h i hi).2.all64
  rw [List.getD_eq_getElem?_getD, List.getElem?_eq_getElem hi, Option.getD_some] at this
  exact this x hxl
theorem lst_whole {w : World} {g n : Nat} {z : List (Int × Int)} (hz : All64 z) (hn : z.length = n) (hl : n ≤ 1048576) (h : w.heap[g]? = some (.cells (smpCells z).toArray 27 (0, 0))) :
    Lst w (some ⟨g, 0, none⟩) n n z := by
  refine ⟨⟨hn, Nat.le_refl _, by omega, hz, .inr ⟨g, 0, rfl, heap_lt h, fun i hi => ?_⟩⟩, .inr ⟨⟨g, 0, none⟩, _, _, rfl, h⟩⟩
  obtain ⟨h1, h2⟩ := smpCells_get z i hi
  rw [cell_of h, cell_of h, Nat.zero_add]
  simp only [List.getElem?_toArray]
  exact ⟨h1, h2⟩
theorem slice_row (g at' n : Nat) (h : at' ≤ n) : ∃ dp, (at' < n → dp = some ⟨g, at' * 2, none⟩) ∧
    ∀ W : World, (Instr.slice 52 (.slice (some ⟨g, 0, none⟩) n n) (some (.int .i64 (at' : Int))) none none).run Tryz.prog W = .ok (.slice dp (n - at') (n - at')) W := by
  refine ⟨if n = at' then some ⟨g, 0, none⟩ else some ⟨g, at' * 2, none⟩, fun h => by rw [if_neg (by omega)], fun W => ?_⟩
  rw [run_slice_l W 52 _ _ _ (by kernel_rfl) .i64 (at' : Int) (by omega) (by omega), size_samp]
  by_cases e : n = at'
  · simp [Result.andThen, sliced, Addr.add, e]
  · simp [Result.andThen, sliced, Addr.add, e]
    try omega
theorem splice_take (cur : List Value) (k m : Nat) (xs ys : List Value) (h1 : cur.take k = xs) (hk : k ≤ cur.length) (hy : ys.length = m) : (splice cur k ys).take (k + m) = xs ++ ys := by
  unfold splice
  rw [h1, ← List.append_assoc]
  have hx : xs.length = k := by rw [← h1, List.length_take]; omega
  rw [List.take_append_of_le_length (by simp; omega)]
  exact List.take_of_length_le (by simp; omega)
theorem src_cells {w : World} {a : Option Addr} {len cap : Nat} {z : List (Int × Int)} (h : Lst w a len cap z) (h0 : 0 < len) :
    ∃ ad, a = some ad ∧ ∀ j v, (smpCells z)[j]? = some v → w.cell? (ad.add j) = some v := by
  obtain ⟨⟨h1, h2, h3, h4, h5⟩, _⟩ := h
  rcases h5 with e | ⟨b, off, rfl, hb, hc⟩
  · omega
  · refine ⟨_, rfl, fun j v hj => ?_⟩
    have hjl : j < (smpCells z).length := (List.getElem?_eq_some_iff.1 hj).1
    rw [smpCells_length] at hjl
    obtain ⟨c1, c2⟩ := hc (j / 2) (by omega)
    obtain ⟨g1, g2⟩ := smpCells_get z (j / 2) (by omega)
    have ha : (⟨b, off, none⟩ : Addr).add j = ⟨b, off + j, none⟩ := by simp [Addr.add]
    rw [ha]
    rcases (show j = j / 2 * 2 ∨ j = j / 2 * 2 + 1 from by omega) with e | e
    · rw [e] at hj ⊢
      rw [g1] at hj
      rw [c1, hj]
    · rw [e] at hj ⊢
      rw [g2] at hj
      rw [← Nat.add_assoc, c2, hj]
theorem laid_new (pb : Nat) (Z : List (List (Int × Int))) (A : Nat → Option Addr) (C : Nat → Nat) (n : Nat) (w : World) (hn : Z.length = n) (hp : PartsAt w pb Z A C) (hpb : pb < w.heap.size) (hs : Z.flatten.length ≤ 1048576) (hn8 : n ≤ 8) :
    Calls Tryz.prog 199 #[.slice (some ⟨pb, 0, none⟩) n n] w (LaidN Z.flatten w) := by
  have HP := hid hp
  have H64 := hid (parts_all64 hp)
  have HN := hid hn
  clear hp hn
  have HALL := hid (sumTo_all Z)
  rw [HN.out] at HALL
  have HLE := hid (sumTo_le Z)
  go_enter Tryz.func199, Tryz.ntmps199
  go_wp2_with fail
  go_loop [3, 12] (fun m i => ∃ j : Nat, j ≤ n ∧ i = .int .i64 (j : Int) ∧ m = .int .i64 (sumTo Z j : Int)) (fun _ i => n - (intOf i).toNat)
  case atStart => exact ⟨0, Nat.zero_le _, rfl, by simp [sumTo]⟩
  case round =>
    obtain ⟨j, hj, rfl, rfl⟩ := hrel
    by_cases hjn : j < n
    · obtain ⟨c, _⟩ := HP.out j (by rw [HN.out]; exact hjn)
      have HS := hid (sumTo_succ Z j (by rw [HN.out]; exact hjn))
      have b1 := HLE.out j
      have b2 := HLE.out (j + 1)
      rw [HS.out] at b2
      generalize (Z.getD j []).length = m at *
      generalize sumTo Z j = s at *
      go_wp2
      go_round
      case rel => exact ⟨j + 1, by omega, by go_num, by rw [HS.out]; go_num⟩
      case measure => simp [intOf]; omega
    · obtain rfl : n = j := by omega
      rw [HALL.out]
      by_cases h0 : Z.flatten.length = 0
      · have HE := hid (List.eq_nil_of_length_eq_zero h0)
        rw [h0]
        clear h0
        go_wp2
        go_ret
        refine ⟨none, 0, ?_, ?_, Below.refl _ _, fun q e => by cases e⟩
        · rw [HE.out]; rfl
        · rw [HE.out]; exact Lst.nil w
      · have h0' : (((Z.flatten.length : Nat) : Int) == 0) = false := by rw [beq_eq_false_iff_ne]; omega
        obtain ⟨N, hN⟩ : ∃ N, Z.flatten.length = N := ⟨_, rfl⟩
        rw [hN] at h0' hs ⊢
        have HNN := hid hN
        clear h0 hN
        obtain ⟨i0, hi, hz0, hz1, hz2⟩ := info_parts info_samp
        go_wp2_with (at_make; refine wpList_make_full _ rfl _ _ _ rfl w.heap.size 27 i0 _ 2 Tryz.underlying52 hi hz0 hz1 .i64 .i64 (N : Int) (N : Int) N rfl rfl rfl rfl (by rw [hz2]; omega) (by unfold maxLen; omega) (Nat.le_refl _) ?_; intro W1 o1 g1)
        have B1 : Below w.heap.size w W1 := gb_below_none g1
        obtain ⟨cur, hcur, hlc⟩ : ∃ cur : List Value, Hid (W1.heap[w.heap.size]? = some (.cells cur.toArray 27 (0, 0))) ∧ cur.length = N * 2 := by
          rcases o1.2 with ⟨h, _⟩ | ⟨g, cp, cu, h, _, hg, _, _, hsz, _⟩
          · cases h
          · cases h
            exact ⟨cu.toList, hid (by simpa using hg), by simpa using hsz⟩
        clear o1 g1 hi hz0 hz1 hz2
        go_wp2_with fail
        go_loopw [7, 27] (fun m i wr => ∃ (j : Nat) (cu : List Value), j ≤ n ∧ i = .int .i64 (j : Int) ∧ m = .int .i64 (sumTo Z j : Int) ∧ Hid (wr.heap[w.heap.size]? = some (.cells cu.toArray 27 (0, 0))) ∧ cu.length = N * 2 ∧ Hid (cu.take (sumTo Z j * 2) = smpCells (Z.take j).flatten) ∧ Below w.heap.size w wr) (fun _ i _ => n - (intOf i).toNat)
        case atStart => exact ⟨0, cur, Nat.zero_le _, rfl, by simp [sumTo], hcur, hlc, by show _ = _; simp [sumTo, smpCells], B1⟩
        case round =>
          obtain ⟨j, cu, hj2, rfl, rfl, hcu, hlu, htk, B2⟩ := hrel
          by_cases hjn : j < n
          · obtain ⟨c, hl⟩ := HP.out j (by rw [HN.out]; exact hjn)
            rw [← B2.cell hpb] at c
            replace hl := hl.keep (w' := wr) (gb_below (row := none) B2) (by simp)
            have HS := hid (sumTo_succ Z j (by rw [HN.out]; exact hjn))
            have HF := hid (take_flat Z j (by rw [HN.out]; exact hjn))
            have b1 := HLE.out j
            have b2 := HLE.out (j + 1)
            rw [HS.out, HNN.out] at b2
            rw [HNN.out] at b1
            generalize Z.getD j [] = zj at *
            generalize sumTo Z j = s at *
            generalize A j = aj at *
            generalize C j = cj at *
            obtain ⟨m, hm⟩ : ∃ m, zj.length = m := ⟨_, rfl⟩
            rw [hm] at c hl HS b2
            have HM := hid hm
            clear hm
            obtain ⟨dp, hdp, hsl⟩ := slice_row w.heap.size s N (by omega)
            have HSR := hid (fun h => src_cells hl h)
            have HDP := hid hdp
            clear hdp hl
            go_wp2_with (with_reducible refine wpList_copy_wide rfl (.tmp 34) (.tmp 35) 52 52 rfl 27 Tryz.underlying52 2 (by kernel_rfl) dp aj (N - s) (N - s) m cj rfl rfl w.heap.size (s * 2) cu 27 hcu.out (smpCells zj) m (by show m = min m (N - s); omega) (by rw [smpCells_length, HM.out]) (fun h => ⟨HDP.out (by omega), HSR.out h⟩) (by rw [smpCells_length, HM.out, hlu]; omega) (smpCells_one zj) w.heap.size w B2 (Nat.le_refl _) ?_; intro W3 hcu3 g3 B3)
            clear hsl c
            go_wp2
            go_roundw
            case rel =>
              refine ⟨j + 1, _, by omega, by go_num, by rw [HS.out]; go_num, hcu3, by rw [length_splice _ _ _ (by rw [smpCells_length, HM.out, hlu]; omega), hlu], ?_, B3⟩
              show _ = _
              rw [HF.out, smpCells_append, HS.out, Nat.add_mul]
              exact splice_take cu (s * 2) (m * 2) _ _ htk.out (by omega) (by rw [smpCells_length, HM.out])
            case measure => simp [intOf]; omega
          · obtain rfl : n = j := by omega
            have HC : Hid (cu = smpCells Z.flatten) := by
              have h := htk.out
              rw [HALL.out, HNN.out, ← HN.out, List.take_length, List.take_of_length_le (by omega)] at h
              exact h
            go_wp2
            go_ret
            refine ⟨some ⟨w.heap.size, 0, none⟩, N, by rw [HNN.out]; rfl, ?_, B2, fun q e => by cases e; exact Nat.le_refl _⟩
            rw [HNN.out]
            exact lst_whole H64.out HNN.out hs (by rw [← HC.out]; exact hcu.out)
theorem laid_any (pb : Nat) (Z : List (List (Int × Int))) (A : Nat → Option Addr) (C : Nat → Nat) (n : Nat) (w : World) (hn : Z.length = n) (hp : PartsAt w pb Z A C) (hpb : pb < w.heap.size) (hs : Z.flatten.length ≤ 1048576) (hn8 : n ≤ 8) :
    Calls Tryz.prog 199 #[.slice (some ⟨pb, 0, none⟩) n n] w (LaidP Z.flatten w) :=
  (laid_new pb Z A C n w hn hp hpb hs hn8).mono fun _ _ h => h.laid
def zig (n : Int) : Int := if 0 ≤ n then 2 * n else -2 * n - 1
theorem zig_any (n : Int) (w : World) (h1 : -9223372036854775808 ≤ n) (h2 : n ≤ 9223372036854775807) :
    Calls Tryz.prog 335 #[.int .i64 n] w fun e w' => e = .returned (.int .u64 (zig n)) ∧ w = w' := by
  by_cases h : 0 ≤ n
  all_goals
    go_enter Tryz.func335, Tryz.ntmps335
    go_wp2
    go_ret
    exact ⟨ret_int (by unfold zig; split <;> omega), rfl⟩
theorem zig_Z (n : Int) (h : in64 n) : zig n = (zigZ n : Int) := by unfold in64 at h; unfold zig zigZ; split <;> omega
theorem zigZ_any (n : Int) (w : World) (h : in64 n) :
    Calls Tryz.prog 335 #[.int .i64 n] w fun e w' => e = .returned (.int .u64 (zigZ n : Int)) ∧ w = w' := by
  have := zig_any n w h.1 h.2
  rwa [zig_Z n h] at this
theorem width_any (k : Nat) (w : World) (h : k ≤ 4) :
    Calls Tryz.prog 338 #[.int .i64 (k : Int)] w fun e w' => e = .returned (.int .i64 (wid k : Int)) ∧ w = w' := by
  rcases le4 h with rfl | rfl | rfl | rfl | rfl
  all_goals
    go_enter Tryz.func338, Tryz.ntmps338
    go_wp2
    go_ret
    exact ⟨rfl, rfl⟩
theorem prefix_any (k : Nat) (w : World) (h : k ≤ 4) :
    Calls Tryz.prog 337 #[.int .i64 (k : Int)] w fun e w' => e = .returned (.int .i64 (headN k : Int)) ∧ w = w' := by
  rcases le4 h with rfl | rfl | rfl | rfl | rfl
  all_goals
    go_enter Tryz.func337, Tryz.ntmps337
    go_wp2
    go_ret
    exact ⟨rfl, rfl⟩
theorem shift_ne (u m : Nat) (h : u / 2 ^ m ≠ 0) : (((u : Int) / 2 ^ m) != 0) = true := by
  have e : ((u : Int) / 2 ^ m) = ((u / 2 ^ m : Nat) : Int) := by simp
  rw [bne_iff_ne, e]; omega
theorem shift_eq (u m : Nat) (h : u / 2 ^ m = 0) : (((u : Int) / 2 ^ m) != 0) = false := by
  have e : ((u : Int) / 2 ^ m) = ((u / 2 ^ m : Nat) : Int) := by simp
  rw [e, h]; rfl
theorem onesOf_any (u : Nat) (w : World) (hu : u < 18446744073709551616) :
    Calls Tryz.prog 336 #[.int .u64 (u : Int)] w fun e w' => e = .returned (.int .i64 (onesN u : Int)) ∧ w = w' := by
  have h4 := onesN_le u
  go_enter Tryz.func336, Tryz.ntmps336
  go_wp2
  go_loop [3] (fun t => ∃ k : Nat, k ≤ onesN u ∧ t = .int .i64 (k : Int)) (fun t => onesN u - (intOf t).toNat)
  case atStart => exact ⟨0, Nat.zero_le _, rfl⟩
  case round =>
    obtain ⟨k, hk, rfl⟩ := hrel
    have hs := onesN_shift u k hu (by omega)
    have hw := wid_le k
    by_cases hlt : k < onesN u
    · have hne := shift_ne u (wid k) (by intro h; have := hs.1 h; omega)
      clear hs
      go_wp2_with fail
      refine (width_any k _ (by omega)).mono ?_
      rintro e w' ⟨rfl, rfl⟩
      generalize wid k = m at *
      go_wp2
      go_round
      case rel => exact ⟨k + 1, by omega, by go_num⟩
      case measure => simp [intOf]; omega
    · have heq := shift_eq u (wid k) (hs.2 (by omega))
      clear hs
      go_wp2_with fail
      refine (width_any k _ (by omega)).mono ?_
      rintro e w' ⟨rfl, rfl⟩
      generalize wid k = m at *
      go_wp2
      go_ret
      exact ⟨ret_int (by omega), rfl⟩
theorem size_any (u : Nat) (w : World) (hu : u < 18446744073709551616) :
    Calls Tryz.prog 311 #[.int .u64 (u : Int)] w fun e w' => e = .returned (.int .i64 (csize u : Int)) ∧ w = w' := by
  have h4 := onesN_le u
  have HC := hid (show csize u = headN (onesN u) + wid (onesN u) from rfl)
  have hw := wid_le (onesN u)
  have hh : headN (onesN u) ≤ 4 := by unfold headN; omega
  go_enter Tryz.func311, Tryz.ntmps311
  go_wp2_with fail
  refine (onesOf_any u _ hu).mono ?_
  rintro e w' ⟨rfl, rfl⟩
  generalize onesN u = k at *
  go_wp2_with fail
  refine (prefix_any k _ h4).mono ?_
  rintro e w' ⟨rfl, rfl⟩
  generalize headN k = a at *
  go_wp2_with fail
  refine (width_any k _ h4).mono ?_
  rintro e w' ⟨rfl, rfl⟩
  generalize wid k = b at *
  go_wp2
  go_ret
  exact ⟨ret_int (by rw [HC.out]; omega), rfl⟩
def WkAt (w : World) (b : Nat) (x : Int × Int) (step : Int) : Prop :=
  w.heap[b]? = some (.cells #[.int .i64 x.1, .int .i64 x.2, .int .i64 step] 326 (0, 0))
theorem zigW_any (n : Int) (w : World) :
    Calls Tryz.prog 335 #[.int .i64 (IntKind.i64.wrap n)] w fun e w' => e = .returned (.int .u64 (zigZ (wrap64 n) : Int)) ∧ w = w' := by
  rw [IntWalk.i64_left]
  exact zigZ_any _ _ (wrap64_in64 _)
def TowardP (b : Nat) (x y : Int × Int) (step : Int) (w : World) (e : Ending) (w' : World) : Prop :=
  e = .returned (.tuple #[.int .u64 (zigZ (wrap64 (wrap64 (y.1 - x.1) - step)) : Int), .int .u64 (zigZ (wrap64 (y.2 - x.2)) : Int)]) ∧ WkAt w' b y (wrap64 (y.1 - x.1)) ∧ w.grownBy w' (some b)
theorem toward_any (b : Nat) (x y : Int × Int) (step : Int) (w : World) (hk : WkAt w b x step) :
    Calls Tryz.prog 310 #[.pointer (some ⟨b, 0, none⟩), .agg #[.int .i64 y.1, .int .i64 y.2]] w (TowardP b x y step w) := by
  have hlt := heap_lt hk
  have HK := hid hk
  have k0 : w.cell? ⟨b, 0, none⟩ = some (.int .i64 x.1) := by rw [cell_of hk]; rfl
  have k1 : w.cell? ⟨b, 1, none⟩ = some (.int .i64 x.2) := by rw [cell_of hk]; rfl
  have k2 : w.cell? ⟨b, 2, none⟩ = some (.int .i64 step) := by rw [cell_of hk]; rfl
  have f0 : w.frozen? ⟨b, 0, none⟩ = false := frozen_of hk
  have f1 : w.frozen? ⟨b, 1, none⟩ = false := frozen_of hk
  have f2 : w.frozen? ⟨b, 2, none⟩ = false := frozen_of hk
  clear hk
  obtain ⟨t, v⟩ := x
  obtain ⟨T, V⟩ := y
  simp only at *
  go_enter Tryz.func310, Tryz.ntmps310
  go_wp2
  have g0 := World.grownBy_alloc w (.cells #[.int .i64 T, .int .i64 V] 27) (some b)
  have hn := heap_new w (.cells #[.int .i64 T, .int .i64 V] 27)
  have hk := HK.out
  rw [WkAt, ← Below.heap_alloc w (.cells #[.int .i64 T, .int .i64 V] 27) b hlt] at hk
  clear HK k0 k1 k2 f0 f1 f2
  generalize w.alloc (.cells #[.int .i64 T, .int .i64 V] 27) = W0 at *
  have hne : b ≠ w.heap.size := by omega
  generalize w.heap.size = c at *
  have HK := hid hk
  have HN := hid hn
  have k0 : W0.cell? ⟨b, 0, none⟩ = some (.int .i64 t) := by rw [cell_of hk]; rfl
  have k1 : W0.cell? ⟨b, 1, none⟩ = some (.int .i64 v) := by rw [cell_of hk]; rfl
  have k2 : W0.cell? ⟨b, 2, none⟩ = some (.int .i64 step) := by rw [cell_of hk]; rfl
  have c0 : W0.cell? ⟨c, 0, none⟩ = some (.int .i64 T) := by rw [cell_of hn]; rfl
  have c1 : W0.cell? ⟨c, 1, none⟩ = some (.int .i64 V) := by rw [cell_of hn]; rfl
  clear hk hn
  go_quiet (fail)
  have d1 : Drew W0 (W0.drewN nq) := ⟨nq, rfl⟩
  have k0 : (W0.drewN nq).cell? ⟨b, 0, none⟩ = some (.int .i64 t) := k0
  have k1 : (W0.drewN nq).cell? ⟨b, 1, none⟩ = some (.int .i64 v) := k1
  have k2 : (W0.drewN nq).cell? ⟨b, 2, none⟩ = some (.int .i64 step) := k2
  have c0 : (W0.drewN nq).cell? ⟨c, 0, none⟩ = some (.int .i64 T) := c0
  have c1 : (W0.drewN nq).cell? ⟨c, 1, none⟩ = some (.int .i64 V) := c1
  have g1 := gb_trans g0 (d1.gb (some b))
  have HK : Hid ((W0.drewN nq).heap[b]? = some (.cells #[.int .i64 t, .int .i64 v, .int .i64 step] 326 (0, 0))) := HK
  have f0 := frozen_of (o := 0) HK.out
  have f1 := frozen_of (o := 1) HK.out
  have f2 := frozen_of (o := 2) HK.out
  clear g0 d1 HN
  generalize W0.drewN nq = W1 at *
  go_wp2
  go_quiet ((go_at_call 335; with_reducible exact quietL (zigW_any _ _)))
  go_wp2
  go_ret2
  refine ⟨rfl, ?_, ?_⟩
  · refine (heap_set (heap_set (heap_set (c := #[.int .i64 t, .int .i64 v, .int .i64 step]) HK.out))).trans ?_
    rfl
  · exact gb_set (gb_set (gb_set (gb_trans g1 (Drew.gb (w := W1) ⟨nq, rfl⟩ (some b))) _ _) _ _) _ _
def WkZ (w : World) (b : Nat) (z : List (Int × Int)) (j : Nat) : Prop := WkAt w b (tOf z j, vOf z j) (stepOf z j)
def TowP (b : Nat) (z : List (Int × Int)) (j : Nat) (w : World) (e : Ending) (w' : World) : Prop :=
  ∃ tn vn : Nat, e = .returned (.tuple #[.int .u64 (tn : Int), .int .u64 (vn : Int)]) ∧ Hid (tn = tNum z j) ∧ Hid (vn = vNum z j) ∧ tn < 18446744073709551616 ∧ vn < 18446744073709551616 ∧ WkZ w' b z (j + 1) ∧ w.grownBy w' (some b)
theorem tow_any (b : Nat) (z : List (Int × Int)) (j : Nat) (T V : Int) (w : World) (hk : WkZ w b z j) (hT : T = tOf z (j + 1)) (hV : V = vOf z (j + 1)) :
    Calls Tryz.prog 310 #[.pointer (some ⟨b, 0, none⟩), .agg #[.int .i64 T, .int .i64 V]] w (TowP b z j w) := by
  subst hT hV
  refine (toward_any b (tOf z j, vOf z j) (tOf z (j + 1), vOf z (j + 1)) (stepOf z j) w hk).mono ?_
  rintro e w' ⟨rfl, h, g⟩
  exact ⟨_, _, rfl, rfl, rfl, tNum_lt z j, vNum_lt z j, h, g⟩
theorem WkZ.keep {w w' : World} {b : Nat} {z : List (Int × Int)} {j : Nat} {row : Option Nat} (h : WkZ w b z j) (hg : w.grownBy w' row) (hne : some b ≠ row) : WkZ w' b z j := by
  unfold WkZ WkAt at *
  rw [hg.block b (heap_lt h) hne]; exact h
theorem encTo_step (z : List (Int × Int)) (j : Nat) : encTo z (j + 2) = encTo z (j + 1) ++ code (tNum z j) ++ code (vNum z j) := by
  rw [encTo, piece, List.append_assoc]
theorem encTo_len_step (z : List (Int × Int)) (j : Nat) : (encTo z (j + 2)).length = (encTo z (j + 1)).length + csize (tNum z j) + csize (vNum z j) := by
  rw [encTo_step, List.length_append, List.length_append, code_length, code_length]
theorem encTo_len_one (z : List (Int × Int)) : (encTo z 1).length = 128 := by
  rw [encTo, List.length_append, piece_length]; simp [encTo]
theorem dbits_any (a : Option Addr) (len cap : Nat) (z : List (Int × Int)) (w : World) (hz : SampAt w a len cap z) (hl : len ≤ 1048576) :
    Calls Tryz.prog 265 #[.slice a len cap] w fun e w' => e = .returned (.int .i64 ((encTo z len).length : Int)) ∧ Below w.heap.size w w' := by
  by_cases h0 : len = 0
  · subst h0
    go_enter Tryz.func265, Tryz.ntmps265
    go_wp2
    go_ret
    exact ⟨rfl, Below.refl _ _⟩
  · have hlc := hz.2.1
    obtain ⟨b, off, rfl, hb, hc⟩ := hz.all (by omega)
    have hne : ((len : Int) == 0) = false := by rw [beq_eq_false_iff_ne]; omega
    obtain ⟨off', ho, hsl⟩ := slice_tail b off len cap (by omega) hlc
    have HC : Hid (∀ i, i + 1 < len → w.cell? ⟨b, off' + i * 2, none⟩ = some (.int .i64 (tOf z (i + 1))) ∧ w.cell? ⟨b, off' + i * 2 + 1, none⟩ = some (.int .i64 (vOf z (i + 1)))) := by
      intro i hi
      have := hc (i + 1) hi
      rw [ho (by omega), show off + 2 + i * 2 = off + (i + 1) * 2 from by omega]
      exact this
    obtain ⟨c0, c1⟩ := hc 0 (by omega)
    simp only [Nat.zero_mul, Nat.add_zero] at c0 c1
    have h0' : 0 < len := by omega
    obtain ⟨m, hm⟩ : ∃ m, len - 1 = m := ⟨_, rfl⟩
    have hm1 : m + 1 ≤ len := by omega
    have hm2 : len ≤ m + 1 := by omega
    rw [hm] at hsl
    generalize cap - 1 = cap' at hsl
    clear hz hc ho h0 hm
    go_enter Tryz.func265, Tryz.ntmps265
    go_wp2
    have B1 := (Below.refl w.heap.size w).alloc (Nat.le_refl _) (.cells #[.int .i64 (tOf z 0), .int .i64 (vOf z 0), .int .i64 0] 326)
    have K1 : WkZ (w.alloc (.cells #[.int .i64 (tOf z 0), .int .i64 (vOf z 0), .int .i64 0] 326)) w.heap.size z 0 := heap_new w _
    have s1 : w.heap.size < (w.alloc (.cells #[.int .i64 (tOf z 0), .int .i64 (vOf z 0), .int .i64 0] 326)).heap.size := by simp
    generalize w.alloc (.cells #[.int .i64 (tOf z 0), .int .i64 (vOf z 0), .int .i64 0] 326) = W1 at *
    clear c0 c1 hsl
    go_loopw [3, 19] (fun t i wr => ∃ j : Nat, j ≤ m ∧ i = .int .i64 (j : Int) ∧ t = .int .i64 ((encTo z (j + 1)).length : Int) ∧ WkZ wr w.heap.size z j ∧ Below w.heap.size w wr ∧ w.heap.size < wr.heap.size) (fun _ i _ => m - (intOf i).toNat)
    case atStart => exact ⟨0, Nat.zero_le _, rfl, by rw [encTo_len_one]; rfl, K1, B1, s1⟩
    case round =>
      obtain ⟨j, hj, rfl, rfl, hk, B2, s2⟩ := hrel
      have hle := encTo_le z (j + 1)
      by_cases hjm : j < m
      · obtain ⟨c0, c1⟩ := HC.out j (by omega)
        rw [← B2.cell hb] at c0 c1
        have HS := hid (encTo_len_step z j)
        have hle2 := encTo_le z (j + 2)
        obtain ⟨L, hL⟩ : ∃ L, (encTo z (j + 1)).length = L := ⟨_, rfl⟩
        obtain ⟨L2, hL2⟩ : ∃ L2, (encTo z (j + 2)).length = L2 := ⟨_, rfl⟩
        rw [hL] at hle HS ⊢
        rw [hL2] at hle2 HS
        have HL2 := hid hL2
        obtain ⟨T, hT⟩ : ∃ T, T = tOf z (j + 1) := ⟨_, rfl⟩
        obtain ⟨V, hV⟩ : ∃ V, V = vOf z (j + 1) := ⟨_, rfl⟩
        rw [← hT] at c0
        rw [← hV] at c1
        have HT := hid hT
        have HV := hid hV
        clear hT hV hL hL2
        go_wp2_with fail
        have B3 := B2.alloc (by omega) (.cells #[.int .i64 T, .int .i64 V] 27)
        have s3 : w.heap.size < (wr.alloc (.cells #[.int .i64 T, .int .i64 V] 27)).heap.size := by simp; omega
        have hk3 := hk.keep (World.grownBy_alloc wr (.cells #[.int .i64 T, .int .i64 V] 27) none) (by simp)
        clear hk B2 c0 c1
        generalize wr.alloc (.cells #[.int .i64 T, .int .i64 V] 27) = W3 at *
        refine (tow_any w.heap.size z j T V _ hk3 HT.out HV.out).mono ?_
        rintro e W4 ⟨tn, vn, rfl, HTN, HVN, htn, hvn, hk4, g4⟩
        have B4 := bel_gb B3 (by omega) (Nat.le_refl _) g4
        have s4 := Nat.lt_of_lt_of_le s3 g4.size
        clear hk3 B3 s3 g4
        go_wp2_with fail
        refine (size_any tn _ htn).mono ?_
        rintro e w' ⟨rfl, rfl⟩
        have b1 := csize_le tn
        have b2 := csize_le vn
        have HS2 : Hid (L2 = L + csize tn + csize vn) := by rw [HTN.out, HVN.out]; exact HS.out
        generalize csize tn = x1 at *
        go_wp2_with fail
        refine (size_any vn _ hvn).mono ?_
        rintro e w' ⟨rfl, rfl⟩
        generalize csize vn = x2 at *
        go_wp2
        go_roundw
        case rel => exact ⟨j + 1, by omega, by go_num, by rw [show j + 1 + 1 = j + 2 from rfl, HL2.out, HS2.out]; go_num, hk4, B4, s4⟩
        case measure => simp [intOf]; omega
      · obtain rfl : j = m := by omega
        go_wp2
        go_ret
        obtain rfl : len = j + 1 := by omega
        exact ⟨rfl, B2⟩
end Go.Proofs.YtmifpfojhlmbkaaGreat
