/-
  Contracts.
-/
import Derived.Test.YtmifpfojhlmbkaaGreatJ6
import Derived.Test.YtmifpfojhlmbkaaGreatJ16
import Derived.Test.YtmifpfojhlmbkaaGreatJ34
import Derived.StillTailTactics
import Derived.Lib.Overlaps
import Derived.Lib.AppendZerosOnto
import Derived.Lib.SliceRun
import Derived.Shelf.RegionOpenPlain
namespace Go.Proofs.YtmifpfojhlmbkaaGreat
open Lib (hid)
set_option maxRecDepth 100000
set_option maxHeartbeats 16000000
open Go.RowKit
set_option linter.unusedVariables false
set_option linter.unusedSimpArgs false
def InsPG (v : Value) (l : List Ru) (w : World) (e : Ending) (w' : World) : Prop :=
  ∃ v', e = .returned v' ∧ URow 32 w' 0 v' l ∧ w.grownBy w' v.ownBlock ∧ ∀ g, v'.ownBlock = some g → w.heap.size ≤ g ∨ v.ownBlock = some g
theorem run_append_sn (w : World) (ty : TypeId) (v : Value) (l : List Ru) (hown : URow 32 w 0 v l) (ad : Addr) (m c : Nat) (k : List Ru) (hk : RuAt w (some ad) m c k) (hm : 0 < m) (hb : l.length + m ≤ 1048576) :
    ∃ v' w', (Builtin.append_ #[38, 38] ty #[v, .slice (some ad) m c]).run Tryz.prog w = .ok v' w' ∧ URow 32 w' 0 v' (l ++ k) ∧ w.grownBy w' v.ownBlock ∧ ∀ g, v'.ownBlock = some g → w.heap.size ≤ g ∨ v.ownBlock = some g := by
  obtain ⟨i0, hi, hz0, hz1, hz2⟩ := info_parts info_gu
  have hkl := hk.1
  obtain ⟨v', w', hr, h2, h3, _⟩ := run_append_own (P := Tryz.prog) w 0 38 ty 32 i0 _ 5 56 Tryz.underlying38 hi hz0 hz1 hz2 rfl (by omega) v l.length _ hown ad m c (ruCs k) (by rw [ruCs_len, hkl]) (hk.src ad rfl) (ruCs_one k) (by unfold maxLen; omega) (by omega) (Nat.zero_le _)
  refine ⟨v', w', hr, ?_, h3, ?_⟩
  · unfold URow
    rw [List.length_append, ruCs_app, hkl]; exact h2
  · rcases hown.2 with ⟨rfl, e0⟩ | ⟨g, cap, cur, rfl, hbg, hg, hnc, hcm, hcs, htake⟩
    · have hr2 := run_append_nil (P := Tryz.prog) w 38 ty 32 i0 _ Tryz.underlying38 hi hz0 ad m c (ruCs k) (by rw [ruCs_len, hkl, hz1]) (hk.src ad rfl) hm (by omega) (by rw [hz2]; omega)
      rw [hr] at hr2
      cases hr2
      intro g hg
      cases hg
      exact .inl (Nat.le_refl _)
    · by_cases hroom : l.length + m ≤ cap
      · have hr2 := run_append_room (P := Tryz.prog) w 38 ty 32 i0 Tryz.underlying38 hi g l.length cap cur hg ad m c (ruCs k) (by rw [ruCs_len, hkl, hz1]) (hk.src ad rfl) (ruCs_one k) hroom (by rw [ruCs_len, hkl, hz1, hcs]; omega)
        rw [hr] at hr2
        cases hr2
        intro q hq
        cases hq
        exact .inr rfl
      · have hr2 := run_append_grow (P := Tryz.prog) w 38 ty 32 i0 _ Tryz.underlying38 hi hz0 ⟨g, 0, none⟩ l.length cap (ruCs l) (by rw [ruCs_len, hz1]) (hown.cells (g := g) rfl) ad m c (ruCs k) (by rw [ruCs_len, hkl, hz1]) (hk.src ad rfl) (by omega) (by omega) (by rw [hz2]; exact growslice_fits (by omega) (by omega))
        rw [hr] at hr2
        cases hr2
        intro q hq
        cases hq
        exact .inl (Nat.le_refl _)
theorem gsl_l (b n c k : Nat) (hk : k ≤ n) (hc : n ≤ c) (hne : k ≠ c) (W : World) : (Instr.slice 38 (.slice (some ⟨b, 0, none⟩) n c) (some (.int .i64 (k : Int))) none none).run Tryz.prog W = .ok (.slice (some ⟨b, k * 5, none⟩) (n - k) (c - k)) W := by
  rw [run_slice_l W 38 _ _ _ (by kernel_rfl) .i64 (k : Int) (by omega) (by omega), size_gu]
  simp [Result.andThen, sliced, Addr.add, hne.symm]
  omega
theorem gsl_h (a : Option Addr) (n c k : Nat) (hk : k ≤ c) (W : World) : (Instr.slice 38 (.slice a n c) none (some (.int .i64 (k : Int))) none).run Tryz.prog W = .ok (.slice a k c) W := by
  rw [run_slice_h W 38 _ _ _ (by kernel_rfl) .i64 (k : Int) (by omega) (by omega), size_gu]
  cases a <;> simp [Result.andThen, sliced, Addr.add]
theorem splice_mid {A B cs : List Value} {n : Nat} (h : A.length = n) : splice (A ++ B) n cs = A ++ (cs ++ B.drop cs.length) := by
  subst h
  unfold splice
  rw [List.take_left, List.drop_append, List.drop_of_length_le (by omega)]
  simp
theorem gins_grow (g n cap vb i : Nat) (cur : Array Value) (l : List Ru) (r : Ru) (w : World) (hn : l.length = n) (hi : i < n) (hcap : n ≤ cap) (hroom : cap < n + 1) (hmax : n ≤ 1000) (hg : w.heap[g]? = some (.cells cur 32 (0, 0)))
    (hcs : ∀ j u, (ruCs l)[j]? = some u → w.cell? ⟨g, j, none⟩ = some u) (hvb : BoxU 32 w vb r) (hne : vb ≠ g) :
    Calls Tryz.prog 233 #[.slice (some ⟨g, 0, none⟩) n cap, .int .i64 (i : Int), .slice (some ⟨vb, 0, none⟩) 1 1] w
      (InsPG (.slice (some ⟨g, 0, none⟩) n cap) (l.take i ++ r :: l.drop i) w) := by
  obtain ⟨i0, hi0, hz0, hz1, hz2⟩ := info_parts info_gu
  have hglt := heap_lt hg
  have hvlt := hvb.lt
  have hik : i + (n + 1 - i) = n + 1 := by omega
  have hkk : (n : Int) + 1 - (i : Int) = ((n + 1 - i : Nat) : Int) := by omega
  have hXl : (ruCs (l.take i)).length = i * 5 := by rw [ruCs_len, List.length_take, Nat.min_eq_left (by omega)]
  have hDl : (ruCs (l.drop i)).length = (n - i) * 5 := by rw [ruCs_len, List.length_drop, hn]
  have hold : (Builtin.firstCells i0.size i (.slice (some ⟨g, 0, none⟩) i cap)).run Tryz.prog w.drew = .ok (ruCs (l.take i)).toArray w.drew := by
    rw [hz1]
    exact run_firstCells_some w.drew 5 i ⟨g, 0, none⟩ i cap (ruCs (l.take i)) hXl (fun j v hj => by
      rw [ruCs_take, List.getElem?_take] at hj
      split at hj
      · rw [show (⟨g, 0, none⟩ : Addr).add j = ⟨g, j, none⟩ from by simp [Addr.add]; omega]
        exact hcs j v hj
      · cases hj)
  have hrz : ∀ ty, (Builtin.append_ #[38, 3] ty #[.slice (some ⟨g, 0, none⟩) i cap, .int .i64 ((n : Int) + 1 - (i : Int))]).run Tryz.prog w =
      .ok (.slice (some ⟨w.heap.size, 0, none⟩) (n + 1) (grownCap w (n + 1) cap 32)) (w.drew.alloc (.cells ((ruCs (l.take i)).toArray ++ Builtin.zeroCells (Value.agg #[.string ⟨#[]⟩, .string ⟨#[]⟩, .int .i64 0, .int .i64 0, .int .i64 0]).cells (n + 1 - i) ++ Builtin.zeroCells (Value.agg #[.string ⟨#[]⟩, .string ⟨#[]⟩, .int .i64 0, .int .i64 0, .int .i64 0]).cells (grownCap w (n + 1) cap 32 - (n + 1))) 32)) := fun ty => by
    have h := Lib.run_append_grow_zeros w 38 3 ty 32 i0 _ .i64 .i64 Tryz.underlying38 Tryz.underlying3 hi0 hz0 (some ⟨g, 0, none⟩) i cap (ruCs (l.take i)) hold (n + 1 - i) (by omega) (by omega) (by omega) (by omega) (by rw [hz2]; omega) (by rw [hz2, hik]; exact growslice_fits (by omega) (by omega))
    rw [hik] at h
    rw [hkk]
    exact h
  have hGn := grownCap_ge w (n + 1) cap 32
  have hGm := grownCap_le_maxLen w (n + 1) cap 32 (by unfold maxLen; omega)
  obtain ⟨G, hG⟩ : ∃ G, grownCap w (n + 1) cap 32 = G := ⟨_, rfl⟩
  rw [hG] at hrz hGn hGm
  obtain ⟨Z, hZ, hZl⟩ : ∃ Z : List Value, (ruCs (l.take i)).toArray ++ Builtin.zeroCells (Value.agg #[.string ⟨#[]⟩, .string ⟨#[]⟩, .int .i64 0, .int .i64 0, .int .i64 0]).cells (n + 1 - i) ++ Builtin.zeroCells (Value.agg #[.string ⟨#[]⟩, .string ⟨#[]⟩, .int .i64 0, .int .i64 0, .int .i64 0]).cells (G - (n + 1)) = (ruCs (l.take i) ++ Z).toArray ∧ Z.length = (G - i) * 5 := by
    refine ⟨(Builtin.zeroCells (Value.agg #[.string ⟨#[]⟩, .string ⟨#[]⟩, .int .i64 0, .int .i64 0, .int .i64 0]).cells (n + 1 - i)).toList ++ (Builtin.zeroCells (Value.agg #[.string ⟨#[]⟩, .string ⟨#[]⟩, .int .i64 0, .int .i64 0, .int .i64 0]).cells (G - (n + 1))).toList, ?_, ?_⟩
    · apply Array.ext'
      simp
    · rw [List.length_append, Array.length_toList, Array.length_toList, size_zeroCells, size_zeroCells]
      show (n + 1 - i) * 5 + (G - (n + 1)) * 5 = (G - i) * 5
      omega
  rw [hZ] at hrz
  have hG63 : G ≤ 9223372036854775807 := by unfold maxLen at hGm; omega
  have HGM := hid hGm
  generalize hX : ruCs (l.take i) = X at *
  generalize hD : ruCs (l.drop i) = D at *
  have HG := hid (show (w.alloc (.cells (X ++ Z).toArray 32)).drew.heap[w.heap.size]? = some (.cells (X ++ Z).toArray 32 (0, 0)) from heap_new w _)
  have HB := hid (show Below w.heap.size w (w.alloc (.cells (X ++ Z).toArray 32)).drew from ((Below.refl w.heap.size w).alloc (Nat.le_refl _) _).drew)
  have HV := hid hvb
  have HS := hid (show ∀ j u, D[j]? = some u → w.cell? ⟨g, i * 5 + j, none⟩ = some u from fun j u hj => hcs _ u (by rw [← hD, ruCs_drop, List.getElem?_drop] at hj; exact hj))
  have HX := hid hX
  have HD := hid hD
  have HXL := hid hXl
  have HDL := hid hDl
  have HZL := hid hZl
  have HN := hid hn
  have hz1' : ¬ ((i : Int) = (n : Int)) := by omega
  have hz3 : (cap : Int) < (n : Int) + 1 := by omega
  have hik2 : (i : Int) ≤ (n : Int) := by omega
  have hi00 : (0 : Int) ≤ (i : Int) := by omega
  clear hkk hik hG hZ hi0 hz0 hz1 hz2 hGm hvb hg hcs hn hX hD hold hXl hDl hZl
  have hsl1 := gsl_l g n cap i (by omega) hcap (by omega)
  have hsl2 := gsl_h (some ⟨g, 0, none⟩) n cap i (by omega)
  have hsl3 := gsl_l w.heap.size (n + 1) G i (by omega) hGn (by omega)
  have HCl : ∀ j v, (ruC r)[j]? = some v → (w.alloc (.cells (X ++ Z).toArray 32)).drew.cell? ((⟨vb, 0, none⟩ : Addr).add j) = some v := fun j v hj => by
    rw [show (⟨vb, 0, none⟩ : Addr).add j = ⟨vb, 0 + j, none⟩ from by simp [Addr.add]; omega]
    exact (HV.out.keep HB.out).u5.to j v hj
  have HC1 : ∀ ty, (Builtin.copy_ #[38, 38] ty #[.slice (some ⟨w.heap.size, i * 5, none⟩) (n + 1 - i) (G - i), .slice (some ⟨vb, 0, none⟩) 1 1]).run Tryz.prog (w.alloc (.cells (X ++ Z).toArray 32)).drew = .ok (goInt 1) ((w.alloc (.cells (X ++ Z).toArray 32)).drew.setRow w.heap.size (splice (X ++ Z) (i * 5) (ruC r)).toArray) := fun ty => by
    have h := run_copy_wide (P := Tryz.prog) (w.alloc (.cells (X ++ Z).toArray 32)).drew 38 38 ty 32 w.heap.size (i * 5) (n + 1 - i) (G - i) ⟨vb, 0, none⟩ 1 1 (X ++ Z).toArray 32 (ruC r) 1 5 Tryz.underlying38 (by kernel_rfl) HG.out (by show 1 = min 1 (n + 1 - i); omega) rfl HCl (by show i * 5 + 5 ≤ _; simp [HXL.out, HZL.out]; omega) (ruC_one r)
    simpa [splice] using h
  go_enter Tryz.func233, Tryz.ntmps233
  go_wp2_with (first
    | (at_builtin; refine Lib.wpList_append_run _ rfl _ _ _ _ rfl _ _ rfl rfl _ _ (hrz _) ?_)
    | (at_builtin; refine wpList_copy_run _ rfl _ _ 38 38 rfl _ _ rfl rfl (HC1 _) ?_))
  have hspl : splice (X ++ Z) (i * 5) (ruC r) = X ++ (ruC r ++ Z.drop 5) := by
    have := splice_mid (A := X) (B := Z) (cs := ruC r) HXL.out
    rw [this]; rfl
  have B2 : Below w.heap.size w ((w.alloc (.cells (X ++ Z).toArray 32)).drew.setRow w.heap.size (splice (X ++ Z) (i * 5) (ruC r)).toArray) := below_setRow HB.out (Nat.le_refl _) _
  have h2 : ((w.alloc (.cells (X ++ Z).toArray 32)).drew.setRow w.heap.size (splice (X ++ Z) (i * 5) (ruC r)).toArray).heap[w.heap.size]? = some (.cells (splice (X ++ Z) (i * 5) (ruC r)).toArray 32 (0, 0)) := setRow_heap _ _ _ _ _ _ HG.out
  rw [hspl] at B2 h2 ⊢
  generalize (w.alloc (.cells (X ++ Z).toArray 32)).drew.setRow w.heap.size (X ++ (ruC r ++ Z.drop 5)).toArray = W2 at *
  have HS2 := hid (show ∀ j u, D[j]? = some u → W2.drew.cell? ((⟨g, i * 5, none⟩ : Addr).add j) = some u from fun j u hj => by
    rw [show (⟨g, i * 5, none⟩ : Addr).add j = ⟨g, i * 5 + j, none⟩ from by simp [Addr.add]]
    exact (B2.cell (p := ⟨g, i * 5 + j, none⟩) hglt).trans (HS.out j u hj))
  have hYl : (X ++ ruC r).length = (i + 1) * 5 := by rw [List.length_append, HXL.out]; show i * 5 + 5 = _; omega
  have hspl2 : splice (X ++ (ruC r ++ Z.drop 5)) ((i + 1) * 5) D = X ++ ruC r ++ (D ++ (Z.drop 5).drop D.length) := by
    rw [← List.append_assoc]
    exact splice_mid hYl
  have HC2 : ∀ ty, (Builtin.copy_ #[38, 38] ty #[.slice (some ⟨w.heap.size, (i + 1) * 5, none⟩) (n - i) (G - (i + 1)), .slice (some ⟨g, i * 5, none⟩) (n - i) (cap - i)]).run Tryz.prog W2.drew = .ok (goInt ((n - i : Nat) : Int)) (W2.drew.setRow w.heap.size (X ++ ruC r ++ (D ++ (Z.drop 5).drop D.length)).toArray) := fun ty => by
    have h := run_copy_wide (P := Tryz.prog) W2.drew 38 38 ty 32 w.heap.size ((i + 1) * 5) (n - i) (G - (i + 1)) ⟨g, i * 5, none⟩ (n - i) (cap - i) (X ++ (ruC r ++ Z.drop 5)).toArray 32 D (n - i) 5 Tryz.underlying38 (by kernel_rfl) h2 (by show n - i = min (n - i) (n - i); omega) HDL.out HS2.out (by simp [HXL.out, HZL.out, HDL.out]; show (i + 1) * 5 + (n - i) * 5 ≤ i * 5 + (5 + ((G - i) * 5 - 5)); omega) (by rw [← HD.out]; exact ruCs_one _)
    rw [h, ← hspl2]
    simp [splice]
  have h3 : (W2.drew.setRow w.heap.size (X ++ ruC r ++ (D ++ (Z.drop 5).drop D.length)).toArray).heap[w.heap.size]? = some (.cells (X ++ ruC r ++ (D ++ (Z.drop 5).drop D.length)).toArray 32 (0, 0)) := setRow_heap W2.drew _ _ _ _ _ h2
  have B3 : Below w.heap.size w (W2.drew.setRow w.heap.size (X ++ ruC r ++ (D ++ (Z.drop 5).drop D.length)).toArray) := below_setRow B2.drew (Nat.le_refl _) _
  have hll : (l.take i ++ r :: l.drop i).length = n + 1 := by rw [List.length_append, List.length_cons, List.length_take, List.length_drop, HN.out]; omega
  have hcells : ruCs (l.take i ++ r :: l.drop i) = X ++ ruC r ++ D := by rw [ruCs_app, ruCs_cons, HX.out, HD.out, List.append_assoc]
  have HR : Hid (URow 32 (W2.drew.setRow w.heap.size (X ++ ruC r ++ (D ++ (Z.drop 5).drop D.length)).toArray) 0 (.slice (some ⟨w.heap.size, 0, none⟩) (n + 1) G) (l.take i ++ r :: l.drop i)) := hid (by
    unfold URow
    rw [hll, hcells]
    refine ⟨by rw [List.length_append, hYl, HDL.out]; omega, .inr ⟨w.heap.size, G, _, rfl, Nat.zero_le _, h3, hGn, HGM.out, ?_, ?_⟩⟩
    · rw [List.size_toArray, List.length_append, hYl, List.length_append, HDL.out, List.length_drop, List.length_drop, HZL.out]
      omega
    · rw [← List.append_assoc]
      have hl : (X ++ ruC r ++ D).length = (n + 1) * 5 := by rw [List.length_append, hYl, HDL.out]; omega
      rw [← hl]
      exact List.take_left)
  have HB3 := hid B3
  clear HG HB hrz HC1 HCl h2 h3 B2 B3 hspl hspl2 hYl hll hcells HS2 HS
  generalize hW3 : W2.drew.setRow w.heap.size (X ++ ruC r ++ (D ++ (Z.drop 5).drop D.length)).toArray = W3 at *
  have hsl4 : ∀ W : World, (Instr.slice 38 (.slice (some ⟨w.heap.size, 0, none⟩) (n + 1) G) (some (.int .i64 ((i : Int) + 1))) none none).run Tryz.prog W = .ok (.slice (some ⟨w.heap.size, (i + 1) * 5, none⟩) (n - i) (G - (i + 1))) W := fun W => by
    have h := gsl_l w.heap.size (n + 1) G (i + 1) (by omega) hGn (by omega) W
    rw [show n + 1 - (i + 1) = n - i from by omega] at h
    exact h
  have hwr : IntKind.i64.wrap ((i : Int) + 1) = (i : Int) + 1 := by rw [IntKind.wrap_i64]; omega
  clear hW3
  go_region_law (refine step_copy_run rfl _ _ 38 38 rfl (.slice (some ⟨w.heap.size, (i + 1) * 5, none⟩) (n - i) (G - (i + 1))) (.slice (some ⟨g, i * 5, none⟩) (n - i) (cap - i)) (by simp [Act.eval, Act.put]) (by simp [Act.eval, Act.put]) (HC2 3) ?_)
  go_wp2
  go_ret
  exact ⟨_, rfl, HR.out, gb_below HB3.out, fun q hq => by cases hq; exact .inl (Nat.le_refl _)⟩
theorem gins_room (g n cap vb i : Nat) (cl : List Value) (l : List Ru) (r : Ru) (w : World) (hn : l.length = n) (hi : i < n) (hroom : n + 1 ≤ cap) (hcm : cap ≤ maxLen) (hmax : n ≤ 1000) (hg : w.heap[g]? = some (.cells cl.toArray 32 (0, 0)))
    (hcl : cl.length = cap * 5) (htk : cl.take (n * 5) = ruCs l) (hvb : BoxU 32 w vb r) (hne : vb ≠ g) :
    Calls Tryz.prog 233 #[.slice (some ⟨g, 0, none⟩) n cap, .int .i64 (i : Int), .slice (some ⟨vb, 0, none⟩) 1 1] w
      (InsPG (.slice (some ⟨g, 0, none⟩) n cap) (l.take i ++ r :: l.drop i) w) := by
  have hglt := heap_lt hg
  have hvlt := hvb.lt
  have hXl : (ruCs (l.take i)).length = i * 5 := by rw [ruCs_len, List.length_take, Nat.min_eq_left (by omega)]
  have hDl : (ruCs (l.drop i)).length = (n - i) * 5 := by rw [ruCs_len, List.length_drop, hn]
  obtain ⟨R, hR, hRl⟩ : ∃ R, cl = ruCs (l.take i) ++ (ruCs (l.drop i) ++ R) ∧ R.length = (cap - n) * 5 := by
    refine ⟨cl.drop (n * 5), ?_, by rw [List.length_drop, hcl]; omega⟩
    rw [← List.append_assoc, ← ruCs_app, List.take_append_drop, ← htk, List.take_append_drop]
  generalize hX : ruCs (l.take i) = X at *
  generalize hD : ruCs (l.drop i) = D at *
  subst hR
  have hcap63 : cap ≤ 9223372036854775807 := by unfold maxLen at hcm; omega
  have hov : ∀ lb cb, (callFunc 286 #[.slice (some ⟨vb, 0, none⟩) 1 1, .slice (some ⟨g, (i + 1) * 5, none⟩) lb cb]).run Tryz.prog w = .ok (.value (.bool false)) w := fun lb cb => by
    rw [run_callFunc_extern Tryz.func286 (by kernel_rfl) (by kernel_rfl) (by kernel_rfl) (e := Extern.SlicesOverlaps.overlaps #[38, 38] #[4]) (by kernel_rfl),
      Lib.run_overlaps_apart w 38 4 32 Tryz.underlying38 5 size_gu ⟨vb, 0, none⟩ ⟨g, (i + 1) * 5, none⟩ 1 1 lb cb hne 32 32 5 (cap * 5) (by unfold BoxU at hvb; simp [World.shape?, hvb]) (by rw [← hcl]; simp [World.shape?, hg]) (by omega) (by unfold BoxU at hvb; simp [World.frozen?, hvb]) (by unfold BoxU at hvb; simp [World.frozen?, hvb])]
    rfl
  have HV := hid hvb
  have HS := hid hg
  have HX := hid hX
  have HD := hid hD
  have HXL := hid hXl
  have HDL := hid hDl
  have HRL := hid hRl
  have HCL := hid hcl
  have HCM := hid hcm
  have HN := hid hn
  have hz1' : ¬ ((i : Int) = (n : Int)) := by omega
  have hz3 : ¬ ((cap : Int) < (n : Int) + 1) := by omega
  have hik2 : (i : Int) ≤ (n : Int) := by omega
  have hi00 : (0 : Int) ≤ (i : Int) := by omega
  clear hvb hg htk hn hX hD hXl hDl hRl hcl hcm
  have hsl1 := gsl_l g n cap i (by omega) (by omega) (by omega)
  have hsl2 : ∀ W : World, (Instr.slice 38 (.slice (some ⟨g, 0, none⟩) n cap) none (some (.int .i64 ((n : Int) + 1))) none).run Tryz.prog W = .ok (.slice (some ⟨g, 0, none⟩) (n + 1) cap) W := gsl_h (some ⟨g, 0, none⟩) n cap (n + 1) (by omega)
  have hsl3 : ∀ W : World, (Instr.slice 38 (.slice (some ⟨g, 0, none⟩) (n + 1) cap) (some (.int .i64 ((i : Int) + 1))) none none).run Tryz.prog W = .ok (.slice (some ⟨g, (i + 1) * 5, none⟩) (n - i) (cap - (i + 1))) W := fun W => by
    have h := gsl_l g (n + 1) cap (i + 1) (by omega) (by omega) (by omega) W
    rw [show n + 1 - (i + 1) = n - i from by omega] at h
    exact h
  have hsl4 := gsl_l g (n + 1) cap i (by omega) (by omega) (by omega)
  have hwr : IntKind.i64.wrap ((i : Int) + 1) = (i : Int) + 1 := by rw [IntKind.wrap_i64]; omega
  have hwr2 : IntKind.i64.wrap ((n : Int) + 1) = (n : Int) + 1 := by rw [IntKind.wrap_i64]; omega
  go_enter Tryz.func233, Tryz.ntmps233
  go_wp2_with fail
  have HSRC1 : ∀ j u, D[j]? = some u → w.drew.cell? ((⟨g, i * 5, none⟩ : Addr).add j) = some u := fun j u hj => by
    rw [show (⟨g, i * 5, none⟩ : Addr).add j = ⟨g, i * 5 + j, none⟩ from by simp [Addr.add]]
    show w.cell? _ = _
    rw [cell_of HS.out, List.getElem?_toArray, ← HXL.out, List.getElem?_append_right (by omega), show X.length + j - X.length = j from by omega, List.getElem?_append_left (List.getElem?_eq_some_iff.1 hj).1]
    exact hj
  have hXD : (X ++ D.take 5).length = (i + 1) * 5 := by rw [List.length_append, HXL.out, List.length_take, HDL.out, Nat.min_eq_left (by omega)]; omega
  have hspl : splice (X ++ (D ++ R)) ((i + 1) * 5) D = X ++ (D.take 5 ++ (D ++ R.drop 5)) := by
    have e : X ++ (D ++ R) = (X ++ D.take 5) ++ (D.drop 5 ++ R) := by rw [List.append_assoc, ← List.append_assoc (D.take 5), List.take_append_drop]
    rw [e, splice_mid hXD, List.append_assoc]
    congr 3
    rw [List.drop_append, List.drop_drop, List.drop_of_length_le (by omega), List.nil_append, List.length_drop]
    congr 1
    rw [HDL.out]; omega
  have HC1 : ∀ ty, (Builtin.copy_ #[38, 38] ty #[.slice (some ⟨g, (i + 1) * 5, none⟩) (n - i) (cap - (i + 1)), .slice (some ⟨g, i * 5, none⟩) (n + 1 - i) (cap - i)]).run Tryz.prog w.drew = .ok (goInt ((n - i : Nat) : Int)) (w.drew.setRow g (X ++ (D.take 5 ++ (D ++ R.drop 5))).toArray) := fun ty => by
    have h := run_copy_wide (P := Tryz.prog) w.drew 38 38 ty 32 g ((i + 1) * 5) (n - i) (cap - (i + 1)) ⟨g, i * 5, none⟩ (n + 1 - i) (cap - i) (X ++ (D ++ R)).toArray 32 D (n - i) 5 Tryz.underlying38 (by kernel_rfl) HS.out (by show n - i = min (n + 1 - i) (n - i); omega) HDL.out HSRC1 (by rw [List.size_toArray, HCL.out, HDL.out]; omega) (by rw [← HD.out]; exact ruCs_one _)
    rw [h, ← hspl]
    simp [splice]
  have h2 : (w.drew.setRow g (X ++ (D.take 5 ++ (D ++ R.drop 5))).toArray).heap[g]? = some (.cells (X ++ (D.take 5 ++ (D ++ R.drop 5))).toArray 32 (0, 0)) := setRow_heap w.drew _ _ _ _ _ HS.out
  have g2 : w.grownBy (w.drew.setRow g (X ++ (D.take 5 ++ (D ++ R.drop 5))).toArray) (some g) := ⟨rfl, rfl, rfl, by simp [World.setRow], fun k hk hr => setRow_other w.drew g k _ (by intro e; exact hr (by rw [e]))⟩
  generalize hW2 : w.drew.setRow g (X ++ (D.take 5 ++ (D ++ R.drop 5))).toArray = W2 at *
  have hv2 : BoxU 32 W2 vb r := by unfold BoxU; rw [g2.block vb hvlt (by simp; exact hne)]; exact HV.out
  have hspl2 : splice (X ++ (D.take 5 ++ (D ++ R.drop 5))) (i * 5) (ruC r) = X ++ (ruC r ++ (D ++ R.drop 5)) := by
    rw [splice_mid HXL.out]
    congr 2
    have : (D.take 5).length = (ruC r).length := by rw [List.length_take, HDL.out]; show min 5 _ = 5; omega
    rw [← this]
    exact List.drop_left
  have HC2 : ∀ ty, (Builtin.copy_ #[38, 38] ty #[.slice (some ⟨g, i * 5, none⟩) (n + 1 - i) (cap - i), .slice (some ⟨vb, 0, none⟩) 1 1]).run Tryz.prog W2 = .ok (goInt 1) (W2.setRow g (X ++ (ruC r ++ (D ++ R.drop 5))).toArray) := fun ty => by
    have h := run_copy_wide (P := Tryz.prog) W2 38 38 ty 32 g (i * 5) (n + 1 - i) (cap - i) ⟨vb, 0, none⟩ 1 1 (X ++ (D.take 5 ++ (D ++ R.drop 5))).toArray 32 (ruC r) 1 5 Tryz.underlying38 (by kernel_rfl) h2 (by show 1 = min 1 (n + 1 - i); omega) rfl (fun j v hj => by
      rw [show (⟨vb, 0, none⟩ : Addr).add j = ⟨vb, 0 + j, none⟩ from by simp [Addr.add]; omega]
      exact hv2.u5.to j v hj) (by
        rw [List.size_toArray, List.length_append, HXL.out, List.length_append, List.length_take, HDL.out]
        show i * 5 + 5 ≤ i * 5 + (min 5 _ + _)
        omega) (ruC_one r)
    rw [← hspl2]
    simpa [splice] using h
  have h3 : (W2.setRow g (X ++ (ruC r ++ (D ++ R.drop 5))).toArray).heap[g]? = some (.cells (X ++ (ruC r ++ (D ++ R.drop 5))).toArray 32 (0, 0)) := setRow_heap W2 _ _ _ _ _ h2
  have g3 : w.grownBy (W2.setRow g (X ++ (ruC r ++ (D ++ R.drop 5))).toArray) (some g) := gb_trans g2 ⟨rfl, rfl, rfl, by simp [World.setRow], fun k hk hr => setRow_other W2 g k _ (by intro e; exact hr (by rw [e]))⟩
  have hll : (l.take i ++ r :: l.drop i).length = n + 1 := by rw [List.length_append, List.length_cons, List.length_take, List.length_drop, HN.out]; omega
  have hcells : ruCs (l.take i ++ r :: l.drop i) = X ++ (ruC r ++ D) := by rw [ruCs_app, ruCs_cons, HX.out, HD.out]
  have HRW : Hid (URow 32 (W2.setRow g (X ++ (ruC r ++ (D ++ R.drop 5))).toArray) 0 (.slice (some ⟨g, 0, none⟩) (n + 1) cap) (l.take i ++ r :: l.drop i)) := hid (by
    unfold URow
    rw [hll, hcells]
    have hl5 : (ruC r).length = 5 := rfl
    have hl : (X ++ (ruC r ++ D)).length = (n + 1) * 5 := by rw [List.length_append, List.length_append, HXL.out, HDL.out, hl5]; omega
    refine ⟨hl, .inr ⟨g, cap, _, rfl, Nat.zero_le _, h3, hroom, HCM.out, ?_, ?_⟩⟩
    · rw [List.size_toArray, List.length_append, List.length_append, List.length_append, HXL.out, HDL.out, List.length_drop, HRL.out, hl5]; omega
    · rw [← hl, show X ++ (ruC r ++ (D ++ R.drop 5)) = (X ++ (ruC r ++ D)) ++ R.drop 5 from by simp only [List.append_assoc]]
      exact List.take_left)
  have HG3 := hid g3
  clear h2 h3 g2 g3 HSRC1 hv2 hov hspl hspl2 hXD hll hcells
  generalize hW3 : W2.setRow g (X ++ (ruC r ++ (D ++ R.drop 5))).toArray = W3 at *
  clear hW3 hW2
  go_region_law (refine step_copy_run rfl _ _ 38 38 rfl (.slice (some ⟨g, (i + 1) * 5, none⟩) (n - i) (cap - (i + 1))) (.slice (some ⟨g, i * 5, none⟩) (n + 1 - i) (cap - i)) (by simp [Act.eval, Act.put]) (by simp [Act.eval, Act.put]) (HC1 3) ?_)
  go_wp2_with (at_builtin; refine wpList_copy_run _ rfl _ _ 38 38 rfl _ _ rfl rfl (HC2 _) ?_)
  go_ret
  exact ⟨_, rfl, HRW.out, HG3.out, fun q hq => by cases hq; exact .inr rfl⟩
theorem gins_end (v : Value) (a : Option Addr) (n c vb : Nat) (l : List Ru) (r : Ru) (w : World) (hv : v = .slice a n c) (h : URow 32 w 0 v l) (hn : l.length = n) (hc : n ≤ c) (hmax : n ≤ 1000) (hvb : BoxU 32 w vb r) :
    Calls Tryz.prog 233 #[v, .int .i64 (n : Int), .slice (some ⟨vb, 0, none⟩) 1 1] w
      (InsPG v (l ++ [r]) w) := by
  have hr : RuAt w (some ⟨vb, 0, none⟩) 1 1 [r] := ⟨rfl, Nat.le_refl _, by omega, .inr ⟨vb, 0, rfl, hvb.lt, fun j u hj => hvb.u5.to j u (by simpa [ruCs] using hj)⟩⟩
  obtain ⟨v', w', hrun, h2, h3, h4⟩ := run_append_sn w 38 v l h ⟨vb, 0, none⟩ 1 1 [r] hr (by omega) (by omega)
  have HR := hid (show InsPG v (l ++ [r]) w (.returned v') w' from ⟨v', rfl, h2, h3, h4⟩)
  subst hv
  obtain ⟨a', hsl⟩ : ∃ a', ∀ W : World, (Instr.slice 38 (.slice a n c) (some (.int .i64 (n : Int))) none none).run Tryz.prog W = .ok (.slice a' (n - n) (c - n)) W := ⟨if c = n then a else a.map (·.add (n * 5)), fun W => by
    rw [run_slice_l W 38 _ _ _ (by kernel_rfl) .i64 (n : Int) (by omega) (by omega), size_gu]
    simp [Result.andThen, sliced]⟩
  clear h hn hvb hr h2 h3 h4
  go_enter Tryz.func233, Tryz.ntmps233
  go_wp2_with (at_builtin; refine Lib.wpList_append_run _ rfl _ _ _ _ rfl _ _ rfl rfl _ _ hrun ?_)
  go_ret
  exact HR.out
theorem gins_any (v : Value) (vb i : Nat) (l : List Ru) (r : Ru) (w : World) (h : URow 32 w 0 v l) (hi : i ≤ l.length) (hmax : l.length ≤ 1000) (hvb : BoxU 32 w vb r) (hne : v.ownBlock ≠ some vb) :
    Calls Tryz.prog 233 #[v, .int .i64 (i : Int), .slice (some ⟨vb, 0, none⟩) 1 1] w (InsPG v (l.take i ++ r :: l.drop i) w) := by
  by_cases hie : i = l.length
  · subst hie
    obtain ⟨a, c, rfl, hr, _⟩ := h.shape
    have := gins_end _ a l.length c vb l r w rfl h rfl hr.2.1 hmax hvb
    rw [List.take_length, List.drop_length]
    exact this
  · have hl : l ≠ [] := fun e => by subst e; simp at hi hie; omega
    obtain ⟨g, cap, cur, rfl, _, hg, hle, hcm, hsz, htk⟩ := h.solid hl
    have hne' : vb ≠ g := fun e => hne (by simp [Value.ownBlock, e])
    by_cases hr : cap < l.length + 1
    · refine gins_grow g l.length cap vb i cur l r w rfl (by omega) hle hr hmax hg (fun j u hj => ?_) hvb hne'
      have := h.cells (g := g) rfl j u hj
      rw [show (⟨g, 0, none⟩ : Addr).add j = ⟨g, j, none⟩ from by simp [Addr.add]; omega] at this
      exact this
    · exact gins_room g l.length cap vb i cur.toList l r w rfl (by omega) (by omega) hcm hmax (by simpa using hg) (by rw [Array.length_toList]; exact hsz) htk hvb hne'
theorem MidAt.own_ne {w : World} {x bi bf : Nat} {F : Nat → Prop} {I : Tx → Option Ru} {O : Tx → List Ru} {K : Tx → Option Value} (h : MidAt w x bi bf F I O) (h3 : RowsAt w F O K) {s : Tx} {g : Nat} (e : (kV K s).ownBlock = some g) : F g ∧ g ≠ bi ∧ g ≠ bf := by
  refine ⟨h3.ownV e, ?_⟩
  unfold kV at e
  cases e3 : K s with
  | none => rw [e3] at e; cases e
  | some z =>
    rw [e3] at e
    obtain ⟨cs, f, hcs⟩ := h3.cells e3 e
    constructor
    · intro q
      obtain ⟨es, c, hmm⟩ := h.into.isMap
      rw [q, hmm] at hcs; cases hcs
    · intro q
      obtain ⟨es, c, hmm⟩ := h.from_.isMap
      rw [q, hmm] at hcs; cases hcs
def Six (w : World) (x B0 bf : Nat) (r : Ru) : Prop := w.cell? ⟨x, 1, none⟩ = some (mp bf) ∧ w.cell? ⟨B0, 0, none⟩ = some (.string (bs r.src)) ∧ w.cell? ⟨B0, 1, none⟩ = some (.string (bs r.dst)) ∧ w.cell? ⟨B0, 2, none⟩ = some (.int .i64 r.kind) ∧ w.cell? ⟨B0, 3, none⟩ = some (.int .i64 r.size) ∧ w.cell? ⟨B0, 4, none⟩ = some (.int .i64 r.align)
theorem sixG {w : World} {x B0 bi bf : Nat} {r : Ru} (h : GrCell w x bi bf) (k : BoxU 32 w B0 r) : Six w x B0 bf r := ⟨h.c1, k.x0, k.x1, k.x2, k.x3, k.x4⟩
theorem cells_far {w w' : World} {x B0 bi bf : Nat} {r : Ru} {v : Value} {n : Nat} (k : BoxU 32 w B0 r) (h : GrCell w x bi bf) (g : w.grownBy w' v.ownBlock) (hf : ∀ g, v.ownBlock = some g → g < n ∧ g ≠ B0 ∧ g ≠ x ∧ g ≠ bf) : Six w' x B0 bf r := by
  have t : Tu (fun i => v.ownBlock = some i) w w' := .gbo g (fun b e => e)
  exact sixG (h.tu t (fun e => (hf _ e).2.2.1 rfl)) (k.tu t (fun e => (hf _ e).2.1 rfl))
theorem cells_map {w w' : World} {x B0 b bf : Nat} {r : Ru} (k : Six w x B0 bf r) (g : w.grownBy w' (some b)) (hb : ∃ es c, w.heap[b]? = some (.map es c)) : Six w' x B0 bf r := by
  have t := Tu.gb (F := fun i => i = b) g rfl
  have hne : ∀ a v, w.cell? a = some v → ¬ (fun i => i = b) a.block := fun a v hc e => by
    obtain ⟨es, c, hm⟩ := hb
    unfold World.cell? at hc
    rw [show a.block = b from e, hm] at hc
    cases hc
  obtain ⟨h0, h1, h2, h3, h4, h5⟩ := k
  exact ⟨t.cell h0 (hne _ _ h0), t.cell h1 (hne _ _ h1), t.cell h2 (hne _ _ h2), t.cell h3 (hne _ _ h3), t.cell h4 (hne _ _ h4), t.cell h5 (hne _ _ h5)⟩
theorem bsearch_x (a : Option Addr) (n c : Nat) (l : List Ru) (d : Tx) (w : World) (h : RuAt w a n c l) (hn : n ≤ 1000) (hs : l.Pairwise (fun a b => a.dst < b.dst)) (k : Nat) (hk : atU l d = k) :
    Calls Tryz.prog 231 #[.slice a n c, .string (bs d), .func (.func 232) #[] #[]] w (SeaP k w) := by
  subst hk; exact bsearch_any a n c l d w h hn hs
theorem gput_ok (w : World) (x bi bf : Nat) (F : Nat → Prop) (L : List Ru) (r : Ru) (h : GrAt w x bi bf F L) (hL : L.length ≤ 900) (hr : addEG L r = 0) :
    Calls Tryz.prog 165 #[.pointer (some ⟨x, 0, none⟩), ruV r] w fun e w' => e = .returned (.tuple #[]) ∧ ∃ F', GrTurn w w' x bi bf F F' (insU r L) := by
  have hG := hid (h.good.ins hr)
  have hO := hid (fun j => of_ins_ne (s := j) h.good hr)
  have hS := hid (of_ins h.good hr)
  have hI := hid (into_ins h.good hr)
  have hD := hid (of_dst h.good r.src)
  have hLen : (ofL L r.src).length ≤ 900 := Nat.le_trans (ofL_le _ _) hL
  have B1 := (Below.refl w.heap.size w).alloc (Nat.le_refl _) (.cells #[.string (bs r.src), .string (bs r.dst), .int .i64 r.kind, .int .i64 r.size, .int .i64 r.align] 32)
  have X1 := BoxU.new 32 w r
  have M1 := h.mid.keep B1
  have hBx : x < w.heap.size := h.xlt
  have HM0 := hid h.mid
  have HFU := hid h.full
  clear h hL hr
  unfold ruV
  go_enter Tryz.func165, Tryz.ntmps165
  go_wp2_with fail
  generalize hW1 : w.alloc (.cells #[.string (bs r.src), .string (bs r.dst), .int .i64 r.kind, .int .i64 r.size, .int .i64 r.align] 32) = W1 at *
  have HB1 := hid B1
  have HM1 := hid M1
  have HX1 := hid X1
  clear hW1 B1 M1 X1
  generalize hBB : w.heap.size = B0 at *
  refine wp_region_still_tail 7 (by kernel_rfl) (by kernel_rfl) ?_
  simp only [List.take_succ_cons, List.take_zero, List.drop_succ_cons, List.drop_zero]
  change wpStill _ _ W1.drew (fun a' => wpList _ _ _ _ a' W1.drew) _ _
  have B2 := hid HB1.out.drew
  have M2 := hid (HM1.out.keep ((Below.refl _ W1).drew))
  have X2 := hid (HX1.out.keep ((Below.refl _ W1).drew))
  generalize W1.drew = W2 at *
  clear HB1 HM1 HX1
  have c0 := M2.out.cell.c0
  have x0 := X2.out.x0
  have x1 := X2.out.x1
  have x2 := X2.out.x2
  have x3 := X2.out.x3
  have x4 := X2.out.x4
  repeat still_step
  refine wpStill_nil ?_
  obtain ⟨LI, i1, i2⟩ := M2.out.into
  have HI1 := hid i1
  have HI2 := hid i2
  clear i1 i2
  go_wp2_with (first
    | (at_mapUpdate; refine wpList_mapUpdate_m _ rfl _ _ _ 173 rfl 9 32 Tryz.underlying173 Tryz.underlying9 bi _ rfl HI1.out r.dst _ rfl rfl (ruV r) rfl ?_; intro w3 hm3 g3 hs3))
  have M3 := hid (M2.out.turnI g3 (IntoAt.put HI2.out hm3 hI.out))
  have T3 := hid ((Tu.of (F := F) (by rw [hBB]; exact B2.out)).trans (Tu.gb g3 M2.out.fi) (fun _ _ f => f))
  have HFU3 := hid (show FullAt w3 bf (ofL L) from HFU.out.same ((g3.block bf M2.out.from_.lt (by simpa using fun e => M2.out.ne e.symm)).trans (B2.out.block bf (by have := HM0.out.from_.lt; omega))))
  have X3 := hid (X2.out.tu (Tu.gb (F := fun i => i = bi) g3 rfl) (fun e => by have := HM0.out.into.lt; omega))
  clear hm3 g3 hs3 HI1 HI2 M2 X2 B2 c0 x0 x1 x2 x3 x4
  obtain ⟨LF, K, f1, f2, f3⟩ := M3.out.from_
  obtain ⟨a, cap, e0, hr0, _⟩ := (f3.row r.src).shape
  have hlk : ∀ n, (Instr.lookup 174 (.map (some bf)) (.string (bs r.src)) false).run Tryz.prog (w3.drewN n) = .ok (.slice a (ofL L r.src).length cap) (w3.drewN n) := fun n => by
    have h := (show MapAt (w3.drewN n) bf LF from f1.same rfl).lookup Tryz.underlying174 Tryz.underlying9 (Tryz.zeroValue38 _) r.src false
    rw [h, f2, ← e0]; rfl
  have c1 := M3.out.cell.c1
  have x0 := X3.out.x0
  have x1 := X3.out.x1
  have HF1 := hid f1
  have HF2 := hid f2
  have HF3 := hid f3
  have HE0 := hid e0
  have HR0 := hid hr0
  obtain ⟨m, hm⟩ : ∃ m, (ofL L r.src).length = m := ⟨_, rfl⟩
  have HMl := hid hm
  rw [hm] at hlk hLen HE0 HR0
  clear f1 f2 f3 e0 hr0 hm
  go_quiet (fail)
  have hd4 : Below w3.heap.size w3 (w3.drewN nq) := gb_below_none ((show Drew w3 (w3.drewN nq) from ⟨nq, rfl⟩).gb none)
  generalize w3.drewN nq = W4 at *
  clear hlk c1 x0 x1
  obtain ⟨p, hp⟩ : ∃ p, atU (ofL L r.src) r.dst = p := ⟨_, rfl⟩
  have hpm : p ≤ m := by rw [← hp, ← HMl.out]; exact atU_le _ _
  have HSE := hid (fun W (hW : RuAt W a m cap (ofL L r.src)) => bsearch_x a m cap (ofL L r.src) r.dst W hW (by omega) hD.out p hp)
  rw [hp] at hS
  clear hp
  have X4 := hid (X3.out.keep hd4)
  have x1 := X4.out.x1
  have R4 := hid (HR0.out.keep hd4)
  go_wp2_with fail
  refine (HSE.out _ R4.out).mono ?_
  rintro e w5 ⟨fnd, rfl, b5⟩
  have B5 := hid (hd4.trans (b5.mono hd4.size))
  clear x1 X4 R4 HSE hd4 b5
  have X5 := hid (X3.out.keep B5.out)
  have x0 := X5.out.x0
  have x1 := X5.out.x1
  have x2 := X5.out.x2
  have x3 := X5.out.x3
  have x4 := X5.out.x4
  have c1 := (M3.out.keep B5.out).cell.c1
  have hB05 : B0 < w5.heap.size := X5.out.lt
  have B6 := hid (show Below w3.heap.size w3 (w5.alloc (.cells #[.string (bs r.src), .string (bs r.dst), .int .i64 r.kind, .int .i64 r.size, .int .i64 r.align] 32)).drew from (B5.out.alloc B5.out.size _).drew)
  have X6 := hid (show BoxU 32 (w5.alloc (.cells #[.string (bs r.src), .string (bs r.dst), .int .i64 r.kind, .int .i64 r.size, .int .i64 r.align] 32)).drew w5.heap.size r from BoxU.new 32 w5 r)
  have R6 := hid (show URow 32 (w5.alloc (.cells #[.string (bs r.src), .string (bs r.dst), .int .i64 r.kind, .int .i64 r.size, .int .i64 r.align] 32)).drew 0 (.slice a m cap) (ofL L r.src) from by
    have h := (HF3.out.row r.src).keep B6.out
    rw [HE0.out] at h
    exact h)
  have HOW := hid (show ∀ g, (Value.slice a m cap).ownBlock = some g → g < w3.heap.size ∧ g ≠ B0 ∧ g ≠ x ∧ g ≠ bf from fun g hg => by
    rw [← HE0.out] at hg
    obtain ⟨hf, h1, h2⟩ := M3.out.own_ne HF3.out hg
    refine ⟨M3.out.lt g hf, fun e => ?_, fun e => M3.out.nx (e ▸ hf), h2⟩
    have := HM0.out.lt g hf
    omega)
  have HIN := hid (gins_any (.slice a m cap) w5.heap.size p (ofL L r.src) r _ R6.out (by rw [HMl.out]; exact hpm) (by rw [HMl.out]; omega) X6.out (fun e => by
    have := (HOW.out _ e).1
    have := B5.out.size
    omega))
  have X6b := hid (X3.out.keep B6.out)
  have C6b := hid ((M3.out.keep B6.out).cell)
  go_wp2_with fail
  go_region_held3 (fun w' => w'.cell? ⟨x, 1, none⟩ = some (mp bf) ∧ w'.cell? ⟨B0, 0, none⟩ = some (.string (bs r.src)) ∧ w'.cell? ⟨B0, 1, none⟩ = some (.string (bs r.dst)) ∧ w'.cell? ⟨B0, 2, none⟩ = some (.int .i64 r.kind) ∧ w'.cell? ⟨B0, 3, none⟩ = some (.int .i64 r.size) ∧ w'.cell? ⟨B0, 4, none⟩ = some (.int .i64 r.align))
    (first
      | exact HE7.out
      | exact HE6.out
      | go_keep)
    (first
      | (go_at_call 233
         (with_reducible refine HIN.out.mono ?_)
         rintro e W6 ⟨v', rfl, r6, g6, n6⟩
         have HE6 := hid (cells_far X6b.out C6b.out g6 HOW.out)
         have HM6 := hid ((HF1.out.keep B6.out).gb g6 (fun e => (HOW.out _ e.symm).2.2.2 rfl))
         obtain ⟨w7, hrun7, hm7, g7, hs7⟩ := HM6.out.update (P := Tryz.prog) Tryz.underlying174 Tryz.underlying9 r.src v'
         have HE7 := hid (cells_map HE6.out g7 HM6.out.isMap))
      | fail)
  rw [← HE0.out] at g6 n6
  obtain ⟨e1, e2, e3⟩ := M3.out.putO HF2.out HF3.out B6.out g6 r6 n6 hm7 g7 (O' := ofL (insU r L)) (fun j => by
    by_cases hj : j = r.src
    · rw [if_pos hj, hj]; exact hS.out
    · rw [if_neg hj]; exact hO.out j hj)
  have E := hid (show GrTurn w w7 x bi bf F (FO F _ v') (insU r L) from
    ⟨⟨e1, hG.out, HFU3.out.ups HF1.out hm7 hO.out (by rw [hS.out]; simp)⟩, fun i hi => (e2 i hi).imp id (fun q => Nat.le_trans T3.out.size q), T3.out.trans e3 (fun _ _ f => f)⟩)
  clear HIN X6b C6b HE6 HE7 HM6 r6 g6 n6 hrun7 hm7 g7 hs7 e1 e2 e3 R6 X6 B6 c1 x0 x1 x2 x3 x4
  go_end0
  exact ⟨rfl, _, E.out⟩
end Go.Proofs.YtmifpfojhlmbkaaGreat
