/-
  Contracts.
-/
import Derived.Test.YtmifpfojhlmbkaaGreatJ10
import Derived.Test.YtmifpfojhlmbkaaGreatJ11
import Derived.Test.YtmifpfojhlmbkaaGreatJ13
import Derived.Test.YtmifpfojhlmbkaaGreatJ14
import Derived.Lib.Overlaps
import Derived.Shelf.RegionOpenPlain
import Derived.Shelf.Abstract
namespace Go.Proofs.YtmifpfojhlmbkaaGreat
open Lib (hid)
set_option maxRecDepth 100000
set_option maxHeartbeats 16000000
open Go.RowKit
set_option linter.unusedVariables false
set_option linter.unusedSimpArgs false
theorem begun_test (a : Option Addr) (len cap : Nat) (L : List (Nat × List (Int × Int))) (sz t : Int) (i cb ct : Nat) (w : World) (hp : Ptrs w a len cap (bl L)) (hc : Chs w sz L) (hs : 1 ≤ sz) (hn : (zs L).flatten.length ≤ 1048576) (hi : i < len)
    (cl : w.cell? ⟨cb, 0, none⟩ = some (.slice a len cap)) (cT : w.cell? ⟨ct, 0, none⟩ = some (.int .i64 t)) :
    Calls Tryz.prog 204 #[.int .i64 (i : Int), .pointer (some ⟨cb, 0, none⟩), .pointer (some ⟨ct, 0, none⟩)] w fun e w' => e = .returned (.bool (decide (t < tOf ((zs L).getD i []) 0))) ∧ Below w.heap.size w w' := by
  obtain ⟨p, o, rfl, hpb, x0⟩ := hp.at_ i hi
  unfold ptr at x0
  have hi0 : (0 : Int) ≤ (i : Int) := by omega
  have hi1 : (i : Int) < (len : Int) := by omega
  have hl := hp.2.2.1
  have hck := hc.get (i := i) (by rw [← bl_len, hp.1]; exact hi)
  have hzl : ((zs L).getD i []).length ≤ 1048576 := Nat.le_trans (flat_len_get _ _) hn
  generalize (bl L).getD i 0 = q at *
  generalize (zs L).getD i [] = z at *
  have htl := World.block_lt_of_cell? w _ cT
  have HK := hid hck
  clear hp hc hck
  go_enter Tryz.func204, Tryz.ntmps204
  go_wp2_with fail
  refine (first_ok q sz z _ HK.out hs hzl).mono ?_
  rintro e W1 ⟨rfl, b1⟩
  have cT1 := (b1.cell htl).trans cT
  generalize decide (0 < z.length) = r0
  obtain ⟨t0, ht0⟩ : ∃ t0, tOf z 0 = t0 := ⟨_, rfl⟩
  rw [ht0]
  have HT0 := hid ht0
  clear ht0
  generalize vOf z 0 = v0 at *
  have cT2 : (W1.alloc (.cells #[.int .i64 t0, .int .i64 v0] 27)).cell? ⟨ct, 0, none⟩ = some (.int .i64 t) := by rw [((Below.refl W1.heap.size W1).alloc (Nat.le_refl _) _).cell (Nat.lt_of_lt_of_le htl b1.size)]; exact cT1
  have B2 := b1.alloc b1.size (.cells #[.int .i64 t0, .int .i64 v0] 27)
  clear cl cT x0 cT1 b1
  go_wp2
  go_ret
  exact ⟨ret_bool (by rw [HT0.out]), B2⟩
theorem begun_any (a : Option Addr) (len cap : Nat) (L : List (Nat × List (Int × Int))) (sz t : Int) (w : World) (hp : Ptrs w a len cap (bl L)) (hc : Chs w sz L) (hs : 1 ≤ sz) (hn : (zs L).flatten.length ≤ 1048576) (hr : Rising (zs L).flatten) (he : ∀ z ∈ zs L, z ≠ []) (hlen : len ≤ 1048576) :
    Calls Tryz.prog 135 #[.slice a len cap, .int .i64 t] w (SearchP (begL (zs L) t) w) := by
  have HL := hid (show (zs L).length = len from by rw [zs_len, ← bl_len, hp.1])
  have hle : begL (zs L) t ≤ len := by rw [← HL.out]; exact begL_le _ t
  have HI := hid (begL_iff hr he t)
  have hp3 := (hp.keepN (World.grownBy_alloc w (.cells #[.slice a len cap] 116) none)).keepN (World.grownBy_alloc _ (.cells #[.int .i64 t] 3) none)
  have hc3 := (hc.keepN (World.grownBy_alloc w (.cells #[.slice a len cap] 116) none)).keepN (World.grownBy_alloc _ (.cells #[.int .i64 t] 3) none)
  have B1 := ((Below.refl w.heap.size w).alloc (Nat.le_refl _) (.cells #[.slice a len cap] 116)).alloc (by simp) (.cells #[.int .i64 t] 3)
  have cl : ((w.alloc (.cells #[.slice a len cap] 116)).alloc (.cells #[.int .i64 t] 3)).cell? ⟨w.heap.size, 0, none⟩ = some (.slice a len cap) := by rw [cell_of (heap_old (heap_new w _))]; rfl
  have ct : ((w.alloc (.cells #[.slice a len cap] 116)).alloc (.cells #[.int .i64 t] 3)).cell? ⟨w.heap.size + 1, 0, none⟩ = some (.int .i64 t) := by
    have h := heap_new (w.alloc (.cells #[.slice a len cap] 116)) (.cells #[.int .i64 t] 3)
    rw [show (w.alloc (.cells #[.slice a len cap] 116)).heap.size = w.heap.size + 1 from by simp] at h
    rw [cell_of h]; rfl
  have HSZ : w.heap.size + 1 < ((w.alloc (.cells #[.slice a len cap] 116)).alloc (.cells #[.int .i64 t] 3)).heap.size := by simp
  clear hp hc hr
  generalize hW : ((w.alloc (.cells #[.slice a len cap] 116)).alloc (.cells #[.int .i64 t] 3)) = W1 at *
  have HC := hid cl
  have HT := hid ct
  have HW := hid hW
  have HP := hid hp3
  have HK := hid hc3
  clear cl ct hW hp3 hc3
  go_enter Tryz.func135, Tryz.ntmps135
  go_wp2_with fail
  rw [HW.out]
  refine (search_any len (begL (zs L) t) 204 _ W1 (by omega) hle (enters_of Tryz.func204 (by kernel_rfl) rfl) ?_).mono ?_
  · intro i wr hi hb
    refine (begun_test a len cap L sz t i w.heap.size (w.heap.size + 1) wr (HP.out.keepB hb) (HK.out.keepB hb) hs hn hi (by rw [hb.cell (by simp; omega)]; exact HC.out) (by rw [hb.cell HSZ]; exact HT.out)).mono ?_
    rintro e w' ⟨rfl, b⟩
    refine ⟨ret_bool ?_, b⟩
    have := HI.out i (by rw [HL.out]; exact hi)
    apply decide_eq_decide.2
    omega
  · rintro e w' ⟨rfl, b⟩
    have B2 := B1.trans (b.mono (by omega))
    clear B1 b
    go_wp2
    go_ret
    exact ⟨rfl, B2⟩
theorem ret_two {a b c d : Int} (h : a = c) (k : b = d) : Ending.returned (.tuple #[.int .i64 a, .int .i64 b]) = .returned (.tuple #[.int .i64 c, .int .i64 d]) := by rw [h, k]
def WinP (x y : Nat) (w : World) (e : Ending) (w' : World) : Prop := e = .returned (.tuple #[.int .i64 (x : Int), .int .i64 (y : Int)]) ∧ Below w.heap.size w w'
theorem window_any (a : Option Addr) (len cap : Nat) (L : List (Nat × List (Int × Int))) (sz f t : Int) (w : World) (hp : Ptrs w a len cap (bl L)) (hc : Chs w sz L) (hs : 1 ≤ sz) (hn : (zs L).flatten.length ≤ 1048576) (hr : Rising (zs L).flatten) (he : ∀ z ∈ zs L, z ≠ []) (hlen : len ≤ 1048576) :
    Calls Tryz.prog 69 #[.slice a len cap, .int .i64 f, .int .i64 t] w (WinP (winA (zs L) f t) (winB (zs L) f t) w) := by
  by_cases h : t < f
  · have hA : winA (zs L) f t = 0 := by unfold winA; rw [if_pos h]
    have hB : winB (zs L) f t = 0 := by unfold winB; rw [if_pos h]
    rw [hA, hB]
    clear hp hc
    go_enter Tryz.func69, Tryz.ntmps69
    go_wp2
    go_ret2
    exact ⟨rfl, Below.refl _ _⟩
  · have hA : winA (zs L) f t = begL (zs L) f - 1 := by unfold winA; rw [if_neg h]
    have hB : winB (zs L) f t = begL (zs L) t := by unfold winB; rw [if_neg h]
    have hle1 : begL (zs L) f ≤ 1048576 := by have := begL_le (zs L) f; rw [zs_len, ← bl_len, hp.1] at this; omega
    have hle2 : begL (zs L) t ≤ 1048576 := by have := begL_le (zs L) t; rw [zs_len, ← bl_len, hp.1] at this; omega
    rw [hA, hB]
    have HP := hid hp
    have HK := hid hc
    have HR := hid hr
    have HE := hid he
    clear hp hc hA hB hr he
    go_enter Tryz.func69, Tryz.ntmps69
    go_wp2_with fail
    refine (begun_any a len cap L sz f w HP.out HK.out hs hn HR.out HE.out hlen).mono ?_
    rintro e W1 ⟨rfl, b1⟩
    have HB1 := hid b1
    generalize hk1 : begL (zs L) f = k1 at *
    have hn1 : ((k1 : Int) - 1 ≤ 0) ∨ ¬ ((k1 : Int) - 1 ≤ 0) := by omega
    rcases hn1 with hn1 | hn1
    all_goals
      have hn2 : (0 ≤ (k1 : Int) - 1) ∨ ¬ (0 ≤ (k1 : Int) - 1) := by omega
      rcases hn2 with hn2 | hn2
    all_goals
      go_wp2_with fail
      refine (begun_any a len cap L sz t _ (HP.out.keepB HB1.out) (HK.out.keepB HB1.out) hs hn HR.out HE.out hlen).mono ?_
      rintro e W2 ⟨rfl, b2⟩
      have B2 := HB1.out.trans (b2.mono HB1.out.size)
      generalize begL (zs L) t = k2 at *
      clear b2 HB1
      go_wp2
      go_ret2
      exact ⟨ret_two (by omega) rfl, B2⟩
theorem wpList_copy_run {P : Program} (w : World) {ops : Array Oper} {rest : List Oper} {o : Oper} {a : Act} {Q : Exit → Act → World → Prop} (hgd : o.guard = none) (d s : Operand) (t t' : TypeId)
    (ho : o.op = .call { callee := .builtin .copy, args := #[d, s], argTypes := #[t, t'] }) (v u : Value) (hd : a.eval d = v) (hs : a.eval s = u) {v' : Value} {w' : World}
    (hr : (Builtin.copy_ #[t, t'] o.type #[v, u]).run P w = .ok v' w') (h : wpList P ops Q rest (a.put o.dst v') w') : wpList P ops Q (o :: rest) a w := by
  refine wpList_plain hgd fun K hK => ?_
  unfold Oper.wp execOp
  simp only [ho, resolve, invoke, builtin, Sem.run_bind, Sem.run_pure, Result.andThen_ok, List.map_toArray, List.map_cons, List.map_nil, hd, hs, hr]
  exact hK _ _ h
theorem step_copy_run {P : Program} {ops : Array Oper} {o : Oper} {a : Act} {w : World} {K : Act → World → Prop} {Q : Exit → Act → World → Prop} {E : Prop}
    (hg : o.guard = none) (d x : Operand) (dT sT : TypeId) (hop : o.op = Op.call { callee := Callee.builtin Builtin.copy, args := #[d, x], argTypes := #[dT, sT] })
    (v u : Value) (hd : a.eval d = v) (hx : a.eval x = u) {v' : Value} {w' : World} (hr : (Builtin.copy_ #[dT, sT] o.type #[v, u]).run P w = .ok v' w') (hK : K (a.put o.dst v') w') :
    if Region.wanted o (yielded ops a.tmps) = true then Oper.wp P o a w K Q else E := by
  have hw : Region.wanted o (yielded ops a.tmps) = true := by simp [Region.wanted, hg]
  rw [if_pos hw]
  unfold Oper.wp
  simp [execOp, hop, resolve, invoke, builtin, hd, hx, hr, Result.andThen]
  exact hK
def InsRowP (base : Nat) (v : Value) (bs : List Nat) (w : World) (e : Ending) (w' : World) : Prop := ∃ v', e = .returned v' ∧ PRow w' base v' bs ∧ w.grownBy w' v.ownBlock
theorem insert_grow (g n cap vb c : Nat) (cur : Array Value) (bs : List Nat) (w : World) (base : Nat) (hn : bs.length = n) (hn0 : 0 < n) (hcap : n ≤ cap) (hroom : cap < n + 1) (hmax : n ≤ 524288) (hg : w.heap[g]? = some (.cells cur 119 (0, 0)))
    (htk : ∀ i (h : i < bs.length), cur[i]? = some (ptr bs[i])) (hvb : w.heap[vb]? = some (.cells #[ptr c] 119 (0, 0))) (hne : vb ≠ g) (hbase : base ≤ w.heap.size) :
    Calls Tryz.prog 309 #[.slice (some ⟨g, 0, none⟩) n cap, .int .i64 0, .slice (some ⟨vb, 0, none⟩) 1 1] w
      (InsRowP base (.slice (some ⟨g, 0, none⟩) n cap) (c :: bs) w) := by
  obtain ⟨i0, hi, hz0, hz1, hz2⟩ := info_parts info_ptr
  have hglt := heap_lt hg
  have hvlt := heap_lt hvb
  have hrz : ∀ ty, (Builtin.append_ #[116, 3] ty #[.slice (some ⟨g, 0, none⟩) 0 cap, .int .i64 ((n : Int) + 1)]).run Tryz.prog w =
      .ok (.slice (some ⟨w.heap.size, 0, none⟩) (n + 1) (grownCap w (n + 1) cap 119)) (w.drew.alloc (.cells (([] : List Value).toArray ++ Builtin.zeroCells (Value.pointer none).cells (n + 1) ++ Builtin.zeroCells (Value.pointer none).cells (grownCap w (n + 1) cap 119 - (n + 1))) 119)) := fun ty => by
    have h := Lib.run_append_grow_zeros w 116 3 ty 119 i0 _ .i64 .i64 Tryz.underlying116 Tryz.underlying3 hi hz0 (some ⟨g, 0, none⟩) 0 cap [] (run_firstCells_some w.drew i0.size 0 ⟨g, 0, none⟩ 0 cap [] (by simp) (by simp)) (n + 1) (by omega) (by omega) (by omega) (by omega) (by rw [hz2]; omega) (by rw [hz2]; exact growslice_fits (by omega) (by omega))
    rw [Nat.zero_add] at h
    exact h
  have hGn := grownCap_ge w (n + 1) cap 119
  have hGm := grownCap_le_maxLen w (n + 1) cap 119 (by unfold maxLen; omega)
  obtain ⟨G, hG⟩ : ∃ G, grownCap w (n + 1) cap 119 = G := ⟨_, rfl⟩
  rw [hG] at hrz hGn hGm
  obtain ⟨ROW, hROW⟩ : ∃ ROW : List Value, ([] : List Value).toArray ++ Builtin.zeroCells (Value.pointer none).cells (n + 1) ++ Builtin.zeroCells (Value.pointer none).cells (G - (n + 1)) = ROW.toArray := ⟨_, (Array.toArray_toList).symm⟩
  have hsz : ROW.length = G := by
    have := congrArg Array.size hROW
    simp [Builtin.zeroCells, Value.cells] at this
    omega
  rw [hROW] at hrz
  have hG63 : G ≤ 9223372036854775807 := by unfold maxLen at hGm; omega
  have HGM := hid hGm
  have HG := hid (show (w.alloc (.cells ROW.toArray 119)).drew.heap[w.heap.size]? = some (.cells ROW.toArray 119 (0, 0)) from heap_new w _)
  have HB := hid (show Below w.heap.size w (w.alloc (.cells ROW.toArray 119)).drew from ((Below.refl w.heap.size w).alloc (Nat.le_refl _) _).drew)
  have HV := hid hvb
  have HS := hid hg
  have HTK := hid htk
  have HN := hid hn
  have hz1' : ¬ ((0 : Int) = (n : Int)) := by omega
  have hz3 : (cap : Int) < (n : Int) + 1 := by omega
  clear hG hROW hi hz0 hz1 hz2 hGm hvb hg htk hn
  go_enter Tryz.func309, Tryz.ntmps309
  have HSRC := hid (show ∀ j v, ([ptr c] : List Value)[j]? = some v → (w.alloc (.cells ROW.toArray 119)).drew.cell? ((⟨vb, 0, none⟩ : Addr).add j) = some v from fun j v hj => by
    obtain ⟨hlt, _⟩ := List.getElem?_eq_some_iff.1 hj
    have hj0 : j = 0 := by simp at hlt; exact hlt
    subst hj0
    rw [show (⟨vb, 0, none⟩ : Addr).add 0 = ⟨vb, 0, none⟩ from rfl, HB.out.cell hvlt, cell_of HV.out]; exact hj)
  have HC1 : ∀ ty, (Builtin.copy_ #[116, 116] ty #[.slice (some ⟨w.heap.size, 0, none⟩) (n + 1) G, .slice (some ⟨vb, 0, none⟩) 1 1]).run Tryz.prog (w.alloc (.cells ROW.toArray 119)).drew = .ok (goInt 1) ((w.alloc (.cells ROW.toArray 119)).drew.setRow w.heap.size (splice ROW 0 [ptr c]).toArray) := fun ty => by
    have h := run_copy_wide (P := Tryz.prog) (w.alloc (.cells ROW.toArray 119)).drew 116 116 ty 119 w.heap.size 0 (n + 1) G ⟨vb, 0, none⟩ 1 1 ROW.toArray 119 [ptr c] 1 1 Tryz.underlying116 (by kernel_rfl) HG.out (by show 1 = min 1 (n + 1); omega) rfl HSRC.out (by simp; omega) (by intro u hu; simp at hu; subst hu; rfl)
    simpa [splice] using h
  go_wp2_with (first
    | (at_builtin; refine Lib.wpList_append_run _ rfl _ _ _ _ rfl _ _ rfl rfl _ _ (hrz _) ?_)
    | (at_builtin; refine wpList_copy_run _ rfl _ _ 116 116 rfl _ _ rfl rfl (HC1 _) ?_))
  have B2 : Below w.heap.size w ((w.alloc (.cells ROW.toArray 119)).drew.setRow w.heap.size (splice ROW 0 [ptr c]).toArray) := below_setRow HB.out (Nat.le_refl _) _
  have h2 : ((w.alloc (.cells ROW.toArray 119)).drew.setRow w.heap.size (splice ROW 0 [ptr c]).toArray).heap[w.heap.size]? = some (.cells (splice ROW 0 [ptr c]).toArray 119 (0, 0)) := setRow_heap _ _ _ _ _ _ HG.out
  generalize (w.alloc (.cells ROW.toArray 119)).drew.setRow w.heap.size (splice ROW 0 [ptr c]).toArray = W2 at *
  have hG1 : ¬ (G = 1) := by omega
  have hc0 : ¬ (cap = 0) := by omega
  have hGn' : (1 : Int) ≤ (n : Int) + 1 := by omega
  have hsp : (splice ROW 0 [ptr c]).length = G := by rw [length_splice _ _ _ (by simp; omega)]; exact hsz
  have hs2 := B2.size
  have HS2 := hid (show W2.heap[g]? = some (.cells cur 119 (0, 0)) from by rw [B2.block g hglt]; exact HS.out)
  have HSP := hid (show splice ROW 0 [ptr c] = ptr c :: ROW.drop 1 from by simp [splice])
  generalize splice ROW 0 [ptr c] = R2 at *
  have HSRC2 : ∀ j v, (bs.map ptr)[j]? = some v → W2.drew.cell? ((⟨g, 0, none⟩ : Addr).add j) = some v := fun j v hj => by
    rw [List.getElem?_map] at hj
    cases hb : bs[j]? with
    | none => rw [hb] at hj; cases hj
    | some q =>
      rw [hb] at hj
      obtain ⟨hlt, hq⟩ := List.getElem?_eq_some_iff.1 hb
      have hx := HTK.out j hlt
      rw [hq] at hx
      rw [show (⟨g, 0, none⟩ : Addr).add j = ⟨g, j, none⟩ from by simp [Addr.add]; omega]
      show W2.cell? ⟨g, j, none⟩ = _
      rw [cell_of HS2.out, hx]; exact hj
  have HC2 : ∀ ty, (Builtin.copy_ #[116, 116] ty #[.slice (some ⟨w.heap.size, 1, none⟩) n (G - 1), .slice (some ⟨g, 0, none⟩) n cap]).run Tryz.prog W2.drew = .ok (goInt n) (W2.drew.setRow w.heap.size (splice R2 1 (bs.map ptr)).toArray) := fun ty => by
    have h := run_copy_wide (P := Tryz.prog) W2.drew 116 116 ty 119 w.heap.size 1 n (G - 1) ⟨g, 0, none⟩ n cap R2.toArray 119 (bs.map ptr) n 1 Tryz.underlying116 (by kernel_rfl) h2 (by show n = min n n; omega) (by rw [List.length_map, HN.out]; omega) HSRC2 (by simp; rw [HN.out, hsp]; omega) (by intro u hu; obtain ⟨q, _, rfl⟩ := List.mem_map.1 hu; rfl)
    simpa [splice] using h
  have h3 : (W2.drew.setRow w.heap.size (splice R2 1 (bs.map ptr)).toArray).heap[w.heap.size]? = some (.cells (splice R2 1 (bs.map ptr)).toArray 119 (0, 0)) := setRow_heap W2.drew _ _ _ _ _ h2
  have B3 : Below w.heap.size w (W2.drew.setRow w.heap.size (splice R2 1 (bs.map ptr)).toArray) := below_setRow B2.drew (Nat.le_refl _) _
  have HR : Hid (PRow (W2.drew.setRow w.heap.size (splice R2 1 (bs.map ptr)).toArray) base (.slice (some ⟨w.heap.size, 0, none⟩) (n + 1) G) (c :: bs)) := hid ⟨by simp, .inr ⟨w.heap.size, G, (splice R2 1 (bs.map ptr)).toArray, by simp [HN.out], hbase, h3, by simp [HN.out]; omega, HGM.out, by simp; rw [length_splice _ _ _ (by rw [List.length_map, HN.out, hsp]; omega)]; exact hsp, by
    rw [HSP.out]
    simp [splice, List.take_append, HN.out]⟩⟩
  have HB3 := hid B3
  clear HG HB HSRC hrz HC1 h2 h3 B2 B3 HSRC2
  generalize hW3 : W2.drew.setRow w.heap.size (splice R2 1 (bs.map ptr)).toArray = W3 at *
  have hsl1 : ∀ W : World, (Instr.slice 116 (.slice (some ⟨w.heap.size, 0, none⟩) (n + 1) G) (some (.int .i64 1)) none none).run Tryz.prog W = .ok (.slice (some ⟨w.heap.size, 1, none⟩) n (G - 1)) W := fun W => by
    rw [run_slice_l W 116 _ _ _ (by kernel_rfl) .i64 (1 : Int) (by omega) (by omega), size_ptr]
    simp [Result.andThen, sliced, hG1, Addr.add]
  have hsl0 : ∀ W : World, (Instr.slice 116 (.slice (some ⟨g, 0, none⟩) n cap) (some (.int .i64 0)) none none).run Tryz.prog W = .ok (.slice (some ⟨g, 0, none⟩) n cap) W := fun W => by
    rw [run_slice_l W 116 _ _ _ (by kernel_rfl) .i64 (0 : Int) (by omega) (by omega), size_ptr]
    simp [Result.andThen, sliced, hc0, Addr.add]
  have hwr : IntKind.i64.wrap 1 = 1 := by decide
  go_region_law (refine step_copy_run rfl _ _ 116 116 rfl (.slice (some ⟨w.heap.size, 1, none⟩) n (G - 1)) (.slice (some ⟨g, 0, none⟩) n cap) (by simp [Act.eval, Act.put]) (by simp [Act.eval, Act.put]) (HC2 3) ?_)
  go_wp2
  go_ret
  exact ⟨_, rfl, HR.out, gb_below HB3.out⟩
theorem insert_room (g n cap vb c : Nat) (cur : Array Value) (bs : List Nat) (w : World) (base : Nat) (hn : bs.length = n) (hn0 : 0 < n) (hroom : n + 1 ≤ cap) (hcm : cap ≤ maxLen) (hmax : n ≤ 524288) (hg : w.heap[g]? = some (.cells cur 119 (0, 0))) (hcs : cur.size = cap)
    (htk : ∀ i (h : i < bs.length), cur[i]? = some (ptr bs[i])) (hvb : w.heap[vb]? = some (.cells #[ptr c] 119 (0, 0))) (hne : vb ≠ g) (hbase : base ≤ g) :
    Calls Tryz.prog 309 #[.slice (some ⟨g, 0, none⟩) n cap, .int .i64 0, .slice (some ⟨vb, 0, none⟩) 1 1] w
      (InsRowP base (.slice (some ⟨g, 0, none⟩) n cap) (c :: bs) w) := by
  have hglt := heap_lt hg
  have hvlt := heap_lt hvb
  obtain ⟨cl, rfl⟩ : ∃ cl : List Value, cur = cl.toArray := ⟨cur.toList, (Array.toArray_toList).symm⟩
  have hcl : cl.length = cap := by simpa using hcs
  have hov : ∀ lb cb, (callFunc 333 #[.slice (some ⟨vb, 0, none⟩) 1 1, .slice (some ⟨g, 1, none⟩) lb cb]).run Tryz.prog w = .ok (.value (.bool false)) w := fun lb cb => by
    rw [run_callFunc_extern Tryz.func333 (by kernel_rfl) (by kernel_rfl) (by kernel_rfl) (e := Extern.SlicesOverlaps.overlaps #[116, 116] #[4]) (by kernel_rfl),
      Lib.run_overlaps_apart w 116 4 119 Tryz.underlying116 1 size_ptr ⟨vb, 0, none⟩ ⟨g, 1, none⟩ 1 1 lb cb hne 119 119 1 cap (by simp [World.shape?, hvb]) (by simp [World.shape?, hg, hcl]) (by omega) (by simp [World.frozen?, hvb]) (by simp [World.frozen?, hvb])]
    rfl
  have hc0 : ¬ (cap = 0) := by omega
  have hc1 : ¬ (cap = 1) := by omega
  have hz1' : ¬ ((0 : Int) = (n : Int)) := by omega
  have hz3 : ¬ ((cap : Int) < (n : Int) + 1) := by omega
  have hcap63 : cap ≤ 9223372036854775807 := by unfold maxLen at hcm; omega
  have hwr : IntKind.i64.wrap 1 = 1 := by decide
  have HV := hid hvb
  have HS := hid hg
  have HTK := hid htk
  have HN := hid hn
  clear hvb hg htk hn hcs
  go_enter Tryz.func309, Tryz.ntmps309
  go_wp2_with fail
  have HSRC1 : ∀ j v, (bs.map ptr)[j]? = some v → w.drew.cell? ((⟨g, 0, none⟩ : Addr).add j) = some v := fun j v hj => by
    rw [List.getElem?_map] at hj
    cases hb : bs[j]? with
    | none => rw [hb] at hj; cases hj
    | some q =>
      rw [hb] at hj
      obtain ⟨hlt, hq⟩ := List.getElem?_eq_some_iff.1 hb
      have hx := HTK.out j hlt
      rw [hq] at hx
      rw [show (⟨g, 0, none⟩ : Addr).add j = ⟨g, j, none⟩ from by simp [Addr.add]; omega]
      show w.cell? ⟨g, j, none⟩ = _
      rw [cell_of HS.out, hx]; exact hj
  have HC1 : ∀ ty, (Builtin.copy_ #[116, 116] ty #[.slice (some ⟨g, 1, none⟩) n (cap - 1), .slice (some ⟨g, 0, none⟩) (n + 1) cap]).run Tryz.prog w.drew = .ok (goInt n) (w.drew.setRow g (splice cl 1 (bs.map ptr)).toArray) := fun ty => by
    have h := run_copy_wide (P := Tryz.prog) w.drew 116 116 ty 119 g 1 n (cap - 1) ⟨g, 0, none⟩ (n + 1) cap cl.toArray 119 (bs.map ptr) n 1 Tryz.underlying116 (by kernel_rfl) HS.out (by show n = min (n + 1) n; omega) (by rw [List.length_map, HN.out]; omega) HSRC1 (by simp; rw [HN.out, hcl]; omega) (by intro u hu; obtain ⟨q, _, rfl⟩ := List.mem_map.1 hu; rfl)
    simpa [splice] using h
  have h2 : (w.drew.setRow g (splice cl 1 (bs.map ptr)).toArray).heap[g]? = some (.cells (splice cl 1 (bs.map ptr)).toArray 119 (0, 0)) := setRow_heap w.drew _ _ _ _ _ HS.out
  have g2 : w.grownBy (w.drew.setRow g (splice cl 1 (bs.map ptr)).toArray) (some g) := ⟨rfl, rfl, rfl, by simp [World.setRow], fun k hk hr => setRow_other w.drew g k _ (by intro e; exact hr (by rw [e]))⟩
  have hl2 : (splice cl 1 (bs.map ptr)).length = cap := by rw [length_splice _ _ _ (by rw [List.length_map, HN.out, hcl]; omega)]; exact hcl
  have HT2 := hid (show (splice cl 1 (bs.map ptr)).drop 1 = bs.map ptr ++ cl.drop (1 + n) from by
    have : (cl.take 1).length = 1 := by simp; omega
    simp [splice, List.drop_append, this, HN.out])
  generalize splice cl 1 (bs.map ptr) = R2 at *
  generalize hW2 : w.drew.setRow g R2.toArray = W2 at *
  have hv2 : W2.heap[vb]? = some (.cells #[ptr c] 119 (0, 0)) := by rw [g2.block vb hvlt (by simp; exact hne)]; exact HV.out
  have HC2 : ∀ ty, (Builtin.copy_ #[116, 116] ty #[.slice (some ⟨g, 0, none⟩) (n + 1) cap, .slice (some ⟨vb, 0, none⟩) 1 1]).run Tryz.prog W2 = .ok (goInt 1) (W2.setRow g (splice R2 0 [ptr c]).toArray) := fun ty => by
    have h := run_copy_wide (P := Tryz.prog) W2 116 116 ty 119 g 0 (n + 1) cap ⟨vb, 0, none⟩ 1 1 R2.toArray 119 [ptr c] 1 1 Tryz.underlying116 (by kernel_rfl) h2 (by show 1 = min 1 (n + 1); omega) rfl (fun j v hj => by
      obtain ⟨hlt, _⟩ := List.getElem?_eq_some_iff.1 hj
      have hj0 : j = 0 := by simp at hlt; exact hlt
      subst hj0
      rw [show (⟨vb, 0, none⟩ : Addr).add 0 = ⟨vb, 0, none⟩ from rfl, cell_of hv2]; exact hj) (by simp; omega) (by intro u hu; simp at hu; subst hu; rfl)
    simpa [splice] using h
  have h3 : (W2.setRow g (splice R2 0 [ptr c]).toArray).heap[g]? = some (.cells (splice R2 0 [ptr c]).toArray 119 (0, 0)) := setRow_heap W2 _ _ _ _ _ h2
  have g3 : w.grownBy (W2.setRow g (splice R2 0 [ptr c]).toArray) (some g) := gb_trans g2 ⟨rfl, rfl, rfl, by simp [World.setRow], fun k hk hr => setRow_other W2 g k _ (by intro e; exact hr (by rw [e]))⟩
  have HR : Hid (PRow (W2.setRow g (splice R2 0 [ptr c]).toArray) base (.slice (some ⟨g, 0, none⟩) (n + 1) cap) (c :: bs)) := hid ⟨by simp, .inr ⟨g, cap, (splice R2 0 [ptr c]).toArray, by simp [HN.out], hbase, h3, by simp [HN.out]; omega, hcm, by simp; rw [length_splice _ _ _ (by simp; omega)]; exact hl2, by
    have e : splice R2 0 [ptr c] = ptr c :: R2.drop 1 := by simp [splice]
    rw [e, HT2.out]
    simp [List.take_append, HN.out]⟩⟩
  have HG3 := hid g3
  clear h2 h3 g2 g3 HSRC1 hv2 hov
  generalize hW3 : W2.setRow g (splice R2 0 [ptr c]).toArray = W3 at *
  have hGn' : (1 : Int) ≤ (n : Int) + 1 := by omega
  have hGn0 : (0 : Int) ≤ (n : Int) + 1 := by omega
  go_region_law (refine step_copy_run rfl _ _ 116 116 rfl (.slice (some ⟨g, 1, none⟩) n (cap - 1)) (.slice (some ⟨g, 0, none⟩) (n + 1) cap) (by simp [Act.eval, Act.put]) (by simp [Act.eval, Act.put]) (HC1 3) ?_)
  go_wp2_with (at_builtin; refine wpList_copy_run _ rfl _ _ 116 116 rfl _ _ rfl rfl (HC2 _) ?_)
  go_ret
  exact ⟨_, rfl, HR.out, HG3.out⟩
theorem insert_any (v : Value) (vb c : Nat) (bs : List Nat) (w : World) (base : Nat) (h : PRow w base v bs) (hn0 : 0 < bs.length) (hmax : bs.length ≤ 524288) (hvb : w.heap[vb]? = some (.cells #[ptr c] 119 (0, 0))) (hne : v.ownBlock ≠ some vb) (hbase : base ≤ w.heap.size) :
    Calls Tryz.prog 309 #[v, .int .i64 0, .slice (some ⟨vb, 0, none⟩) 1 1] w (InsRowP base v (c :: bs) w) := by
  rcases h.2 with ⟨_, e⟩ | ⟨g, cap, cur, rfl, hb, hg, hle, hmx, hsz, htk⟩
  · omega
  · have htk' : ∀ i (h : i < bs.length), cur[i]? = some (ptr bs[i]) := fun i hi => by
      have e : (cur.toList.take (bs.length * 1))[i]? = (bs.map ptr)[i]? := by rw [htk]
      rw [List.getElem?_take, if_pos (by omega), Array.getElem?_toList, List.getElem?_map, List.getElem?_eq_getElem hi] at e
      exact e
    have hne' : vb ≠ g := fun e => hne (by simp [Value.ownBlock, e])
    by_cases hr : cap < bs.length + 1
    · exact insert_grow g bs.length cap vb c cur bs w base rfl hn0 hle hr hmax hg htk' hvb hne' hbase
    · exact insert_room g bs.length cap vb c cur bs w base rfl hn0 (by omega) hmx hmax hg (by omega) htk' hvb hne' hb
end Go.Proofs.YtmifpfojhlmbkaaGreat
