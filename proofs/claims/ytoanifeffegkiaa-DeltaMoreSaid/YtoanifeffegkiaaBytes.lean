/-
  Contracts of lay and of (*Writer).Bytes of package bits: Bytes is the bytes that have the Writer's bits, the last one's bits behind them 0.
  Condition: the Writer has fewer than 2^40 bits.
-/
import Derived.Test.YtoanifeffegkiaaRead
import Derived.Test.YtoanifeffegkiaaPut
import Derived.StillTailTactics
namespace Go.Proofs.Ytoanifeffegkiaa
open Go.RowKit
set_option linter.unusedVariables false

def layTo (l : List Nat) (o u : Nat) : Nat → List Nat
  | 0 => l
  | j + 1 => (layTo l o u j).set (o + j) (u / 2 ^ (56 - 8 * j) % 256)
theorem layTo_length (l : List Nat) (o u j : Nat) : (layTo l o u j).length = l.length := by
  induction j with
  | zero => rfl
  | succ j ih => simp [layTo, ih]
theorem layTo_out (l : List Nat) (o u j i : Nat) (h : i < o ∨ o + j ≤ i) : (layTo l o u j).getD i 0 = l.getD i 0 := by
  induction j with
  | zero => rfl
  | succ j ih =>
    rw [layTo, List.getD_eq_getElem?_getD, List.getElem?_set_ne (by omega), ← List.getD_eq_getElem?_getD]
    exact ih (by omega)
theorem layTo_in (l : List Nat) (o u j i : Nat) (h : i < j) (hl : o + j ≤ l.length) : (layTo l o u j).getD (o + i) 0 = u / 2 ^ (56 - 8 * i) % 256 := by
  induction j with
  | zero => omega
  | succ j ih =>
    rw [layTo, List.getD_eq_getElem?_getD]
    by_cases e : i = j
    · subst e
      rw [List.getElem?_set_self (by rw [layTo_length]; omega)]; rfl
    · rw [List.getElem?_set_ne (by omega), ← List.getD_eq_getElem?_getD]
      exact ih (by omega) (by omega)

theorem bc_set (l : List Nat) (i n : Nat) : (bc l).setIfInBounds i (.int .u8 (n : Int)) = bc (l.set i n) := by
  simp [bc, List.map_set]
theorem bc_cell {w : World} {g i : Nat} {l : List Nat} {t : TypeId} {f : Nat × Nat} (h : w.heap[g]? = some (.cells (bc l) t f)) (hi : i < l.length) : w.cell? ⟨g, i, none⟩ = some (.int .u8 (l.getD i 0 : Nat)) := by
  rw [cell_of h, bc_get, List.getElem?_eq_getElem hi, List.getD_eq_getElem?_getD, List.getElem?_eq_getElem hi]; rfl

def LayP (g : Nat) (l : List Nat) (w : World) (e : Ending) (w' : World) : Prop := e = .returned (.tuple #[]) ∧ w'.heap[g]? = some (.cells (bc l) 5 (0, 0)) ∧ w.grownBy w' (some g)

set_option maxHeartbeats 400000 in
theorem lay_any (g o len cap : Nat) (l : List Nat) (u : Nat) (w : World) (hg : w.heap[g]? = some (.cells (bc l) 5 (0, 0))) (h0 : 0 < len) (hl : o + len ≤ l.length) (hm : l.length ≤ 140737488355328) (hu : u < 18446744073709551616) :
    Calls Try.prog 38 #[.slice (some ⟨g, o, none⟩) len cap, .int .u64 (u : Int)] w (LayP g (layTo l o u (min 8 len)) w) := by
  have HG := Lib.hid hg
  clear hg
  by_cases h8 : 8 ≤ len
  all_goals
    go_enter Try.func38, Try.ntmps38
    go_wp2
    go_loopw [8] (fun i wr => ∃ j : Nat, j ≤ min 8 len ∧ i = .int .i64 (j : Int) ∧ wr.heap[g]? = some (.cells (bc (layTo l o u j)) 5 (0, 0)) ∧ w.grownBy wr (some g)) (fun i _ => 8 - (intOf i).toNat)
    case atStart => exact ⟨0, Nat.zero_le _, rfl, HG.out, gb_refl _ _⟩
    case round =>
      obtain ⟨j, hj, rfl, hr, hgb⟩ := hrel
      have HR := Lib.hid hr
      by_cases hjn : j < min 8 len
      · have hc : wr.cell? ⟨g, o + j, none⟩ = some (.int .u8 ((layTo l o u j).getD (o + j) 0 : Nat)) := bc_cell hr (by rw [layTo_length]; omega)
        have hf : wr.frozen? ⟨g, o + j, none⟩ = false := frozen_of hr
        clear hr
        go_wp2
        refine ⟨⟨j + 1, by omega, by go_num, ?_, gb_set hgb _ _⟩, by simp [intOf]; omega⟩
        rw [heap_set HR.out]
        rw [show ((u : Int) / 2 ^ (56 - 8 * j) % 256) = ((u / 2 ^ (56 - 8 * j) % 256 : Nat) : Int) from by simp, bc_set]
        rfl
      · clear hr
        go_wp2
        go_end0
        obtain rfl : j = min 8 len := by omega
        exact ⟨rfl, HR.out, hgb⟩

set_option maxHeartbeats 400000 in
theorem lay_empty (a : Option Addr) (cap : Nat) (u : Int) (w : World) :
    Calls Try.prog 38 #[.slice a 0 cap, .int .u64 u] w fun e w' => e = .returned (.tuple #[]) ∧ w = w' := by
  go_enter Try.func38, Try.ntmps38
  go_wp2
  go_loop [8] (fun i => i = .int .i64 0) (fun i => 0)
  case atStart => rfl
  case round =>
    obtain rfl := hrel
    go_wp2
    go_end0
    exact ⟨rfl, rfl⟩

theorem foldl_push (ns : List Nat) (s : ByteArray) : (ns.map fun n : Nat => (n : Int)).foldl (fun r n => r.push (UInt8.ofNat n.toNat)) s = ⟨s.data ++ (ns.map UInt8.ofNat).toArray⟩ := by
  induction ns generalizing s with
  | nil => simp
  | cons n ns ih =>
    simp only [List.map_cons, List.foldl_cons]
    rw [ih]
    apply ByteArray.ext
    simp [ByteArray.push]

theorem conv_row (g cap : Nat) (l : List Nat) (W : World) (h : W.heap[g]? = some (.cells (bc l) 5 (0, 0))) :
    (convert 73 9 (.slice (some ⟨g, 0, none⟩) l.length cap)).run Try.prog W = .ok (.string ⟨(l.map UInt8.ofNat).toArray⟩) W := by
  rw [run_convert_bytes_string (P := Try.prog) W 73 9 5 _ _ _ Try.underlying73 Try.underlying5 Try.underlying9]
  have hl := run_loadCells_list (P := Try.prog) W ⟨g, 0, none⟩ (l.map fun n : Nat => Value.int .u8 (n : Int)) (fun j v hj => by
    have : (⟨g, 0, none⟩ : Addr).add j = ⟨g, j, none⟩ := by unfold Addr.add; split <;> simp_all
    rw [this, cell_of h, bc]; simpa using hj)
  rw [List.length_map] at hl
  have := run_bytesToString (P := Try.prog) W ⟨g, 0, none⟩ l.length cap (l.map fun n : Nat => (n : Int)) (by rw [hl]; simp [Function.comp_def])
  rw [this, foldl_push]
  simp

/-- What is laid from a place on is the bytes of the bits. -/
def Row (xs : List Bool) (l : List Nat) (at' : Nat) : Prop := l.length = (xs.length + 7) / 8 ∧ ∀ i, at' ≤ i → i < (xs.length + 7) / 8 → l.getD i 0 = byteAt xs i

theorem row_first (fl op : List Bool) (k : Nat) (hf : fl.length = 64 * k) (ho : op.length < 64) (l : List Nat) (hl : l.length = ((fl ++ op).length + 7) / 8) :
    Row (fl ++ op) (layTo l (8 * k) (num op * 2 ^ (64 - op.length)) (min 8 (l.length - 8 * k))) (8 * k) := by
  refine ⟨by rw [layTo_length, hl], fun i h1 h2 => ?_⟩
  rw [List.length_append] at hl h2
  obtain ⟨j, rfl⟩ : ∃ j, i = 8 * k + j := ⟨i - 8 * k, by omega⟩
  rw [layTo_in _ _ _ _ _ (by omega) (by omega), byteAt_shift fl op (8 * k) j (by omega), ← byteAt_pad op (64 - op.length), ← num_pad]
  exact byte64 _ (by simp; omega) j (by omega)

theorem row_word (fl x rest : List Bool) (k : Nat) (hf : fl.length = 64 * k) (hx : x.length = 64) (l : List Nat) (h : Row (fl ++ x ++ rest) l (8 * (k + 1))) :
    Row (fl ++ x ++ rest) (layTo l (8 * k) (num x) (min 8 (l.length - 8 * k))) (8 * k) := by
  obtain ⟨hl, hr⟩ := h
  have hlen : (fl ++ x ++ rest).length = 64 * k + 64 + rest.length := by simp [hf, hx]; omega
  refine ⟨by rw [layTo_length, hl], fun i h1 h2 => ?_⟩
  rw [hlen] at hl
  by_cases h : i < 8 * k + 8
  · obtain ⟨j, rfl⟩ : ∃ j, i = 8 * k + j := ⟨i - 8 * k, by omega⟩
    rw [layTo_in _ _ _ _ _ (by omega) (by omega), List.append_assoc, byteAt_shift fl (x ++ rest) (8 * k) j (by omega), byteAt_left x rest 8 j (by omega) (by omega)]
    exact byte64 _ hx j (by omega)
  · rw [layTo_out _ _ _ _ _ (by omega)]
    exact hr i (by omega) h2

theorem row_all (xs : List Bool) (l : List Nat) (h : Row xs l 0) : l.map UInt8.ofNat = packL xs := by
  obtain ⟨hl, hr⟩ := h
  apply List.ext_getElem
  · rw [List.length_map, packL_length, hl]
  · intro i h1 h2
    rw [List.length_map] at h1
    have := hr i (Nat.zero_le _) (by omega)
    rw [List.getD_eq_getElem?_getD, List.getElem?_eq_getElem h1, Option.getD_some] at this
    simp [packL, this]

theorem slice_from (g k L : Nat) (h : k < L) (W : World) :
    (Instr.slice 73 (.slice (some ⟨g, 0, none⟩) L L) (some (.int .i64 (k : Int))) none none).run Try.prog W = .ok (.slice (some ⟨g, k, none⟩) (L - k) (L - k)) W := by
  rw [run_slice_l W 73 _ _ _ (by kernel_rfl) .i64 (k : Int) (by omega) (by omega)]
  have hs : (sizeOf (Try.prog.elem 73)).run Try.prog W = .ok 1 W := by kernel_rfl
  rw [hs]
  simp only [Result.andThen, sliced, Int.toNat_natCast]
  rw [if_neg (by omega)]
  simp [Addr.add]
  omega
theorem slice_end (g L : Nat) (W : World) :
    (Instr.slice 73 (.slice (some ⟨g, 0, none⟩) L L) (some (.int .i64 (L : Int))) none none).run Try.prog W = .ok (.slice (some ⟨g, 0, none⟩) 0 0) W := by
  rw [run_slice_l W 73 _ _ _ (by kernel_rfl) .i64 (L : Int) (by omega) (by omega)]
  have hs : (sizeOf (Try.prog.elem 73)).run Try.prog W = .ok 1 W := by kernel_rfl
  rw [hs]
  simp [Result.andThen, sliced]

theorem slice_lay (g a L : Nat) (h : a ≤ L) (hL : L ≤ 140737488355328) : ∃ off,
    (∀ W : World, (Instr.slice 73 (.slice (some ⟨g, 0, none⟩) L L) (some (.int .i64 (a : Int))) none none).run Try.prog W = .ok (.slice (some ⟨g, off, none⟩) (L - a) (L - a)) W) ∧
    (∀ (W : World) (l : List Nat) (u : Nat), W.heap[g]? = some (.cells (bc l) 5 (0, 0)) → l.length = L → u < 18446744073709551616 →
      Calls Try.prog 38 #[.slice (some ⟨g, off, none⟩) (L - a) (L - a), .int .u64 (u : Int)] W (LayP g (layTo l a u (min 8 (L - a))) W)) := by
  by_cases e : a = L
  · subst e
    refine ⟨0, fun W => by rw [slice_end]; simp, fun W l u hW hl hu => ?_⟩
    rw [Nat.sub_self]
    refine (lay_empty _ _ _ W).mono ?_
    rintro e w' ⟨rfl, rfl⟩
    exact ⟨rfl, hW, gb_refl _ _⟩
  · exact ⟨a, fun W => slice_from g a L (by omega) W, fun W l u hW hl hu => lay_any g a (L - a) (L - a) l u W hW (by omega) (by omega) (by omega) hu⟩

theorem wrap_u64_nat (n : Nat) (h : n < 18446744073709551616) : IntKind.u64.wrap (n : Int) = (n : Int) := by
  rw [IntKind.wrap_u64]; omega
theorem shl_open (op : List Bool) (h : op.length < 64) : num op * 2 ^ (64 - op.length) < 18446744073709551616 := by
  have h1 := num_lt op
  have h2 : 2 ^ op.length * 2 ^ (64 - op.length) = 18446744073709551616 := by
    rw [← Nat.pow_add, show op.length + (64 - op.length) = 64 from by omega]
  rw [← h2]
  exact Nat.mul_lt_mul_of_pos_right h1 (Nat.two_pow_pos _)

set_option maxHeartbeats 400000 in
theorem bytes_nil (w : World) :
    Calls Try.prog 15 #[.pointer none] w fun e w' => e = .returned (.string ⟨#[]⟩) ∧ w = w' := by
  go_enter Try.func15, Try.ntmps15
  go_wp2
  go_ret
  exact ⟨rfl, rfl⟩

set_option maxRecDepth 100000 in
set_option maxHeartbeats 1000000 in
theorem bytes_any (b : Nat) (xs : List Bool) (w : World) (h : WrAt w b xs) (hxs : xs.length < 1099511627776) :
    Calls Try.prog 15 #[.pointer (some ⟨b, 0, none⟩)] w fun e w' => e = .returned (.string ⟨(packL xs).toArray⟩) ∧ Below w.heap.size w w' := by
  obtain ⟨p, bl, op, hx, ho, hb, hch⟩ := h
  have hlen := flat_len hch
  have hxl : xs.length = 64 * bl.length + op.length := by rw [hx, List.length_append, hlen]
  have hn := num_op_lt ho
  have HX := Lib.hid hx
  have HL := Lib.hid hxl
  have HB := Lib.hid hb
  have HCH := Lib.hid hch
  have HF := Lib.hid hlen
  have hc0 : w.cell? ⟨b, 0, none⟩ = some (.pointer p) := by rw [cell_of hb]; rfl
  have hc1 : w.cell? ⟨b, 1, none⟩ = some (.int .u64 (num op : Nat)) := by rw [cell_of hb]; rfl
  have hc2 : w.cell? ⟨b, 2, none⟩ = some (.int .i64 (xs.length : Nat)) := by rw [cell_of hb]; rfl
  have hbl := heap_lt hb
  have hmk := fun W => make_bytes ((xs.length + 7) / 8) (by omega) W
  have hpre : (((xs.length + 7) / 8 : Nat) : Int) = ((xs.length : Int) + 7) / 8 := by omega
  rw [hpre] at hmk
  clear hx hxl hb hch hlen hpre
  go_enter Try.func15, Try.ntmps15
  go_wp2_with fail
  refine (bytesOf_any _ _ (by omega) (by omega)).mono ?_
  rintro e w' ⟨rfl, rfl⟩
  go_wp2_with fail
  have hL : ((xs.length : Int) / 64 * 8) = ((8 * bl.length : Nat) : Int) := by have := HL.out; omega
  rw [hL]
  have hat : 8 * bl.length ≤ (xs.length + 7) / 8 := by have := HL.out; omega
  have hLb : (xs.length + 7) / 8 ≤ 140737488355328 := by omega
  have hq : ((xs.length : Int) % 64) = (op.length : Int) := by have := HL.out; omega
  have hq' : (xs.length : Int).tmod 64 = (op.length : Int) := by rw [Int.tmod_eq_emod_of_nonneg (by omega)]; exact hq
  have HLL := Lib.hid (show (xs.length + 7) / 8 = 8 * bl.length + (op.length + 7) / 8 from by have := HL.out; omega)
  generalize hLE : (xs.length + 7) / 8 = L at *
  have HLE := Lib.hid hLE.symm
  clear hLE
  obtain ⟨off, hsl, hlay⟩ := slice_lay w.heap.size (8 * bl.length) L hat hLb
  have HLAY := Lib.hid hlay
  clear hlay
  have HA := Lib.hid (rfl : 8 * bl.length = 8 * bl.length)
  generalize hA : 8 * bl.length = a at *
  have e2 : IntKind.i64.wrap (64 - (op.length : Int)) = 64 - (op.length : Int) := IntWalk.i64_in _ ⟨by omega, by omega⟩
  have b3 : 0 ≤ 64 - (op.length : Int) := by omega
  have b4 : (64 - (op.length : Int)).toNat = 64 - op.length := by omega
  have HAE := Lib.hid hA
  clear hL hA HA
  refine wp_region_still_tail 14 (by kernel_rfl) (by kernel_rfl) ?_
  simp only [List.take_succ_cons, List.take_zero, List.drop_succ_cons, List.drop_zero]
  change wpStill _ _ (w.alloc (.cells (bc (List.replicate L 0)) 5)).drew (fun a' => wpList _ _ _ _ a' (w.alloc (.cells (bc (List.replicate L 0)) 5)).drew) _ _
  have d1 : (w.alloc (.cells (bc (List.replicate L 0)) 5)).drew.cell? ⟨b, 1, none⟩ = some (.int .u64 (num op : Nat)) := (cell_of (by rw [heap_drew]; exact heap_old HB.out)).trans rfl
  have d2 : (w.alloc (.cells (bc (List.replicate L 0)) 5)).drew.cell? ⟨b, 2, none⟩ = some (.int .i64 (xs.length : Nat)) := (cell_of (by rw [heap_drew]; exact heap_old HB.out)).trans rfl
  have G2 := Lib.hid (gb_below_none (gb_drew (World.grownBy_alloc w (.cells (bc (List.replicate L 0)) 5) none)))
  have r2 := heap_new w (.cells (bc (List.replicate L 0)) 5)
  rw [← heap_drew] at r2
  have R2 := Lib.hid r2
  clear r2
  generalize (w.alloc (.cells (bc (List.replicate L 0)) 5)).drew = W2 at *
  repeat still_step
  refine wpStill_nil ?_
  have hsh := shl_open op ho
  have HSH := Lib.hid hsh
  have hwr : IntKind.u64.wrap ((num op : Int) * 2 ^ (64 - op.length)) = ((num op * 2 ^ (64 - op.length) : Nat) : Int) := by
    rw [show ((num op : Int) * 2 ^ (64 - op.length)) = ((num op * 2 ^ (64 - op.length) : Nat) : Int) from by simp]
    exact wrap_u64_nat _ hsh
  rw [hwr]
  clear hwr hsh
  have HU := Lib.hid (row_first (flat bl) op bl.length HF.out ho (List.replicate L 0) (by rw [← HX.out]; simp; exact HLE.out))
  rw [← HX.out] at HU
  rw [HAE.out, List.length_replicate] at HU
  generalize num op * 2 ^ (64 - op.length) = u at *
  go_wp2_with fail
  refine (HLAY.out W2 _ _ R2.out (by simp) HSH.out).mono ?_
  rintro e W3 ⟨rfl, r3, g3⟩
  have g4 : Below w.heap.size w W3 := ⟨g3.os.trans G2.out.os, g3.tape.trans G2.out.tape, g3.output.trans G2.out.output, Nat.le_trans G2.out.size g3.size,
    fun k hk => (g3.block k (Nat.lt_of_lt_of_le hk G2.out.size) (by simp; omega)).trans (G2.out.block k hk)⟩
  have c3 : W3.cell? ⟨b, 0, none⟩ = some (.pointer p) := by rw [g4.cell hbl]; exact hc0
  have G4 := Lib.hid g4
  have R3 := Lib.hid r3
  clear g4 r3 g3 d1 d2 HLAY G2 R2 hsl hmk hq hq' e2 b3 b4
  go_wp2_with fail
  go_loopw [4, 5] (fun i q wr => ∃ (bl' : List (List Bool)) (q' : Option Addr) (rest : List Bool) (l : List Nat), i = .int .i64 ((8 * bl'.length : Nat) : Int) ∧ q = .pointer q' ∧ Chain w q' bl' ∧ xs = flat bl' ++ rest ∧
    wr.heap[w.heap.size]? = some (.cells (bc l) 5 (0, 0)) ∧ Row xs l (8 * bl'.length) ∧ Below w.heap.size w wr) (fun i _ _ => (intOf i).toNat)
  case atStart => exact ⟨bl, p, op, _, by rw [HAE.out], rfl, HCH.out, HX.out, R3.out, by rw [HAE.out]; exact HU.out, G4.out⟩
  case round =>
    obtain ⟨bl', q', rest, l, rfl, rfl, hch, hx, hrow, hR, hbel⟩ := hrel
    have HROW := Lib.hid hrow
    have HR := Lib.hid hR
    have HXX := Lib.hid hx
    have HBEL := Lib.hid hbel
    clear hrow hR hx hbel HX
    cases bl' with
    | nil =>
      obtain rfl : q' = none := hch
      have hcv : (convert 73 9 (.slice (some ⟨w.heap.size, 0, none⟩) L L)).run Try.prog wr = .ok (.string ⟨(packL xs).toArray⟩) wr := by
        have hll : l.length = L := by rw [HR.out.1]; exact HLE.out.symm
        have := conv_row w.heap.size L l wr HROW.out
        rw [hll, row_all xs l HR.out] at this
        exact this
      go_wp2
      go_ret
      exact ⟨rfl, HBEL.out⟩
    | cons x r =>
      obtain ⟨kk, q2, rfl, hx64, hkk, hch'⟩ := hch
      have hfl := flat_len hch'
      have hkb := heap_lt hkk
      have hll : l.length = L := by rw [HR.out.1]; exact HLE.out.symm
      have hle8 : 8 * r.length ≤ L := by
        have h1 := HLE.out
        have h2 : xs.length = 64 * r.length + 64 + rest.length := by rw [HXX.out]; simp [flat, hfl, hx64]; omega
        omega
      have HWD := Lib.hid (row_word (flat r) x rest r.length hfl hx64 l (by have := HR.out; rw [HXX.out] at this; exact this))
      rw [show flat r ++ x ++ rest = xs from HXX.out.symm, hll] at HWD
      have hn64 : num x < 18446744073709551616 := by have := num_lt x; rw [hx64] at this; exact this
      have c0 : wr.cell? ⟨kk, 0, none⟩ = some (.int .u64 (num x : Nat)) := by rw [HBEL.out.cell hkb, cell_of hkk]; rfl
      have c1 : wr.cell? ⟨kk, 1, none⟩ = some (.pointer q2) := by rw [HBEL.out.cell hkb, cell_of hkk]; rfl
      have hsub : ((8 * (x :: r).length : Nat) : Int) - 8 = ((8 * r.length : Nat) : Int) := by simp; omega
      have hlx : xs.length = 64 * r.length + 64 + rest.length := by rw [HXX.out]; simp [flat, hfl, hx64]; omega
      have hbd : 8 * (x :: r).length ≤ 140737488355328 := by simp; omega
      clear hlx
      obtain ⟨off', hsl, hlay⟩ := slice_lay w.heap.size (8 * r.length) L hle8 hLb
      have HLAY := Lib.hid hlay
      have HCH' := Lib.hid hch'
      have HXR := Lib.hid (show xs = flat r ++ (x ++ rest) from by rw [HXX.out]; simp [flat])
      have HK := Lib.hid hkk
      have HLLL := Lib.hid hll
      clear hlay hch' hkk hfl HR HXX hll
      have hN : (x :: r).length = r.length + 1 := rfl
      generalize hcc : 8 * (x :: r).length = cc at *
      have HCC := Lib.hid hcc
      clear hcc hN
      generalize hcc2 : 8 * r.length = cd at *
      have HCD := Lib.hid hcc2
      clear hcc2
      go_wp2_with fail
      clear hsub
      refine wp_region_still_tail 7 (by kernel_rfl) (by kernel_rfl) ?_
      simp only [List.take_succ_cons, List.take_zero, List.drop_succ_cons, List.drop_zero]
      change wpStill _ _ wr.drew (fun a' => wpList _ _ _ _ a' wr.drew) _ _
      have d0 : wr.drew.cell? ⟨kk, 0, none⟩ = some (.int .u64 (num x : Nat)) := c0
      have BW := Lib.hid (HBEL.out.drew)
      have RW' : wr.drew.heap[w.heap.size]? = _ := HROW.out
      have RW2 := Lib.hid RW'
      clear RW' c0 c1
      generalize wr.drew = W5 at *
      repeat still_step
      refine wpStill_nil ?_
      go_wp2_with fail
      refine (HLAY.out W5 l _ RW2.out HLLL.out hn64).mono ?_
      rintro e W6 ⟨rfl, r6, g6⟩
      have b6 : Below w.heap.size w W6 := ⟨g6.os.trans BW.out.os, g6.tape.trans BW.out.tape, g6.output.trans BW.out.output, Nat.le_trans BW.out.size g6.size,
        fun k hk => (g6.block k (Nat.lt_of_lt_of_le hk BW.out.size) (by simp; omega)).trans (BW.out.block k hk)⟩
      have c1 : W6.cell? ⟨kk, 1, none⟩ = some (.pointer q2) := by rw [b6.cell hkb, cell_of HK.out]; rfl
      have B6 := Lib.hid b6
      have R6 := Lib.hid r6
      clear r6 b6 g6 BW RW2 HLAY hsl d0
      go_wp2
      go_roundw
      case rel =>
        refine ⟨r, q2, x ++ rest, _, by rw [HCD.out], rfl, HCH'.out, HXR.out, R6.out, ?_, B6.out⟩
        rw [HCD.out]; exact HWD.out
      case measure => have := HCC.out; have := HCD.out; simp [intOf]; simp at *; omega

end Go.Proofs.Ytoanifeffegkiaa
