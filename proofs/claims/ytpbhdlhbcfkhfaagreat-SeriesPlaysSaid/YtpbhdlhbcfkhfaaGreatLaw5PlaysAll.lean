/-
  The statement 'SeriesPlays' of layer 5 (the stage's theorem): for every size, retention and policy, every calls and every two times: whatever is added, deleted and altered, in whatever order: what is told, and what samples there are, is as the document says; chunks stand as they must.
  No condition.
-/
import Derived.Test.YtpbhdlhbcfkhfaaGreatDMath
import Derived.Deep.SlicePairs
import Derived.ProofKit
import Derived.OpenShut
import Derived.Test.YtpbhdlhbcfkhfaaGreatPMerge
import Derived.Test.YtpbhdlhbcfkhfaaGreatCApp
import Derived.Test.YtpbhdlhbcfkhfaaGreatCTake
import Derived.Test.YtpbhdlhbcfkhfaaGreatCGets
import Derived.Test.YtpbhdlhbcfkhfaaGreatSPartA
import Derived.Test.YtpbhdlhbcfkhfaaGreatSKnown
import Derived.ShutString
import Derived.ChangeOld
import Derived.Lib.SmallJoins
/-
  A slice of the statements' own calls (a kind, a sample, a policy), read as a list.
-/
namespace Go.Proofs.YtpbhdlhbcfkhfaaGreat
open Go.RowKit Go.ChangeShapes Go.WideShapes Go.Deep
set_option linter.unusedVariables false
set_option linter.unusedSimpArgs false

/-- A call: its kind, a time, a value, a policy. -/
abbrev Cl := Int × Int × Int × Int
def Cl64 (x : Cl) : Prop := in64 x.1 ∧ in64 x.2.1 ∧ in64 x.2.2.1 ∧ in64 x.2.2.2
/-- The slice's calls are z. -/
def OpsC (w : World) (a : Option Addr) (len : Nat) (z : List Cl) : Prop :=
  z.length = len ∧ len ≤ 9223372036854775807 ∧ (∀ x ∈ z, Cl64 x) ∧
  (len = 0 ∨ ∃ b off, a = some ⟨b, off, none⟩ ∧ b < w.heap.size ∧ ∀ i (h : i < z.length), w.cell? ⟨b, off + i * 4, none⟩ = some (.int .i64 z[i].1) ∧ w.cell? ⟨b, off + i * 4 + 1, none⟩ = some (.int .i64 z[i].2.1) ∧
    w.cell? ⟨b, off + i * 4 + 2, none⟩ = some (.int .i64 z[i].2.2.1) ∧ w.cell? ⟨b, off + i * 4 + 3, none⟩ = some (.int .i64 z[i].2.2.2))

def opOf (z : List Cl) (i : Nat) : Cl := z.getD i (0, 0, 0, 0)
theorem OpsC.at_ {w : World} {a : Option Addr} {len : Nat} {z : List Cl} (h : OpsC w a len z) (i : Nat) (hi : i < len) :
    ∃ b off, a = some ⟨b, off, none⟩ ∧ b < w.heap.size ∧ w.cell? ⟨b, off + i * 4, none⟩ = some (.int .i64 (opOf z i).1) ∧ w.cell? ⟨b, off + i * 4 + 1, none⟩ = some (.int .i64 (opOf z i).2.1) ∧
      w.cell? ⟨b, off + i * 4 + 2, none⟩ = some (.int .i64 (opOf z i).2.2.1) ∧ w.cell? ⟨b, off + i * 4 + 3, none⟩ = some (.int .i64 (opOf z i).2.2.2) ∧ Cl64 (opOf z i) := by
  obtain ⟨h1, h2, h3, h4⟩ := h
  have e : opOf z i = z[i] := by unfold opOf; rw [List.getD_eq_getElem?_getD, List.getElem?_eq_getElem (by omega), Option.getD_some]
  rcases h4 with h0 | ⟨b, off, rfl, hb, hc⟩
  · omega
  · rw [e]
    obtain ⟨c0, c1, c2, c3⟩ := hc i (by omega)
    exact ⟨b, off, rfl, hb, c0, c1, c2, c3, h3 _ (List.getElem_mem _)⟩

theorem cells_int : Tryz.prog.cellsOf 3 = 1 := by kernel_rfl
theorem cells_samp : Tryz.prog.cellsOf 33 = 2 := by kernel_rfl
theorem cells_op : Tryz.prog.cellsOf 35 = 4 := by kernel_rfl

set_option maxRecDepth 100000 in
theorem open_sops {H : Type} {enc : TypeId × Value → H} {W : World} {a : Option Addr} {len cap : Nat} {d : DataW H} {p : List MemPlace}
    (h : DataW.Trod enc Tryz.prog W 0 (fun _ => true) true 23 (.slice a len cap) d p) : ∃ z, OpsC W a len z := by
  obtain ⟨fuel, hf⟩ := h
  rcases open_slice Tryz.underlying23 hf with ⟨hcs, _⟩ | ⟨x, l, c, m, n, D, Pl, hcs, hb, hl, hm, hmm, _, hx⟩
  · simp [Value.cells] at hcs
    obtain ⟨rfl, rfl, rfl⟩ := hcs
    exact ⟨[], rfl, by omega, by simp, .inl rfl⟩
  · simp [Value.cells] at hcs
    obtain ⟨rfl, rfl, rfl⟩ := hcs
    simp only [if_true] at hmm
    have each : ∀ i, i < len → ∃ q : Cl, W.cell? (x.add (i * 4)) = some (.int .i64 q.1) ∧ W.cell? (x.add (i * 4 + 1)) = some (.int .i64 q.2.1) ∧ W.cell? (x.add (i * 4 + 2)) = some (.int .i64 q.2.2.1) ∧ W.cell? (x.add (i * 4 + 3)) = some (.int .i64 q.2.2.2) ∧ Cl64 q := by
      intro i hi
      obtain ⟨cs', h1, h2⟩ := hx i (by omega)
      rw [cells_op] at h1
      obtain ⟨_, hlen, hcell⟩ := World.cells?_some h1
      obtain ⟨xs, k, hk, hxy, _, hxl, hfl⟩ := DataW.trod_struct Tryz.underlying35 h2
      match xs, hxl, cs', hlen with
      | [y0, y1, y2], _, [v0, v1, v2, v3], _ =>
        have g0 := hfl 0 _ rfl
        have g1 := hfl 1 _ rfl
        have g2 := hfl 2 _ rfl
        simp [cells_int, cells_samp] at g0 g1 g2
        obtain ⟨n0, e0, _, w0⟩ := DataW.trod_int Tryz.underlying3 g0
        obtain ⟨n2, e2, _, w2⟩ := DataW.trod_int Tryz.underlying3 g2
        obtain ⟨ys, k2, _, _, _, hyl, hfs⟩ := DataW.trod_struct Tryz.underlying33 g1
        match ys, hyl with
        | [z0, z1], _ =>
          have s0 := hfs 0 _ rfl
          have s1 := hfs 1 _ rfl
          simp [cells_int] at s0 s1
          obtain ⟨m0, f0, _, u0⟩ := DataW.trod_int Tryz.underlying3 s0
          obtain ⟨m1, f1, _, u1⟩ := DataW.trod_int Tryz.underlying3 s1
          have c0 := hcell 0 (by omega)
          have c1 := hcell 1 (by omega)
          have c2 := hcell 2 (by omega)
          have c3 := hcell 3 (by omega)
          rw [add_add] at c0 c1 c2 c3
          simp at e0 e2 f0 f1 c0 c1 c2 c3
          subst e0 e2 f0 f1
          exact ⟨(n0, m0, m1, n2), c0, c1, c2, c3, bounds_i64 w0, bounds_i64 u0, bounds_i64 u1, bounds_i64 w2⟩
    obtain ⟨q, hq⟩ := choose_lt each
    refine ⟨(List.range len).map q, by simp, by unfold maxLen at hm; omega, ?_, ?_⟩
    · intro y hy
      simp at hy
      obtain ⟨i, hi, rfl⟩ := hy
      exact (hq i hi).2.2.2.2
    · by_cases h0 : len = 0
      · exact .inl h0
      · right
        obtain ⟨b, off, spot⟩ := x
        have hs : spot = none := by
          have := (hq 0 (by omega)).1
          simpa [Addr.add] using World.cell?_spot this
        subst hs
        have hb : b < W.heap.size := by
          have := World.block_lt_of_cell? W _ (hq 0 (by omega)).1
          simpa [Addr.add] using this
        refine ⟨b, off, rfl, hb, fun i hi => ?_⟩
        simp at hi
        obtain ⟨c0, c1, c2, c3, _⟩ := hq i hi
        have ha : ∀ k, (⟨b, off, none⟩ : Addr).add k = ⟨b, off + k, none⟩ := by
          intro k; unfold Addr.add; split <;> simp_all
        rw [ha] at c0 c1 c2 c3
        simp only [List.getElem_map, List.getElem_range, Nat.add_assoc]
        exact ⟨c0, c1, c2, c3⟩

theorem OpsC.keep {w w' : World} {a : Option Addr} {len : Nat} {z : List Cl} (h : OpsC w a len z) (hb : Below w.heap.size w w') : OpsC w' a len z := by
  obtain ⟨h1, h2, h3, h4⟩ := h
  refine ⟨h1, h2, h3, ?_⟩
  rcases h4 with h0 | ⟨b, off, rfl, hlt, hc⟩
  · exact .inl h0
  · refine .inr ⟨b, off, rfl, Nat.lt_of_lt_of_le hlt hb.size, fun i hi => ?_⟩
    rw [hb.cell hlt, hb.cell hlt, hb.cell hlt, hb.cell hlt]; exact hc i hi

end Go.Proofs.YtpbhdlhbcfkhfaaGreat
/-
  Contracts of the document's own Add and Merge. No condition but that the numbers fit their kinds.
-/
namespace Go.Proofs.YtpbhdlhbcfkhfaaGreat
open Go.RowKit
set_option linter.unusedVariables false
set_option linter.unusedSimpArgs false

set_option maxHeartbeats 400000 in
theorem radd_any (a b : Int) (w : World) (ha : in64 a) (hb : in64 b) :
    Calls Tryz.prog 73 #[.int .i64 a, .int .i64 b] w fun e w' => e = .returned (two (addS a b)) ∧ w = w' := by
  obtain ⟨ha1, ha2⟩ := ha
  obtain ⟨hb1, hb2⟩ := hb
  by_cases h1 : -9223372036854775808 ≤ a + b ∧ a + b ≤ 9223372036854775807
  · have E := Lib.hid (show addS a b = (a + b, 0) from by unfold addS; rw [if_pos h1])
    obtain ⟨h11, h12⟩ := h1
    by_cases h2 : 0 < b
    · have t1 : ¬ 9223372036854775807 - b < a := by omega
      have t2 : ¬ b < 0 := by omega
      go_enter Tryz.func73, Tryz.ntmps73
      go_wp2
      go_ret2
      exact ⟨by rw [E.out]; rfl, rfl⟩
    · by_cases h3 : b < 0
      · have t1 : ¬ a < -9223372036854775808 - b := by omega
        go_enter Tryz.func73, Tryz.ntmps73
        go_wp2
        go_ret2
        exact ⟨by rw [E.out]; rfl, rfl⟩
      · go_enter Tryz.func73, Tryz.ntmps73
        go_wp2
        go_ret2
        exact ⟨by rw [E.out]; rfl, rfl⟩
  · have E := Lib.hid (show addS a b = (0, 9) from by unfold addS; rw [if_neg h1])
    by_cases h2 : 0 < b
    · have t1 : 9223372036854775807 - b < a := by omega
      clear h1
      go_enter Tryz.func73, Tryz.ntmps73
      go_wp2
      go_ret2
      exact ⟨by rw [E.out]; rfl, rfl⟩
    · have h3 : b < 0 := by omega
      have t1 : a < -9223372036854775808 - b := by omega
      clear h1
      go_enter Tryz.func73, Tryz.ntmps73
      go_wp2
      go_ret2
      exact ⟨by rw [E.out]; rfl, rfl⟩

set_option maxHeartbeats 1000000 in
theorem rmerge_any (p a b : Int) (w : World) (ha : in64 a) (hb : in64 b) :
    Calls Tryz.prog 52 #[.int .i64 p, .int .i64 a, .int .i64 b] w fun e w' => e = .returned (two (mergeS p a b)) ∧ w = w' := by
  have HA := Lib.hid ha
  have HB := Lib.hid hb
  clear ha hb
  rcases six p with rfl | rfl | rfl | rfl | rfl | rfl | ⟨h1, h2, h3, h4, h5, h6⟩
  · go_enter Tryz.func52, Tryz.ntmps52
    go_wp2
    go_ret2
    exact ⟨rfl, rfl⟩
  · go_enter Tryz.func52, Tryz.ntmps52
    go_wp2
    go_ret2
    exact ⟨rfl, rfl⟩
  · go_enter Tryz.func52, Tryz.ntmps52
    go_wp2
    go_ret2
    exact ⟨rfl, rfl⟩
  · by_cases h : a ≤ b
    · have E := Lib.hid (show mergeS 4 a b = (a, 0) from by show (min a b, (0 : Int)) = _; rw [Int.min_eq_left h])
      go_enter Tryz.func52, Tryz.ntmps52
      go_wp2
      go_ret2
      exact ⟨by rw [E.out]; rfl, rfl⟩
    · have E := Lib.hid (show mergeS 4 a b = (b, 0) from by show (min a b, (0 : Int)) = _; rw [Int.min_eq_right (by omega)])
      go_enter Tryz.func52, Tryz.ntmps52
      go_wp2
      go_ret2
      exact ⟨by rw [E.out]; rfl, rfl⟩
  · by_cases h : b ≤ a
    · have E := Lib.hid (show mergeS 5 a b = (a, 0) from by show (max a b, (0 : Int)) = _; rw [Int.max_eq_left h])
      go_enter Tryz.func52, Tryz.ntmps52
      go_wp2
      go_ret2
      exact ⟨by rw [E.out]; rfl, rfl⟩
    · have E := Lib.hid (show mergeS 5 a b = (b, 0) from by show (max a b, (0 : Int)) = _; rw [Int.max_eq_right (by omega)])
      go_enter Tryz.func52, Tryz.ntmps52
      go_wp2
      go_ret2
      exact ⟨by rw [E.out]; rfl, rfl⟩
  · have E := Lib.hid (show mergeS 6 a b = addS a b from rfl)
    go_enter Tryz.func52, Tryz.ntmps52
    go_wp2_with fail
    refine (radd_any a b w HA.out HB.out).mono ?_
    rintro e w' ⟨rfl, rfl⟩
    generalize addS a b = x at *
    obtain ⟨x1, x2⟩ := x
    unfold two
    go_wp2
    go_ret2
    exact ⟨by rw [E.out]; rfl, rfl⟩
  · have E := Lib.hid (show mergeS p a b = (0, 1) from by unfold mergeS; rw [if_neg h1, if_neg h2, if_neg h3, if_neg h4, if_neg h5, if_neg h6])
    have t1 : (p == 1) = false := by simpa using h1
    have t2 : (p == 2) = false := by simpa using h2
    have t3 : (p == 3) = false := by simpa using h3
    have t4 : (p == 4) = false := by simpa using h4
    have t5 : (p == 5) = false := by simpa using h5
    have t6 : (p == 6) = false := by simpa using h6
    clear h1 h2 h3 h4 h5 h6
    go_enter Tryz.func52, Tryz.ntmps52
    go_wp2
    go_ret2
    exact ⟨by rw [E.out]; rfl, rfl⟩

end Go.Proofs.YtpbhdlhbcfkhfaaGreat
/-
  Contract of the document's own answer for layer 4: Insert.
  Condition: fewer than 1000 samples.
-/
namespace Go.Proofs.YtpbhdlhbcfkhfaaGreat
open Go.RowKit
set_option linter.unusedVariables false
set_option linter.unusedSimpArgs false

def InsErrP (er : Int) (w : World) (e : Ending) (w' : World) : Prop := e = .returned (.tuple #[.slice none 0 0, .int .i64 er]) ∧ Below w.heap.size w w'
def InsOkP (l : List (Int × Int)) (N : Nat) (w : World) (e : Ending) (w' : World) : Prop := ∃ a cap, e = .returned (.tuple #[.slice a N cap, .int .i64 0]) ∧ Lst w' a N cap l ∧ Below w.heap.size w w'
/-- What is inserted, or why not. -/
def InsP (z : List (Int × Int)) (T V p : Int) (w : World) (e : Ending) (w' : World) : Prop :=
  ((T < 0 ∨ 1099511627776 ≤ T) ∧ InsErrP 1 w e w') ∨
  (¬ (T < 0 ∨ 1099511627776 ≤ T) ∧ (newV z T V p).2 ≠ 0 ∧ InsErrP (newV z T V p).2 w e w') ∨
  (¬ (T < 0 ∨ 1099511627776 ≤ T) ∧ (newV z T V p).2 = 0 ∧ InsOkP (insL z T (newV z T V p).1) (insL z T (newV z T V p).1).length w e w')

theorem one_lst (w : World) (T V : Int) (hT : in64 T) (hV : in64 V) : Lst (w.alloc (.cells #[.int .i64 T, .int .i64 V] 33)) (some ⟨w.heap.size, 0, none⟩) 1 1 [(T, V)] :=
  lst_whole (all64_one hT hV) rfl (by omega) (heap_new w _)

set_option maxRecDepth 100000 in
set_option maxHeartbeats 8000000 in
theorem rinsert_any (a : Option Addr) (len cap : Nat) (z : List (Int × Int)) (T V p : Int) (w : World) (hz : Lst w a len cap z) (hr : Rising z) (hl : len ≤ 999) (hT : in64 T) (hV : in64 V) :
    Calls Tryz.prog 27 #[.slice a len cap, .agg #[.int .i64 T, .int .i64 V], .int .i64 p] w (InsP z T V p w) := by
  have hnew := Lib.hid (heap_new w (.cells #[.int .i64 T, .int .i64 V] 33))
  have B1 := (Below.refl w.heap.size w).alloc (Nat.le_refl _) (.cells #[.int .i64 T, .int .i64 V] 33)
  have s1 : w.heap.size < (w.alloc (.cells #[.int .i64 T, .int .i64 V] 33)).heap.size := by simp
  have hz1 := hz.keepN (World.grownBy_alloc w (.cells #[.int .i64 T, .int .i64 V] 33) none)
  have h64 := Lib.hid hz.all64
  have HLN := Lib.hid hz.len
  have HL0 := Lib.hid hz
  clear hz
  by_cases hbad : T < 0 ∨ 1099511627776 ≤ T
  · have HB := Lib.hid hbad
    rcases hbad with hbad | hbad
    all_goals
      go_enter Tryz.func27, Tryz.ntmps27
      go_wp2
      go_ret2
      exact .inl ⟨HB.out, rfl, B1⟩
  have hT0 : 0 ≤ T := by omega
  have hT1 : T < 1099511627776 := by omega
  have HB := Lib.hid hbad
  have hk : bef z T ≤ len := by rw [← HLN.out]; exact bef_le z T
  have hu : upt z T ≤ len := by rw [← HLN.out]; exact upt_le z T
  have hku := bef_le_upt hr T
  have hku1 := upt_le_bef hr T
  have HBI := Lib.hid (bef_iff hr T)
  have HAT := Lib.hid (at_time hr T)
  have HR := Lib.hid hr
  obtain ⟨a2, hs2, LB⟩ := lst_from HL0.out (upt z T) hu
  obtain ⟨m, hm⟩ : ∃ m, len - upt z T = m := ⟨_, rfl⟩
  rw [hm] at hs2 LB
  generalize cap - upt z T = c2 at hs2 LB
  have hml : upt z T + m = len := by omega
  have HML := Lib.hid hml
  have hm1 : m ≤ 999 := by omega
  have hk1 : bef z T ≤ 999 := by omega
  have HLB := Lib.hid LB
  have HS2 := Lib.hid hs2
  have HL1 := Lib.hid hz1
  clear LB hs2 hz1 hr hbad hm hml
  go_enter Tryz.func27, Tryz.ntmps27
  go_wp2_with fail
  generalize w.alloc (.cells #[.int .i64 T, .int .i64 V] 33) = W1 at *
  have t0 : W1.cell? ⟨w.heap.size, 0, none⟩ = some (.int .i64 T) := by rw [cell_of hnew.out]; rfl
  have t1 : W1.cell? ⟨w.heap.size, 1, none⟩ = some (.int .i64 V) := by rw [cell_of hnew.out]; rfl
  go_wp2_with fail
  clear t0 t1
  go_loopw [8, 9] (fun o i wr => ∃ j : Nat, j ≤ bef z T ∧ i = .int .i64 (j : Int) ∧ wr.ownsRow W1.heap.size 33 2 o j (smpCells (z.take j)) ∧ Below W1.heap.size W1 wr) (fun _ i _ => len - (intOf i).toNat)
  case atStart => exact ⟨0, Nat.zero_le _, rfl, World.ownsRow_nil _ _ _ _, Below.refl _ _⟩
  case round =>
    obtain ⟨j, hj, rfl, hown, B2⟩ := hrel
    have s2 := B2.size
    have t0 : wr.cell? ⟨w.heap.size, 0, none⟩ = some (.int .i64 T) := by rw [B2.cell s1, cell_of hnew.out]; rfl
    have t1 : wr.cell? ⟨w.heap.size, 1, none⟩ = some (.int .i64 V) := by rw [B2.cell s1, cell_of hnew.out]; rfl
    have hj0 : (0 : Int) ≤ (j : Int) := by omega
    by_cases hjb : j < bef z T
    · have hjl : j < len := by omega
      obtain ⟨q, o, rfl, hq, x0, x1⟩ := HL1.out.1.at_ j hjl
      have X0 := Lib.hid x0
      have X1 := Lib.hid x1
      rw [← B2.cell hq] at x0 x1
      have hlt := (HBI.out j (by rw [HLN.out]; exact hjl)).2 hjb
      have hj1 : (j : Int) < (len : Int) := by omega
      have hdec : decide ((j : Int) < (len : Int)) = true := decide_eq_true hj1
      have hdec2 : decide (tOf z j < T) = true := decide_eq_true hlt
      have HTK := Lib.hid (show z.take (j + 1) = z.take j ++ [(tOf z j, vOf z j)] from by
        have h1 : j < z.length := by rw [HLN.out]; exact hjl
        rw [List.take_succ_eq_append_getElem h1]
        congr 2
        unfold tOf vOf
        rw [List.getD_eq_getElem?_getD, List.getElem?_eq_getElem h1]; rfl)
      have HTL := Lib.hid (show (z.take j).length = j from by rw [List.length_take, HLN.out]; omega)
      have h6 := all64_at h64.out j
      generalize tOf z j = Tj at *
      generalize vOf z j = Vj at *
      go_wp2_with fail
      go_quiet (fail)
      have dq : Drew wr (wr.drewN nq) := ⟨nq, rfl⟩
      have o3 := hown.kept (dq.gb none) (by simp; exact Classical.em _)
      have B3 := bel_gbn B2 s2 (dq.gb none)
      have s3 : W1.heap.size ≤ (wr.drewN nq).heap.size := s2
      clear hown B2 s2 t0 t1 x0 x1 dq hdec hdec2
      generalize wr.drewN nq = W3 at *
      have x0 : W3.cell? ⟨q, o + j * 2, none⟩ = some (.int .i64 Tj) := by rw [B3.cell hq]; exact X0.out
      have x1 : W3.cell? ⟨q, o + j * 2 + 1, none⟩ = some (.int .i64 Vj) := by rw [B3.cell hq]; exact X1.out
      have LS := one_lst W3 Tj Vj h6.1 h6.2
      have o4 := o3.alloc (.cells #[.int .i64 Tj, .int .i64 Vj] 33)
      have B4 := B3.alloc s3 (.cells #[.int .i64 Tj, .int .i64 Vj] 33)
      have s4 : W1.heap.size ≤ (W3.alloc (.cells #[.int .i64 Tj, .int .i64 Vj] 33)).heap.size := by simp; omega
      go_wp2_with (at_builtin; (refine wpList_append_lst ?_ (.tmp 34) (.tmp 39) rfl W1.heap.size _ j (z.take j) rfl HTL.out o4 _ 1 1 [(Tj, Vj)] rfl LS (by omega) s4 ?_))
      intro v5 W5 o5 g5
      have B5 := B4.grown g5 s4 (fun k hk => (o4.lt k hk).1)
      clear o3 o4 LS B3 B4 s3 s4 x0 x1 g5
      go_wp2
      go_roundw
      case rel => exact ⟨j + 1, by omega, by go_num, by rw [HTK.out]; exact o5, B5⟩
      case measure => simp [intOf]; omega
    · obtain rfl : bef z T = j := by omega
      have HTL := Lib.hid (show (z.take (bef z T)).length = bef z T from by rw [List.length_take, HLN.out]; omega)
      have HNV := Lib.hid (show newV z T V p = if bef z T < upt z T then mergeS p (vOf z (bef z T)) V else (V, 0) from rfl)
      have HVIN := Lib.hid (newV_in (t := T) (p := p) h64.out hV)
      have Bw := B1.trans (B2.mono (Nat.le_of_lt s1))
      have hn2 : Hid (wr.heap[w.heap.size]? = _) := Lib.hid ((B2.block w.heap.size s1).trans hnew.out)
      have HINS := Lib.hid (show ∀ x, insL z T x = z.take (bef z T) ++ [(T, x)] ++ z.drop (upt z T) from fun x => rfl)
      have HI64 := Lib.hid (show ∀ x, in64 x → All64 (insL z T x) from fun x hx => insL_all64 h64.out hT hx)
      by_cases hat : bef z T < upt z T
      · obtain ⟨hkl, hTe⟩ := HAT.out.1 hat
        rw [HLN.out] at hkl
        obtain ⟨x, er, M⟩ : ∃ x er, Hid (mergeS p (vOf z (bef z T)) V = (x, er)) := ⟨_, _, Lib.hid rfl⟩
        have HV0 := Lib.hid (show newV z T V p = (x, er) from by rw [HNV.out, if_pos hat, M.out])
        have hx64 : in64 x := by have := HVIN.out; rw [HV0.out] at this; exact this
        have hup : upt z T = bef z T + 1 := by omega
        have HUP := Lib.hid hup
        have HMG := Lib.hid (show ∀ W, Calls Tryz.prog 52 #[.int .i64 p, .int .i64 (vOf z (bef z T)), .int .i64 V] W fun e w' => e = .returned (.tuple #[.int .i64 x, .int .i64 er]) ∧ W = w' from fun W => by
          have := rmerge_any p (vOf z (bef z T)) V W (all64_at h64.out _).2 hV
          rw [M.out] at this; exact this)
        obtain ⟨q, o, rfl, hq, x0, x1⟩ := HL0.out.1.at_ (bef z T) hkl
        have X1 := Lib.hid x1
        rw [hTe] at x0
        have X0 := Lib.hid x0
        rw [← Bw.cell hq] at x0 x1
        have hj1 : ((bef z T : Nat) : Int) < (len : Int) := by omega
        have hdec : decide (((bef z T : Nat) : Int) < (len : Int)) = true := decide_eq_true hj1
        have hdec2 : decide (T < T) = false := by simp
        clear hup hTe hat HNV
        go_wp2_with fail
        go_quiet (fail)
        have dq : Drew wr (wr.drewN nq) := ⟨nq, rfl⟩
        have o3 := hown.kept (dq.gb none) (by simp; exact Classical.em _)
        have B3 := bel_gbn Bw (by have := Bw.size; omega) (dq.gb none)
        have s3 : W1.heap.size ≤ (wr.drewN nq).heap.size := s2
        have hn3 : Hid ((wr.drewN nq).heap[w.heap.size]? = some (.cells #[.int .i64 T, .int .i64 V] 33 (0, 0))) := hn2
        clear hown B2 Bw s2 t0 t1 x0 x1 dq hn2 hdec2
        generalize wr.drewN nq = W3 at *
        have t0 : W3.cell? ⟨w.heap.size, 0, none⟩ = some (.int .i64 T) := by rw [cell_of hn3.out]; rfl
        have t1 : W3.cell? ⟨w.heap.size, 1, none⟩ = some (.int .i64 V) := by rw [cell_of hn3.out]; rfl
        have x0 : W3.cell? ⟨q, o + bef z T * 2, none⟩ = some (.int .i64 T) := by rw [B3.cell hq]; exact X0.out
        have x1 : W3.cell? ⟨q, o + bef z T * 2 + 1, none⟩ = some (.int .i64 (vOf z (bef z T))) := by rw [B3.cell hq]; exact X1.out
        have hdec3 : (T == T) = true := by simp
        go_wp2_with fail
        go_quiet (fail)
        have dq : Drew W3 (W3.drewN nq) := ⟨nq, rfl⟩
        have o4 := o3.kept (dq.gb none) (by simp; exact Classical.em _)
        have B4 := bel_gbn B3 (by have := B3.size; omega) (dq.gb none)
        have s4 : W1.heap.size ≤ (W3.drewN nq).heap.size := s3
        have hn4 : Hid ((W3.drewN nq).heap[w.heap.size]? = some (.cells #[.int .i64 T, .int .i64 V] 33 (0, 0))) := hn3
        clear o3 B3 s3 t0 t1 x0 x1 dq hn3 hdec hdec3
        generalize W3.drewN nq = W4 at *
        have t0 : W4.cell? ⟨w.heap.size, 0, none⟩ = some (.int .i64 T) := by rw [cell_of hn4.out]; rfl
        have t1 : W4.cell? ⟨w.heap.size, 1, none⟩ = some (.int .i64 V) := by rw [cell_of hn4.out]; rfl
        have x1 : W4.cell? ⟨q, o + bef z T * 2 + 1, none⟩ = some (.int .i64 (vOf z (bef z T))) := by rw [B4.cell hq]; exact X1.out
        generalize vOf z (bef z T) = v0 at *
        go_wp2_with fail
        go_quiet ((go_at_call 52; with_reducible exact quietL (HMG.out _)))
        have dq : Drew W4 (W4.drewN nq) := ⟨nq, rfl⟩
        have o5 := o4.kept (dq.gb none) (by simp; exact Classical.em _)
        have B5 := bel_gbn B4 (by have := B4.size; omega) (dq.gb none)
        have s5 : W1.heap.size ≤ (W4.drewN nq).heap.size := s4
        have hn5 : Hid ((W4.drewN nq).heap[w.heap.size]? = some (.cells #[.int .i64 T, .int .i64 V] 33 (0, 0))) := hn4
        clear o4 B4 s4 t0 t1 x1 dq hn4
        generalize W4.drewN nq = W5 at *
        by_cases her : er = 0
        · have hV6 := hx64
          have HOUT := Lib.hid (show (newV z T V p).2 = 0 ∧ (newV z T V p).1 = x from by rw [HV0.out]; exact ⟨her, rfl⟩)
          have t0 : W5.cell? ⟨w.heap.size, 0, none⟩ = some (.int .i64 T) := by rw [cell_of hn5.out]; rfl
          have t1 : W5.cell? ⟨w.heap.size, 1, none⟩ = some (.int .i64 V) := by rw [cell_of hn5.out]; rfl
          have f1 := frozen_of (o := 1) hn5.out
          have B6 := B5.setCell (p := ⟨w.heap.size, 1, none⟩) (Nat.le_refl _) (.int .i64 x)
          have o6 := o5.kept (row := some w.heap.size) (gb_set (gb_refl W5 (some w.heap.size)) 1 (.int .i64 x)) (by
            by_cases hnn : u8.ownBlock = none
            · exact .inl hnn
            · right; intro e; have := o5.lt _ e; omega)
          have hn6 := heap_set (o := 1) (v := .int .i64 x) hn5.out
          have s6 : W1.heap.size ≤ (W5.setCell ⟨w.heap.size, 1, none⟩ (.int .i64 x)).heap.size := by simp [World.setCell]; exact s5
          have HS6 := Lib.hid (show W5.heap.size = (W5.setCell ⟨w.heap.size, 1, none⟩ (.int .i64 x)).heap.size from by simp [World.setCell])
          have u0 : (W5.setCell ⟨w.heap.size, 1, none⟩ (.int .i64 x)).cell? ⟨w.heap.size, 0, none⟩ = some (.int .i64 T) := by rw [cell_of hn6]; rfl
          have u1 : (W5.setCell ⟨w.heap.size, 1, none⟩ (.int .i64 x)).cell? ⟨w.heap.size, 1, none⟩ = some (.int .i64 x) := by rw [cell_of hn6]; rfl
          have hne0 : (er != 0) = false := by rw [her]; rfl
          have hsl : ∀ W : World, (Instr.slice 53 (.slice (some ⟨q, o, none⟩) len cap) (some (.int .i64 (((bef z T : Nat) : Int) + 1))) none none).run Tryz.prog W = .ok (.slice a2 m c2) W := fun W => by
            have := HS2.out W
            rw [HUP.out, show ((bef z T + 1 : Nat) : Int) = ((bef z T : Nat) : Int) + 1 from by omega] at this
            exact this
          have hsl0 := trivial
          clear hn6 her hn5
          have LS := one_lst (W5.setCell ⟨w.heap.size, 1, none⟩ (.int .i64 x)) T x hT hV6
          rw [← HS6.out] at LS
          have o7 := o6.alloc (.cells #[.int .i64 T, .int .i64 x] 33)
          have B7 := B6.alloc (by have := B6.size; omega) (.cells #[.int .i64 T, .int .i64 x] 33)
          have s7 : W1.heap.size ≤ ((W5.setCell ⟨w.heap.size, 1, none⟩ (.int .i64 x)).alloc (.cells #[.int .i64 T, .int .i64 x] 33)).heap.size := by simp; omega
          go_wp2_with (at_builtin; (refine wpList_append_lst ?_ (.tmp 76) (.tmp 78) rfl W1.heap.size _ (bef z T) (z.take (bef z T)) rfl HTL.out o7 _ 1 1 [(T, x)] rfl LS (by omega) s7 ?_))
          intro v8 W8 o8 g8
          have B8 : Below w.heap.size w W8 := B7.grown g8 (by have := B7.size; omega) (fun k hk => by have := o7.lt k hk; omega)
          have s8 : W1.heap.size ≤ W8.heap.size := Nat.le_trans s7 g8.size
          have LB8 := HLB.out.keepB B8
          have HT8 := Lib.hid (show (z.take (bef z T) ++ [(T, x)]).length = bef z T + 1 from by rw [List.length_append, HTL.out]; rfl)
          clear LS o7 B7 s7 g8 hsl0 u0 u1 t0 t1 f1
          go_wp2_with (at_builtin; (refine wpList_append_lst ?_ (.tmp 80) (.tmp 83) rfl W1.heap.size _ (bef z T + 1) (z.take (bef z T) ++ [(T, x)]) rfl HT8.out o8 _ m c2 (z.drop (upt z T)) rfl LB8 (by omega) s8 ?_))
          intro v9 W9 o9 g9
          have B9 : Below w.heap.size w W9 := B8.grown g9 (by have := B8.size; omega) (fun k hk => by have := o8.lt k hk; omega)
          rw [show z.take (bef z T) ++ (T, x) :: z.drop (upt z T) = insL z T x from by rw [HINS.out]; simp] at o9
          have HLEN := Lib.hid (show (insL z T x).length = bef z T + 1 + m from by
            rw [HINS.out, List.length_append, HT8.out, List.length_drop, HLN.out]; have := HML.out; omega)
          obtain ⟨ad, cp, rfl, L9⟩ := owns_lst HLEN.out (HI64.out x hV6) (by omega) o9
          clear o9 o8 B8 s8 LB8 g9
          go_wp2
          go_ret2
          refine .inr (.inr ⟨HB.out, HOUT.out.1, ad, cp, ?_, ?_, B9⟩)
          · rw [HOUT.out.2, HLEN.out]; rfl
          · rw [HOUT.out.2, HLEN.out]; exact L9
        · have hne : (er != 0) = true := by rw [bne_iff_ne]; exact her
          have HOUT := Lib.hid (show (newV z T V p).2 ≠ 0 ∧ (newV z T V p).2 = er from by rw [HV0.out]; exact ⟨her, rfl⟩)
          clear her
          go_wp2
          go_ret2
          exact .inr (.inl ⟨HB.out, HOUT.out.1, by rw [HOUT.out.2]; exact ⟨rfl, B5⟩⟩)
      · have hup : upt z T = bef z T := by omega
        have HUP := Lib.hid hup
        have hV6 := hV
        have HOUT := Lib.hid (show (newV z T V p).2 = 0 ∧ (newV z T V p).1 = V from by rw [HNV.out, if_neg hat]; exact ⟨rfl, rfl⟩)
        have hsl : ∀ W : World, (Instr.slice 53 (.slice a len cap) (some (.int .i64 ((bef z T : Nat) : Int))) none none).run Tryz.prog W = .ok (.slice a2 m c2) W := fun W => by
          have := HS2.out W
          rw [HUP.out] at this
          exact this
        clear hup
        by_cases hkl : bef z T < len
        · have hTn : ¬ tOf z (bef z T) = T := fun e => hat (HAT.out.2 ⟨by rw [HLN.out]; exact hkl, e⟩)
          have hTl : ¬ tOf z (bef z T) < T := fun e => by have := (HBI.out (bef z T) (by rw [HLN.out]; exact hkl)).1 e; omega
          obtain ⟨q, o, rfl, hq, x0, x1⟩ := HL0.out.1.at_ (bef z T) hkl
          have X0 := Lib.hid x0
          rw [← Bw.cell hq] at x0 x1
          have hj1 : ((bef z T : Nat) : Int) < (len : Int) := by omega
          have hdec : decide (((bef z T : Nat) : Int) < (len : Int)) = true := decide_eq_true hj1
          have hdec2 : decide (tOf z (bef z T) < T) = false := decide_eq_false hTl
          have hdec3 : (tOf z (bef z T) == T) = false := by rw [beq_eq_false_iff_ne]; exact hTn
          clear hat hTn hTl HNV
          go_wp2_with fail
          go_quiet (fail)
          have dq : Drew wr (wr.drewN nq) := ⟨nq, rfl⟩
          have o3 := hown.kept (dq.gb none) (by simp; exact Classical.em _)
          have B3 := bel_gbn Bw (by have := Bw.size; omega) (dq.gb none)
          have s3 : W1.heap.size ≤ (wr.drewN nq).heap.size := s2
          have hn3 : Hid ((wr.drewN nq).heap[w.heap.size]? = some (.cells #[.int .i64 T, .int .i64 V] 33 (0, 0))) := hn2
          clear hown B2 Bw s2 t0 t1 x0 x1 dq hn2 hdec2
          generalize wr.drewN nq = W3 at *
          have t0 : W3.cell? ⟨w.heap.size, 0, none⟩ = some (.int .i64 T) := by rw [cell_of hn3.out]; rfl
          have t1 : W3.cell? ⟨w.heap.size, 1, none⟩ = some (.int .i64 V) := by rw [cell_of hn3.out]; rfl
          have x0 : W3.cell? ⟨q, o + bef z T * 2, none⟩ = some (.int .i64 (tOf z (bef z T))) := by rw [B3.cell hq]; exact X0.out
          generalize tOf z (bef z T) = Tb at *
          go_wp2_with fail
          go_quiet (fail)
          have dq : Drew W3 (W3.drewN nq) := ⟨nq, rfl⟩
          have o4 := o3.kept (dq.gb none) (by simp; exact Classical.em _)
          have B4 := bel_gbn B3 (by have := B3.size; omega) (dq.gb none)
          have s4 : W1.heap.size ≤ (W3.drewN nq).heap.size := s3
          have hn4 : Hid ((W3.drewN nq).heap[w.heap.size]? = some (.cells #[.int .i64 T, .int .i64 V] 33 (0, 0))) := hn3
          clear o3 B3 s3 t0 t1 x0 dq hn3 hdec
          generalize W3.drewN nq = W4 at *
          have t0 : W4.cell? ⟨w.heap.size, 0, none⟩ = some (.int .i64 T) := by rw [cell_of hn4.out]; rfl
          have t1 : W4.cell? ⟨w.heap.size, 1, none⟩ = some (.int .i64 V) := by rw [cell_of hn4.out]; rfl

          have LS := one_lst W4 T V hT hV6
          have o7 := o4.alloc (.cells #[.int .i64 T, .int .i64 V] 33)
          have B7 := B4.alloc (by have := B4.size; omega) (.cells #[.int .i64 T, .int .i64 V] 33)
          have s7 : W1.heap.size ≤ (W4.alloc (.cells #[.int .i64 T, .int .i64 V] 33)).heap.size := by simp; omega
          go_wp2_with (at_builtin; (refine wpList_append_lst ?_ (.tmp 76) (.tmp 78) rfl W1.heap.size _ (bef z T) (z.take (bef z T)) rfl HTL.out o7 _ 1 1 [(T, V)] rfl LS (by omega) s7 ?_))
          intro v8 W8 o8 g8
          have B8 : Below w.heap.size w W8 := B7.grown g8 (by have := B7.size; omega) (fun k hk => by have := o7.lt k hk; omega)
          have s8 : W1.heap.size ≤ W8.heap.size := Nat.le_trans s7 g8.size
          have LB8 := HLB.out.keepB B8
          have HT8 := Lib.hid (show (z.take (bef z T) ++ [(T, V)]).length = bef z T + 1 from by rw [List.length_append, HTL.out]; rfl)
          clear LS o7 B7 s7 g8 t0 t1
          go_wp2_with (at_builtin; (refine wpList_append_lst ?_ (.tmp 80) (.tmp 83) rfl W1.heap.size _ (bef z T + 1) (z.take (bef z T) ++ [(T, V)]) rfl HT8.out o8 _ m c2 (z.drop (upt z T)) rfl LB8 (by omega) s8 ?_))
          intro v9 W9 o9 g9
          have B9 : Below w.heap.size w W9 := B8.grown g9 (by have := B8.size; omega) (fun k hk => by have := o8.lt k hk; omega)
          rw [show z.take (bef z T) ++ (T, V) :: z.drop (upt z T) = insL z T V from by rw [HINS.out]; simp] at o9
          have HLEN := Lib.hid (show (insL z T V).length = bef z T + 1 + m from by
            rw [HINS.out, List.length_append, HT8.out, List.length_drop, HLN.out]; have := HML.out; omega)
          obtain ⟨ad, cp, rfl, L9⟩ := owns_lst HLEN.out (HI64.out V hV6) (by omega) o9
          clear o9 o8 B8 s8 LB8 g9
          go_wp2
          go_ret2
          refine .inr (.inr ⟨HB.out, HOUT.out.1, ad, cp, ?_, ?_, B9⟩)
          · rw [HOUT.out.2, HLEN.out]; rfl
          · rw [HOUT.out.2, HLEN.out]; exact L9
        · have hdec : decide (((bef z T : Nat) : Int) < (len : Int)) = false := by rw [decide_eq_false_iff_not]; omega
          clear hat HNV
          go_wp2_with fail
          go_quiet (fail)
          have dq : Drew wr (wr.drewN nq) := ⟨nq, rfl⟩
          have o3 := hown.kept (dq.gb none) (by simp; exact Classical.em _)
          have B3 := bel_gbn Bw (by have := Bw.size; omega) (dq.gb none)
          have s3 : W1.heap.size ≤ (wr.drewN nq).heap.size := s2
          have hn3 : Hid ((wr.drewN nq).heap[w.heap.size]? = some (.cells #[.int .i64 T, .int .i64 V] 33 (0, 0))) := hn2
          clear hown B2 Bw s2 t0 t1 dq hn2
          generalize wr.drewN nq = W3 at *
          have t0 : W3.cell? ⟨w.heap.size, 0, none⟩ = some (.int .i64 T) := by rw [cell_of hn3.out]; rfl
          have t1 : W3.cell? ⟨w.heap.size, 1, none⟩ = some (.int .i64 V) := by rw [cell_of hn3.out]; rfl
          have x0 := trivial
          go_wp2_with fail
          go_quiet (fail)
          have dq : Drew W3 (W3.drewN nq) := ⟨nq, rfl⟩
          have o4 := o3.kept (dq.gb none) (by simp; exact Classical.em _)
          have B4 := bel_gbn B3 (by have := B3.size; omega) (dq.gb none)
          have s4 : W1.heap.size ≤ (W3.drewN nq).heap.size := s3
          have hn4 : Hid ((W3.drewN nq).heap[w.heap.size]? = some (.cells #[.int .i64 T, .int .i64 V] 33 (0, 0))) := hn3
          clear o3 B3 s3 t0 t1 x0 dq hn3 hdec
          generalize W3.drewN nq = W4 at *
          have t0 : W4.cell? ⟨w.heap.size, 0, none⟩ = some (.int .i64 T) := by rw [cell_of hn4.out]; rfl
          have t1 : W4.cell? ⟨w.heap.size, 1, none⟩ = some (.int .i64 V) := by rw [cell_of hn4.out]; rfl

          have LS := one_lst W4 T V hT hV6
          have o7 := o4.alloc (.cells #[.int .i64 T, .int .i64 V] 33)
          have B7 := B4.alloc (by have := B4.size; omega) (.cells #[.int .i64 T, .int .i64 V] 33)
          have s7 : W1.heap.size ≤ (W4.alloc (.cells #[.int .i64 T, .int .i64 V] 33)).heap.size := by simp; omega
          go_wp2_with (at_builtin; (refine wpList_append_lst ?_ (.tmp 76) (.tmp 78) rfl W1.heap.size _ (bef z T) (z.take (bef z T)) rfl HTL.out o7 _ 1 1 [(T, V)] rfl LS (by omega) s7 ?_))
          intro v8 W8 o8 g8
          have B8 : Below w.heap.size w W8 := B7.grown g8 (by have := B7.size; omega) (fun k hk => by have := o7.lt k hk; omega)
          have s8 : W1.heap.size ≤ W8.heap.size := Nat.le_trans s7 g8.size
          have LB8 := HLB.out.keepB B8
          have HT8 := Lib.hid (show (z.take (bef z T) ++ [(T, V)]).length = bef z T + 1 from by rw [List.length_append, HTL.out]; rfl)
          clear LS o7 B7 s7 g8 t0 t1
          go_wp2_with (at_builtin; (refine wpList_append_lst ?_ (.tmp 80) (.tmp 83) rfl W1.heap.size _ (bef z T + 1) (z.take (bef z T) ++ [(T, V)]) rfl HT8.out o8 _ m c2 (z.drop (upt z T)) rfl LB8 (by omega) s8 ?_))
          intro v9 W9 o9 g9
          have B9 : Below w.heap.size w W9 := B8.grown g9 (by have := B8.size; omega) (fun k hk => by have := o8.lt k hk; omega)
          rw [show z.take (bef z T) ++ (T, V) :: z.drop (upt z T) = insL z T V from by rw [HINS.out]; simp] at o9
          have HLEN := Lib.hid (show (insL z T V).length = bef z T + 1 + m from by
            rw [HINS.out, List.length_append, HT8.out, List.length_drop, HLN.out]; have := HML.out; omega)
          obtain ⟨ad, cp, rfl, L9⟩ := owns_lst HLEN.out (HI64.out V hV6) (by omega) o9
          clear o9 o8 B8 s8 LB8 g9
          go_wp2
          go_ret2
          refine .inr (.inr ⟨HB.out, HOUT.out.1, ad, cp, ?_, ?_, B9⟩)
          · rw [HOUT.out.2, HLEN.out]; rfl
          · rw [HOUT.out.2, HLEN.out]; exact L9

theorem insert_er (a : Option Addr) (len cap : Nat) (z : List (Int × Int)) (T V p er : Int) (w : World) (hz : Lst w a len cap z) (hr : Rising z) (hl : len ≤ 999) (hT : in64 T) (hV : in64 V)
    (h : ((T < 0 ∨ 1099511627776 ≤ T) ∧ er = 1) ∨ (¬ (T < 0 ∨ 1099511627776 ≤ T) ∧ (newV z T V p).2 = er ∧ er ≠ 0)) :
    Calls Tryz.prog 27 #[.slice a len cap, .agg #[.int .i64 T, .int .i64 V], .int .i64 p] w (InsErrP er w) := by
  refine (rinsert_any a len cap z T V p w hz hr hl hT hV).mono fun e w' hi => ?_
  rcases h with ⟨h1, rfl⟩ | ⟨h1, rfl, h2⟩
  · rcases hi with ⟨_, hi⟩ | ⟨h, _⟩ | ⟨h, _⟩
    · exact hi
    · exact absurd h1 h
    · exact absurd h1 h
  · rcases hi with ⟨h, _⟩ | ⟨_, _, hi⟩ | ⟨_, h, _⟩
    · exact absurd h h1
    · exact hi
    · exact absurd h h2
theorem insert_ok (a : Option Addr) (len cap : Nat) (z : List (Int × Int)) (T V p x : Int) (N : Nat) (w : World) (hz : Lst w a len cap z) (hr : Rising z) (hl : len ≤ 999) (hT : in64 T) (hV : in64 V)
    (h1 : ¬ (T < 0 ∨ 1099511627776 ≤ T)) (h2 : newV z T V p = (x, 0)) (hN : (insL z T x).length = N) :
    Calls Tryz.prog 27 #[.slice a len cap, .agg #[.int .i64 T, .int .i64 V], .int .i64 p] w (InsOkP (insL z T x) N w) := by
  refine (rinsert_any a len cap z T V p w hz hr hl hT hV).mono fun e w' hi => ?_
  rcases hi with ⟨h, _⟩ | ⟨_, h, _⟩ | ⟨_, _, hi⟩
  · exact absurd h h1
  · rw [h2] at h; exact absurd rfl h
  · rw [h2] at hi; subst hN; exact hi

end Go.Proofs.YtpbhdlhbcfkhfaaGreat
/-
  Contract of the document's own answer for layer 4: Without.
  Condition: at most 1000 samples.
-/
namespace Go.Proofs.YtpbhdlhbcfkhfaaGreat
open Go.RowKit
set_option linter.unusedVariables false
set_option linter.unusedSimpArgs false

def kept (x y : Int) (u : Int × Int) : Bool := decide (u.1 < x) || decide (y < u.1)
theorem kept_take (z : List (Int × Int)) (x y : Int) (j : Nat) (h : j < z.length) : (z.take (j + 1)).filter (kept x y) = (z.take j).filter (kept x y) ++ (if kept x y (tOf z j, vOf z j) = true then [(tOf z j, vOf z j)] else []) := by
  have e : z[j] = (tOf z j, vOf z j) := by unfold tOf vOf; rw [List.getD_eq_getElem?_getD, List.getElem?_eq_getElem h]; rfl
  rw [List.take_succ_eq_append_getElem h, List.filter_append, e]
  congr 1
  by_cases hk : kept x y (tOf z j, vOf z j) = true <;> simp [hk]

set_option maxRecDepth 100000 in
set_option maxHeartbeats 4000000 in
theorem without_any (a : Option Addr) (len cap : Nat) (z : List (Int × Int)) (x y : Int) (N : Nat) (w : World) (hz : Lst w a len cap z) (hr : Rising z) (hl : len ≤ 1000) (hN : (dropL z x y).length = N) :
    Calls Tryz.prog 35 #[.slice a len cap, .int .i64 x, .int .i64 y] w fun e w' => ∃ ad cp, e = .returned (.slice ad N cp) ∧ Lst w' ad N cp (dropL z x y) ∧ Below w.heap.size w w' := by
  have HLN := Lib.hid hz.len
  have HL := Lib.hid hz
  have h64 := Lib.hid hz.all64
  have HFI := Lib.hid (show z.filter (kept x y) = dropL z x y from filter_is hr x y)
  have HN := Lib.hid hN
  have H64D := Lib.hid (dropL_all64 hz.all64 x y)
  have hND : N ≤ 1000 := by rw [← hN, dropL_length, hz.len]; omega
  clear hz hr hN
  go_enter Tryz.func35, Tryz.ntmps35
  go_wp2_with fail
  go_loopw [7, 8] (fun o i wr => ∃ j n : Nat, j ≤ len ∧ n ≤ j ∧ i = .int .i64 (j : Int) ∧ Hid (((z.take j).filter (kept x y)).length = n) ∧ wr.ownsRow w.heap.size 33 2 o n (smpCells ((z.take j).filter (kept x y))) ∧ Below w.heap.size w wr) (fun _ i _ => len - (intOf i).toNat)
  case atStart => exact ⟨0, 0, Nat.zero_le _, Nat.le_refl _, rfl, Lib.hid rfl, World.ownsRow_nil _ _ _ _, Below.refl _ _⟩
  case round =>
    obtain ⟨j, n, hj, hnj, rfl, HFL, hown, B2⟩ := hrel
    have s2 := B2.size
    by_cases hjl : j < len
    · obtain ⟨q, o, rfl, hq, x0, x1⟩ := HL.out.1.at_ j hjl
      rw [← B2.cell hq] at x0 x1
      have HKT := Lib.hid (kept_take z x y j (by rw [HLN.out]; exact hjl))
      have h6 := all64_at h64.out j
      generalize tOf z j = T at *
      generalize vOf z j = V at *
      have HKD := Lib.hid (show kept x y (T, V) = (decide (T < x) || decide (y < T)) from rfl)
      rcases (show T < x ∨ (¬ T < x ∧ y < T) ∨ (¬ T < x ∧ ¬ y < T) by omega) with h1 | ⟨h1, h2⟩ | ⟨h1, h2⟩
      · have hk : kept x y (T, V) = true := by rw [HKD.out, decide_eq_true h1]; rfl
        have HT := Lib.hid (show (z.take (j + 1)).filter (kept x y) = (z.take j).filter (kept x y) ++ [(T, V)] from by rw [HKT.out, hk]; simp)
        clear hk HKD HKT
        have LS := one_lst wr T V h6.1 h6.2
        have o4 := hown.alloc (.cells #[.int .i64 T, .int .i64 V] 33)
        have B4 := B2.alloc s2 (.cells #[.int .i64 T, .int .i64 V] 33)
        have s4 : w.heap.size ≤ (wr.alloc (.cells #[.int .i64 T, .int .i64 V] 33)).heap.size := by simp; omega
        go_wp2_with (at_builtin; (refine wpList_append_lst ?_ (.tmp 31) (.tmp 36) rfl w.heap.size _ n ((z.take j).filter (kept x y)) rfl HFL.out o4 _ 1 1 [(T, V)] rfl LS (by omega) s4 ?_))
        intro v5 W5 o5 g5
        have B5 := B4.grown g5 s4 (fun k hk => (o4.lt k hk).1)
        clear o4 LS B4 s4 x0 x1 g5 hown B2
        go_wp2
        go_roundw
        case rel => exact ⟨j + 1, n + 1, by omega, by omega, by go_num, Lib.hid (by rw [HT.out, List.length_append, HFL.out]; rfl), by rw [HT.out]; exact o5, B5⟩
        case measure => simp [intOf]; omega
      · have hk : kept x y (T, V) = true := by rw [HKD.out, decide_eq_true h2]; simp
        have HT := Lib.hid (show (z.take (j + 1)).filter (kept x y) = (z.take j).filter (kept x y) ++ [(T, V)] from by rw [HKT.out, hk]; simp)
        clear hk HKD HKT
        have LS := one_lst wr T V h6.1 h6.2
        have o4 := hown.alloc (.cells #[.int .i64 T, .int .i64 V] 33)
        have B4 := B2.alloc s2 (.cells #[.int .i64 T, .int .i64 V] 33)
        have s4 : w.heap.size ≤ (wr.alloc (.cells #[.int .i64 T, .int .i64 V] 33)).heap.size := by simp; omega
        go_wp2_with (at_builtin; (refine wpList_append_lst ?_ (.tmp 31) (.tmp 36) rfl w.heap.size _ n ((z.take j).filter (kept x y)) rfl HFL.out o4 _ 1 1 [(T, V)] rfl LS (by omega) s4 ?_))
        intro v5 W5 o5 g5
        have B5 := B4.grown g5 s4 (fun k hk => (o4.lt k hk).1)
        clear o4 LS B4 s4 x0 x1 g5 hown B2
        go_wp2
        go_roundw
        case rel => exact ⟨j + 1, n + 1, by omega, by omega, by go_num, Lib.hid (by rw [HT.out, List.length_append, HFL.out]; rfl), by rw [HT.out]; exact o5, B5⟩
        case measure => simp [intOf]; omega
      · have hk : kept x y (T, V) = false := by rw [HKD.out, decide_eq_false h1, decide_eq_false h2]; rfl
        have HT := Lib.hid (show (z.take (j + 1)).filter (kept x y) = (z.take j).filter (kept x y) from by rw [HKT.out, hk]; simp)
        have hd1 : decide (T < x) = false := decide_eq_false h1
        have hd2 : decide (y < T) = false := decide_eq_false h2
        clear hk HKD HKT
        go_wp2
        go_roundw
        case rel => exact ⟨j + 1, n, by omega, by omega, by go_num, by rw [HT.out]; exact HFL, by rw [HT.out]; exact hown, B2⟩
        case measure => simp [intOf]; omega
    · obtain rfl : len = j := by omega
      have HE := Lib.hid (show (z.take len).filter (kept x y) = dropL z x y from by rw [← HLN.out, List.take_length]; exact HFI.out)
      rw [HE.out] at hown HFL
      have hnN : n = N := by rw [← HFL.out]; exact HN.out
      subst hnN
      obtain ⟨ad, cp, rfl, L9⟩ := owns_lst HN.out H64D.out (by omega) hown
      go_wp2
      go_ret
      exact ⟨ad, cp, rfl, L9, B2⟩

end Go.Proofs.YtpbhdlhbcfkhfaaGreat
/-
  Contracts of the document's own answer for layer 5: Get, Del, trim, Alter, Add.
  Condition: fewer than 1000 samples.
-/
namespace Go.Proofs.YtpbhdlhbcfkhfaaGreat
open Go.RowKit
set_option linter.unusedVariables false
set_option linter.unusedSimpArgs false

set_option maxHeartbeats 1000000 in
theorem rget5 (b : Nat) (s : Ser) (t x er : Int) (w : World) (hG : getL s.z t = (x, er)) (h : RSer w b s) (hr : Rising s.z) (hn : s.z.length ≤ 1000) :
    Calls Tryz.prog 14 #[.pointer (some ⟨b, 0, none⟩), .int .i64 t] w fun e w' => e = .returned (.tuple #[.int .i64 x, .int .i64 er]) ∧ w = w' := by
  obtain ⟨a, cap, hc, hl⟩ := h
  have c4 : w.cell? ⟨b, 4, none⟩ = some (.slice a s.z.length cap) := by rw [cell_of hc]; rfl
  have HL := Lib.hid hl
  have HR := Lib.hid hr
  have HGG := Lib.hid hG
  generalize s.z = z at *
  clear hc hl hr hG
  go_enter Tryz.func14, Tryz.ntmps14
  go_wp2_with fail
  go_loop [6] (fun i => ∃ j : Nat, j ≤ z.length ∧ i = .int .i64 (j : Int) ∧ Hid (∀ k, k < j → tOf z k ≠ t)) (fun i => z.length - (intOf i).toNat)
  case atStart => exact ⟨0, Nat.zero_le _, rfl, Lib.hid (fun k hk => absurd hk (Nat.not_lt_zero _))⟩
  case round =>
    obtain ⟨j, hj, rfl, HNO⟩ := hrel
    by_cases hjl : j < z.length
    · obtain ⟨q, o, rfl, hq, x0, x1⟩ := HL.out.1.at_ j hjl
      by_cases hT : tOf z j = t
      · have HG := Lib.hid (show getL z t = (vOf z j, 0) from getL_mem HR.out (by rw [← hT]; exact at_mem hjl))
        have he : (tOf z j == t) = true := by simpa using hT
        obtain ⟨hx, her⟩ : x = vOf z j ∧ er = 0 := by have := HGG.out.symm.trans HG.out; injection this with h1 h2; exact ⟨h1, h2⟩
        have HXV := Lib.hid (And.intro hx her)
        clear hT hx her
        generalize tOf z j = T at *
        generalize vOf z j = V at *
        go_wp2
        go_ret2
        exact ⟨by rw [HXV.out.1, HXV.out.2]; rfl, rfl⟩
      · have HNO2 := Lib.hid (show ∀ k, k < j + 1 → tOf z k ≠ t from fun k hk => by
          by_cases e : k = j
          · subst e; exact hT
          · exact HNO.out k (by omega))
        have he : (tOf z j == t) = false := by rw [beq_eq_false_iff_ne]; exact hT
        clear hT
        generalize tOf z j = T at *
        go_wp2
        go_round
        case rel => exact ⟨j + 1, by omega, by go_num, HNO2⟩
        case measure => simp [intOf]; omega
    · obtain rfl : z.length = j := by omega
      have HG := Lib.hid (show getL z t = (0, 5) from getL_no HR.out (fun u hu e => by
        obtain ⟨i, hi, h1, _⟩ := mem_at hu
        exact HNO.out i hi (by rw [h1]; exact e)))
      obtain ⟨hx, her⟩ : x = 0 ∧ er = 5 := by have := HGG.out.symm.trans HG.out; injection this with h1 h2; exact ⟨h1, h2⟩
      subst hx her
      go_wp2
      go_ret2
      exact ⟨rfl, rfl⟩

/-- A number is told, and the document's series is s'. -/
def RNum (b : Nat) (n : Int) (s' : Ser) (w : World) (e : Ending) (w' : World) : Prop := e = .returned (.int .i64 n) ∧ RSer w' b s' ∧ w.grownBy w' (some b)
def RDone (b : Nat) (s' : Ser) (w : World) (e : Ending) (w' : World) : Prop := (∃ v, e = .returned v) ∧ RSer w' b s' ∧ w.grownBy w' (some b)
theorem dropN_is5 (z : List (Int × Int)) (x y : Int) : z.length = (dropL z x y).length + dropN z x y := by
  have h1 := dropL_length z x y
  have h2 := upt_le z y
  unfold dropN at *
  omega
theorem RCell.setL {w : World} {b : Nat} {s : Ser} {v : Value} {a : Option Addr} {n cap : Nat} {z : List (Int × Int)} (hc : RCell w b s v) (hn : z.length = n) (hl : Lst w a n cap z) : RSer (w.setCell ⟨b, 4, none⟩ (.slice a n cap)) b ⟨s.ret, s.pol, s.mx, s.line, z⟩ := by
  subst hn
  have hk : NoSamp w b := noSamp_of hc (by decide)
  refine ⟨a, cap, ?_, ?_⟩
  · exact (heap_set (o := 4) (v := .slice a z.length cap) hc).trans rfl
  · exact hl.keep (gb_set (gb_refl w (some b)) _ _) (fun r e => by cases e; exact hk)
theorem RCell.lt {w : World} {b : Nat} {s : Ser} {v : Value} (h : RCell w b s v) : b < w.heap.size := heap_lt h

set_option maxHeartbeats 1000000 in
theorem rdel5 (b : Nat) (s : Ser) (x y : Int) (w : World) (h : RSer w b s) (hr : Rising s.z) (hn : s.z.length ≤ 1000) :
    Calls Tryz.prog 9 #[.pointer (some ⟨b, 0, none⟩), .int .i64 x, .int .i64 y] w (RNum b (dropN s.z x y : Int) (delS s x y) w) := by
  have hb := h.lt
  obtain ⟨a, cap, hc, hl⟩ := h
  have HC := Lib.hid hc
  have HL := Lib.hid hl
  have HR := Lib.hid hr
  have c4 : w.cell? ⟨b, 4, none⟩ = some (.slice a s.z.length cap) := by rw [cell_of hc]; rfl
  have hdn := dropN_is5 s.z x y
  obtain ⟨N, hN⟩ : ∃ N, (dropL s.z x y).length = N := ⟨_, rfl⟩
  rw [hN] at hdn
  have HN := Lib.hid hN
  have hd2 : ((s.z.length : Nat) : Int) - (N : Int) = ((dropN s.z x y : Nat) : Int) := by omega
  have HD2 := Lib.hid hd2
  have hNz : N ≤ s.z.length := by omega
  clear hc hl hr hN hdn hd2
  go_enter Tryz.func9, Tryz.ntmps9
  go_wp2_with fail
  refine (without_any a _ cap s.z x y N _ HL.out HR.out hn HN.out).mono ?_
  rintro e W1 ⟨ad, cp, rfl, L1, b1⟩
  have hc1 : RCell W1 b s (.slice a s.z.length cap) := (b1.block b hb).trans HC.out
  have d1 : W1.cell? ⟨b, 4, none⟩ = some (.slice a s.z.length cap) := by rw [cell_of hc1]; rfl
  have f1 := frozen_of (o := 4) hc1
  have HR1 := Lib.hid (RCell.setL hc1 HN.out L1)
  have hc2 := heap_set (o := 4) (v := .slice ad N cp) hc1
  have u1 : (W1.setCell ⟨b, 4, none⟩ (.slice ad N cp)).cell? ⟨b, 4, none⟩ = some (.slice ad N cp) := by rw [cell_of hc2]; rfl
  clear c4 hc1 hc2 L1
  go_wp2
  go_ret
  exact ⟨ret_int HD2.out, HR1.out, gb_set (gb_below b1) _ _⟩

theorem drop_pos {z : List (Int × Int)} (hr : Rising z) (hz : ∀ u ∈ z, 0 ≤ u.1) (l : Int) : dropL z (-1) l = dropL z 0 l := by
  rw [← filter_is hr, ← filter_is hr]
  apply List.filter_congr
  intro u hu
  have := hz u hu
  have e1 : decide (u.1 < -1) = false := decide_eq_false (by omega)
  have e2 : decide (u.1 < 0) = false := decide_eq_false (by omega)
  rw [e1, e2]

theorem RSer.setFloor {w : World} {b : Nat} {s : Ser} (h : RSer w b s) (v : Int) : RSer (w.setCell ⟨b, 3, none⟩ (.int .i64 v)) b ⟨s.ret, s.pol, s.mx, v, s.z⟩ := by
  obtain ⟨a, cap, hc, hl⟩ := h
  have hk : NoSamp w b := noSamp_of hc (by decide)
  exact ⟨a, cap, (heap_set (o := 3) (v := .int .i64 v) hc).trans rfl, hl.keep (gb_set (gb_refl w (some b)) _ _) (fun r e => by cases e; exact hk)⟩
theorem RSer.setMax {w : World} {b : Nat} {s : Ser} (h : RSer w b s) (v : Int) : RSer (w.setCell ⟨b, 2, none⟩ (.int .i64 v)) b ⟨s.ret, s.pol, v, s.line, s.z⟩ := by
  obtain ⟨a, cap, hc, hl⟩ := h
  have hk : NoSamp w b := noSamp_of hc (by decide)
  exact ⟨a, cap, (heap_set (o := 2) (v := .int .i64 v) hc).trans rfl, hl.keep (gb_set (gb_refl w (some b)) _ _) (fun r e => by cases e; exact hk)⟩
theorem RSer.setRet {w : World} {b : Nat} {s : Ser} (h : RSer w b s) (v : Int) : RSer (w.setCell ⟨b, 0, none⟩ (.int .i64 v)) b ⟨v, s.pol, s.mx, s.line, s.z⟩ := by
  obtain ⟨a, cap, hc, hl⟩ := h
  have hk : NoSamp w b := noSamp_of hc (by decide)
  exact ⟨a, cap, (heap_set (o := 0) (v := .int .i64 v) hc).trans rfl, hl.keep (gb_set (gb_refl w (some b)) _ _) (fun r e => by cases e; exact hk)⟩
theorem RSer.setPol {w : World} {b : Nat} {s : Ser} (h : RSer w b s) (v : Int) : RSer (w.setCell ⟨b, 1, none⟩ (.int .i64 v)) b ⟨s.ret, v, s.mx, s.line, s.z⟩ := by
  obtain ⟨a, cap, hc, hl⟩ := h
  have hk : NoSamp w b := noSamp_of hc (by decide)
  exact ⟨a, cap, (heap_set (o := 1) (v := .int .i64 v) hc).trans rfl, hl.keep (gb_set (gb_refl w (some b)) _ _) (fun r e => by cases e; exact hk)⟩
theorem RSer.cells {w : World} {b : Nat} {s : Ser} (h : RSer w b s) : w.cell? ⟨b, 0, none⟩ = some (.int .i64 s.ret) ∧ w.cell? ⟨b, 1, none⟩ = some (.int .i64 s.pol) ∧ w.cell? ⟨b, 2, none⟩ = some (.int .i64 s.mx) ∧ w.cell? ⟨b, 3, none⟩ = some (.int .i64 s.line) ∧ w.frozen? ⟨b, 0, none⟩ = false ∧ w.frozen? ⟨b, 1, none⟩ = false ∧ w.frozen? ⟨b, 2, none⟩ = false ∧ w.frozen? ⟨b, 3, none⟩ = false ∧ w.frozen? ⟨b, 4, none⟩ = false := by
  obtain ⟨a, cap, hc, hl⟩ := h
  exact ⟨by rw [cell_of hc]; rfl, by rw [cell_of hc]; rfl, by rw [cell_of hc]; rfl, by rw [cell_of hc]; rfl, frozen_of hc, frozen_of hc, frozen_of hc, frozen_of hc, frozen_of hc⟩

set_option maxRecDepth 100000 in
set_option maxHeartbeats 2000000 in
theorem rtrim5 (b : Nat) (s : Ser) (w : World) (h : RSer w b s) (hr : Rising s.z) (hn : s.z.length ≤ 1000) (hz : ∀ u ∈ s.z, 0 ≤ u.1) (r0 : 0 ≤ s.ret) (hm : in64 (s.mx - s.ret)) (hl : -9223372036854775808 ≤ lineS s - 1) (hl2 : lineS s ≤ 9223372036854775807) :
    Calls Tryz.prog 28 #[.pointer (some ⟨b, 0, none⟩)] w (RDone b (trimS s) w) := by
  have HRS := Lib.hid h
  have HR := Lib.hid hr
  have HDP := Lib.hid (drop_pos hr hz (lineS s - 1))
  clear h hr hz
  go_enter Tryz.func28, Tryz.ntmps28
  go_wp2_with fail
  refine (rline5 b s w HRS.out hm r0).mono ?_
  rintro e W1 ⟨rfl, d1⟩
  have R1 := HRS.out.keepB (drew_below d1)
  have f3 := R1.cells.2.2.2.2.2.2.2.1
  have c3 := R1.cells.2.2.2.1
  have HR2 := Lib.hid (R1.setFloor (lineS s))
  have HG2 := Lib.hid (gb_set (d1.gb (some b)) 3 (.int .i64 (lineS s)))
  have HT := Lib.hid (show trimS s = ⟨s.ret, s.pol, s.mx, lineS s, dropL s.z 0 (lineS s - 1)⟩ from rfl)
  rw [← HDP.out] at HT
  obtain ⟨ln, hln⟩ : ∃ ln, lineS s = ln := ⟨_, rfl⟩
  rw [hln] at HR2 HG2 HT hl hl2
  rw [hln]
  obtain ⟨N, hN⟩ : ∃ N, (dropL s.z (-1) (ln - 1)).length = N := ⟨_, rfl⟩
  have HN := Lib.hid hN
  clear R1 d1 HDP hN hln
  go_wp2_with fail
  generalize W1.setCell ⟨b, 3, none⟩ (.int .i64 ln) = W2 at *
  obtain ⟨a, cap, hc, hz⟩ := HR2.out
  have hb := heap_lt hc
  have c4 : W2.cell? ⟨b, 4, none⟩ = some (.slice a s.z.length cap) := by rw [cell_of hc]; rfl
  have c3' : W2.cell? ⟨b, 3, none⟩ = some (.int .i64 ln) := by rw [cell_of hc]; rfl
  have HC : Hid (RCell W2.drew b ⟨s.ret, s.pol, s.mx, ln, s.z⟩ (.slice a s.z.length cap)) := Lib.hid hc
  have HL : Hid (Lst W2.drew a s.z.length cap s.z) := Lib.hid hz
  have hbD : b < W2.drew.heap.size := hb
  have hwr : IntKind.i64.wrap (ln - 1) = ln - 1 := by rw [IntKind.wrap_i64]; omega
  clear hc hz c3 f3
  go_region_with
    (first
      | (go_at_call 35
         (with_reducible refine (without_any a _ cap s.z (-1) (ln - 1) N _ HL.out HR.out hn HN.out).mono ?_)
         rintro e W3 ⟨ad, cp, rfl, L3, b3⟩
         have hc3 : RCell W3 b ⟨s.ret, s.pol, s.mx, ln, s.z⟩ (.slice a s.z.length cap) := (b3.block b hbD).trans HC.out
         have d3 : W3.cell? ⟨b, 4, none⟩ = some (.slice a s.z.length cap) := by rw [cell_of hc3]; rfl
         have f4 := frozen_of (o := 4) hc3
         have HR3 := Lib.hid (RCell.setL hc3 HN.out L3)
         have HG3 := Lib.hid (gb_set (gb_below (row := some b) b3) 4 (.slice ad N cp))
         clear hc3 L3 b3)
      | fail)
  all_goals
    go_end0
    exact ⟨⟨_, rfl⟩, by rw [HT.out]; exact HR3.out, gb_trans HG2.out (gb_trans (Drew.gb (w := W2) ⟨1, rfl⟩ (some b)) HG3.out)⟩

end Go.Proofs.YtpbhdlhbcfkhfaaGreat
/-
  Contracts of the document's own answer for layer 5: Alter, Add.
  Condition: fewer than 1000 samples.
-/
namespace Go.Proofs.YtpbhdlhbcfkhfaaGreat
open Go.RowKit
set_option linter.unusedVariables false
set_option linter.unusedSimpArgs false

theorem line_of {s : Ser} (h : Std s) : lineS s = s.line := by
  unfold lineS
  split
  · rcases h.lr with h1 | h1 <;> omega
  · rfl
/-- An error, and what the document's series is then. -/
def RPut (b : Nat) (er : Int) (s' : Ser) (w : World) (e : Ending) (w' : World) : Prop := e = .returned (.int .i64 er) ∧ RSer w' b s' ∧ w.grownBy w' (some b)

set_option maxRecDepth 100000 in
set_option maxHeartbeats 2000000 in
theorem ralter5 (b : Nat) (s : Ser) (ret p : Int) (w : World) (h : RSer w b s) (hS : Std s) (hn : s.z.length ≤ 1000) :
    Calls Tryz.prog 11 #[.pointer (some ⟨b, 0, none⟩), .int .i64 ret, .int .i64 p] w (RPut b (altE ret p) (altS s ret p) w) := by
  have HR := Lib.hid h
  have HST := Lib.hid hS
  clear h hS
  by_cases hk : keepB ret p
  · have HE := Lib.hid (show altE ret p = 0 from by unfold altE; rw [if_pos hk])
    have HA := Lib.hid (show altS s ret p = trimS ⟨ret, p, s.mx, s.line, s.z⟩ from by unfold altS; rw [if_pos hk])
    have HK := Lib.hid (decide_eq_true hk)
    obtain ⟨⟨k1, k2⟩, k3, k4⟩ := hk
    go_enter Tryz.func11, Tryz.ntmps11
    go_wp2_with fail
    refine (rright5 ret p true w HK.out).mono ?_
    rintro e W1 ⟨rfl, b1⟩
    have R1 := HR.out.keepB b1
    have c0 := R1.cells.1
    have c1 := R1.cells.2.1
    have f0 := R1.cells.2.2.2.2.1
    have f1 := R1.cells.2.2.2.2.2.1
    have R2 := Lib.hid ((R1.setRet ret).setPol p)
    have G2 := Lib.hid (gb_set (gb_set (gb_below (row := some b) b1) 0 (.int .i64 ret)) 1 (.int .i64 p))
    clear R1 b1
    go_wp2_with fail
    generalize (W1.setCell ⟨b, 0, none⟩ (.int .i64 ret)).setCell ⟨b, 1, none⟩ (.int .i64 p) = W2 at *
    clear c0 c1 f0 f1
    have hst := HST.out
    have hm0 := hst.m0
    have hm1 := hst.m1
    have hl0 := hst.l0
    have hl1 := hst.l1
    have hls : lineS ⟨ret, p, s.mx, s.line, s.z⟩ = s.line ∨ lineS ⟨ret, p, s.mx, s.line, s.z⟩ = s.mx - ret := by unfold lineS; simp only; split <;> omega
    refine (rtrim5 b ⟨ret, p, s.mx, s.line, s.z⟩ W2 R2.out hst.rise hn hst.pos k1 ⟨by show _ ≤ s.mx - ret; omega, by show s.mx - ret ≤ _; omega⟩ (by omega) (by omega)).mono ?_
    rintro e W3 ⟨⟨u, rfl⟩, S3, g3⟩
    have HS3 := Lib.hid S3
    have HG3 := Lib.hid (gb_trans G2.out g3)
    clear S3 g3 hst hls
    go_wp2
    go_ret
    exact ⟨by rw [HE.out]; rfl, by rw [HA.out]; exact HS3.out, HG3.out⟩
  · have HE := Lib.hid (show altE ret p = 1 from by unfold altE; rw [if_neg hk])
    have HA := Lib.hid (show altS s ret p = s from by unfold altS; rw [if_neg hk])
    have HK := Lib.hid (decide_eq_false hk)
    clear hk
    go_enter Tryz.func11, Tryz.ntmps11
    go_wp2_with fail
    refine (rright5 ret p false w HK.out).mono ?_
    rintro e W1 ⟨rfl, b1⟩
    have R1 := Lib.hid (HR.out.keepB b1)
    go_wp2
    go_ret
    exact ⟨by rw [HE.out]; rfl, by rw [HA.out]; exact R1.out, gb_below b1⟩

set_option maxRecDepth 100000 in
set_option maxHeartbeats 8000000 in
theorem radd_bad (b : Nat) (s : Ser) (T V p : Int) (w : World) (h : RSer w b s) (hS : Std s) (hbad : badS s T p) :
    Calls Tryz.prog 7 #[.pointer (some ⟨b, 0, none⟩), .agg #[.int .i64 T, .int .i64 V], .int .i64 p] w (RPut b (addE s T V p) (addS5 s T V p) w) := by
  have HE := Lib.hid (show addE s T V p = 1 from by unfold addE; rw [if_pos hbad])
  have HA := Lib.hid (show addS5 s T V p = s from by unfold addS5; rw [HE.out, if_neg (by omega)])
  have B0 := (Below.refl w.heap.size w).alloc (Nat.le_refl _) (.cells #[.int .i64 T, .int .i64 V] 33)
  have HO := Lib.hid (heap_new w (.cells #[.int .i64 T, .int .i64 V] 33))
  have HR0 := Lib.hid (h.keepB B0)
  have HB0 := Lib.hid B0
  have hpol : ¬ T < 0 → ¬ T ≥ 1099511627776 → p ≠ 0 ∧ ¬ (1 ≤ p ∧ p ≤ 6) := by
    intro h1 h2
    unfold badS polS at hbad
    have hp0 := hS.p0
    have hp1 := hS.p1
    split at hbad <;> omega
  have HPOL := Lib.hid hpol
  clear h hS hbad B0 hpol
  by_cases h1 : T < 0
  · go_enter Tryz.func7, Tryz.ntmps7
    go_wp2_with fail
    go_ret
    exact ⟨by rw [HE.out]; rfl, by rw [HA.out]; exact HR0.out, gb_below HB0.out⟩
  by_cases h2 : T ≥ 1099511627776
  · go_enter Tryz.func7, Tryz.ntmps7
    go_wp2_with fail
    go_ret
    exact ⟨by rw [HE.out]; rfl, by rw [HA.out]; exact HR0.out, gb_below HB0.out⟩
  have h3 := HPOL.out h1 h2
  have hpb : (p != 0) = true := by simpa using h3.1
  have HK := Lib.hid (decide_eq_false h3.2)
  clear h3
  go_enter Tryz.func7, Tryz.ntmps7
  go_wp2_with fail
  refine (rname5 p _).mono ?_
  rintro e W1 ⟨t, rfl, t1, t0, b1⟩
  have t2 := t0 HK.out
  have t3 : t.toList.isEmpty = true := by simpa using t2
  have HB1 := Lib.hid (HB0.out.trans (b1.mono HB0.out.size))
  have HR1 := Lib.hid (HR0.out.keepB b1)
  clear t1 t0 b1
  go_wp2
  go_ret
  exact ⟨by rw [HE.out]; rfl, by rw [HA.out]; exact HR1.out, gb_below HB1.out⟩

set_option maxRecDepth 100000 in
set_option maxHeartbeats 16000000 in
theorem radd_good (b : Nat) (s : Ser) (T V p : Int) (w : World) (h : RSer w b s) (hS : Std s) (hn : s.z.length ≤ 998) (h64T : in64 T) (hV : in64 V) (hb : ¬ badS s T p) :
    Calls Tryz.prog 7 #[.pointer (some ⟨b, 0, none⟩), .agg #[.int .i64 T, .int .i64 V], .int .i64 p] w (RPut b (addE s T V p) (addS5 s T V p) w) := by
  have HST := Lib.hid hS
  have hbw := h.lt
  have HNB := Lib.hid hb
  have HRI := Lib.hid hS.rise
  have HLS := Lib.hid (line_of hS)
  have hm0 := hS.m0
  have hm1 := hS.m1
  have hl0 := hS.l0
  have hl1 := hS.l1
  have hmr : in64 (s.mx - s.ret) := by have := hS.r0; have := hS.r1; constructor <;> omega
  have hr0 := hS.r0
  have hr1 := hS.r1
  have h1 : ¬ T < 0 := fun hh => hb (.inl hh)
  have h2 : ¬ T ≥ 1099511627776 := fun hh => hb (.inr (.inl hh))
  have HPQ := Lib.hid (show 1 ≤ polS s p ∧ polS s p ≤ 6 from by
    apply Classical.byContradiction; intro hh; exact hb (.inr (.inr hh)))
  have B0 := (Below.refl w.heap.size w).alloc (Nat.le_refl _) (.cells #[.int .i64 T, .int .i64 V] 33)
  have HO := Lib.hid (heap_new w (.cells #[.int .i64 T, .int .i64 V] 33))
  have sk0 : w.heap.size < (w.alloc (.cells #[.int .i64 T, .int .i64 V] 33)).heap.size := by simp
  have HR0 := Lib.hid (h.keepB B0)
  have HB0 := Lib.hid B0
  clear h hS hb B0
  by_cases hp0 : p = 0
  · subst hp0
    have HQ := Lib.hid (show polS s 0 = s.pol from rfl)
    go_enter Tryz.func7, Tryz.ntmps7
    go_wp2_with fail
    generalize hWc : w.alloc (.cells #[.int .i64 T, .int .i64 V] 33) = Wc at *
    have t0 : Wc.cell? ⟨w.heap.size, 0, none⟩ = some (.int .i64 T) := by rw [cell_of HO.out]; rfl
    have t1 : Wc.cell? ⟨w.heap.size, 1, none⟩ = some (.int .i64 V) := by rw [cell_of HO.out]; rfl
    have HRc := HR0
    have HBc := HB0
    have sk := sk0
    clear hWc HO HR0 HB0 sk0
    have HBD : Hid (Below w.heap.size w Wc.drew) := Lib.hid HBc.out.drew
    have HRD : Hid (RSer Wc.drew b s) := HRc
    have tD : Wc.drew.cell? ⟨w.heap.size, 0, none⟩ = some (.int .i64 T) := t0
    have skD : w.heap.size < Wc.drew.heap.size := sk
    go_wp2_with fail
    go_region_held3 (fun w' => w'.cell? ⟨w.heap.size, 0, none⟩ = some (.int .i64 T))
      (first
        | (exact t3)
        | (exact tD)
        | go_keep
        | fail)
      (first
        | (go_at_call 26
           (with_reducible refine (rline5 b s _ HRD.out hmr hr0).mono ?_)
           rintro e W3 ⟨rfl, d3⟩
           rw [HLS.out]
           have b3 := drew_below d3
           have t3 : W3.cell? ⟨w.heap.size, 0, none⟩ = some (.int .i64 T) := (b3.cell skD).trans tD
           have HB3 := Lib.hid (HBD.out.trans (b3.mono HBD.out.size))
           have HR3 := Lib.hid (HRD.out.keepB b3)
           have sk3 := Nat.lt_of_lt_of_le skD b3.size
           have u3 : W3.cell? ⟨w.heap.size, 1, none⟩ = some (.int .i64 V) := (b3.cell skD).trans t1
           clear b3 d3)
        | fail)
    all_goals
      clear t0 t1 tD HRc HBc
      by_cases hold : T < s.line
      · have HE := Lib.hid (show addE s T V 0 = 7 from by unfold addE; rw [if_neg HNB.out, if_pos hold])
        have HA := Lib.hid (show addS5 s T V 0 = s from by unfold addS5; rw [HE.out, if_neg (by omega)])
        go_wp2
        go_ret
        exact ⟨by rw [HE.out]; rfl, by rw [HA.out]; exact HR3.out, gb_below HB3.out⟩
      · have HE := Lib.hid (show addE s T V 0 = (newV s.z T V s.pol).2 from by unfold addE; rw [if_neg HNB.out, if_neg hold, HQ.out])
        have HA1 := Lib.hid (show (newV s.z T V s.pol).2 ≠ 0 → addS5 s T V 0 = s from fun hh => by unfold addS5; rw [HE.out, if_neg hh])
        have HA0 := Lib.hid (show (newV s.z T V s.pol).2 = 0 → addS5 s T V 0 = trimS ⟨s.ret, s.pol, max s.mx T, s.line, insL s.z T (newV s.z T V s.pol).1⟩ from fun hh => by unfold addS5; rw [HE.out, if_pos hh, HQ.out])
        obtain ⟨a3, cap3, hc3, hl3⟩ := HR3.out
        have c4 : W3.cell? ⟨b, 4, none⟩ = some (.slice a3 s.z.length cap3) := by rw [cell_of hc3]; rfl
        have c1 : W3.cell? ⟨b, 1, none⟩ = some (.int .i64 s.pol) := by rw [cell_of hc3]; rfl
        have HL3 : Hid (Lst W3.drew a3 s.z.length cap3 s.z) := Lib.hid hl3
        have HLN := Lib.hid hl3.len
        obtain ⟨n, hn3⟩ : ∃ n, s.z.length = n := ⟨_, rfl⟩
        rw [hn3] at c4 HL3 hc3
        have hn4 : n ≤ 998 := by omega
        obtain ⟨er, her⟩ : ∃ er, (newV s.z T V s.pol).2 = er := ⟨_, rfl⟩
        obtain ⟨x, hx⟩ : ∃ x, (newV s.z T V s.pol).1 = x := ⟨_, rfl⟩
        have HNV := Lib.hid (show newV s.z T V s.pol = (x, er) from by rw [← her, ← hx])
        have HVX := Lib.hid (show in64 x from by rw [← hx]; exact newV_in HST.out.all hV)
        rw [her] at HE HA1 HA0
        rw [hx] at HA0
        have HBT := Lib.hid (show ¬ (T < 0 ∨ 1099511627776 ≤ T) from by omega)
        have HC3 := Lib.hid hc3
        have hb3 := heap_lt hc3
        clear hc3 hl3 hn3 her hx
        by_cases he0 : er = 0
        · subst he0
          obtain ⟨N, hN⟩ : ∃ N, (insL s.z T x).length = N := ⟨_, rfl⟩
          have HN := Lib.hid hN
          have hN2 : N ≤ 999 := by rw [← hN, insL_length _ _ _ HRI.out]; omega
          have HA2 := Lib.hid (HA0.out rfl)
          clear HA0 HA1 hN
          have cD4 : W3.drew.cell? ⟨b, 4, none⟩ = some (.slice a3 n cap3) := c4
          have tD3 : W3.drew.cell? ⟨w.heap.size, 0, none⟩ = some (.int .i64 T) := t3
          have uD3 : W3.drew.cell? ⟨w.heap.size, 1, none⟩ = some (.int .i64 V) := u3
          go_wp2_with fail
          go_region_held3 (fun w' => w'.cell? ⟨b, 4, none⟩ = some (.slice a3 n cap3) ∧ w'.cell? ⟨w.heap.size, 0, none⟩ = some (.int .i64 T) ∧ w'.cell? ⟨w.heap.size, 1, none⟩ = some (.int .i64 V))
            (first
              | (exact ⟨(b4.cell hb3).trans cD4, (b4.cell sk3).trans tD3, (b4.cell sk3).trans uD3⟩)
              | (exact ⟨cD4, tD3, uD3⟩)
              | go_keep
              | fail)
            (first
              | (go_at_call 27
                 (with_reducible refine (insert_ok a3 n cap3 s.z T V s.pol x N _ HL3.out HRI.out (by omega) h64T hV HBT.out HNV.out HN.out).mono ?_)
                 rintro e W4 ⟨ad, cp, rfl, L4, b4⟩)
              | fail)
          all_goals
            have hc4 : RCell W4 b s (.slice a3 n cap3) := (b4.block b hb3).trans HC3.out
            have d4 : W4.cell? ⟨b, 4, none⟩ = some (.slice a3 n cap3) := by rw [cell_of hc4]; rfl
            have f4 := frozen_of (o := 4) hc4
            have HR5 := Lib.hid (RCell.setL hc4 HN.out L4)
            have HB4 : Hid (Below w.heap.size w W4) := Lib.hid (HB3.out.drew.trans (b4.mono HB3.out.size))
            have HG5 := Lib.hid (gb_set (gb_below (row := some b) HB4.out) 4 (.slice ad N cp))
            have tk4 : W4.cell? ⟨w.heap.size, 0, none⟩ = some (.int .i64 T) := (b4.cell sk3).trans t3
            have tk5 := (gb_set (gb_refl W4 (some b)) 4 (.slice ad N cp)).cell tk4 (by simp; omega)
            clear hc4 L4 b4 c4 c1 t3 u3 cD4 tD3 uD3
            go_wp2_with fail
            generalize W4.setCell ⟨b, 4, none⟩ (.slice ad N cp) = W5 at *
            have c2 := HR5.out.cells.2.2.1
            have f2 := HR5.out.cells.2.2.2.2.2.2.1
            simp only at c2
            have hd : (T ≤ s.mx ∧ max s.mx T = s.mx) ∨ (¬ (T ≤ s.mx) ∧ max s.mx T = T) := by omega
            clear d4 f4 tk4
            rcases hd with ⟨hd, hl⟩ | ⟨hd, hl⟩
            all_goals
              have HL := Lib.hid hl
              clear hl
              go_wp2_with fail
              go_region
            all_goals
              have HL' := HL.out
              rw [← HL']
              have S6 : Hid (RSer (W5.setCell ⟨b, 2, none⟩ (.int .i64 (max s.mx T))).drew b ⟨s.ret, s.pol, max s.mx T, s.line, insL s.z T x⟩) := Lib.hid (HR5.out.setMax (max s.mx T))
              have G6 : Hid (w.grownBy (W5.setCell ⟨b, 2, none⟩ (.int .i64 (max s.mx T))).drew (some b)) := Lib.hid (gb_drew (gb_set HG5.out 2 _))
              clear HL' HL c2 f2 tk5
              generalize (W5.setCell ⟨b, 2, none⟩ (.int .i64 (max s.mx T))).drew = W6 at *
              have hmm : max s.mx T < 1099511627776 := by omega
              have hmm0 : -1 ≤ max s.mx T := by omega
              have hls : lineS ⟨s.ret, s.pol, max s.mx T, s.line, insL s.z T x⟩ = s.line ∨ lineS ⟨s.ret, s.pol, max s.mx T, s.line, insL s.z T x⟩ = max s.mx T - s.ret := by unfold lineS; simp only; split <;> omega
              have hpos : ∀ u ∈ insL s.z T x, 0 ≤ u.1 := by
                intro u hu
                rcases (insL_mem HRI.out _ _ u).1 hu with ⟨hx, _⟩ | rfl
                · exact HST.out.pos u hx
                · show 0 ≤ T; omega
              go_wp2_with fail
              refine (rtrim5 b ⟨s.ret, s.pol, max s.mx T, s.line, insL s.z T x⟩ W6 S6.out (insL_rising HRI.out _ _) (by show (insL s.z T x).length ≤ 1000; rw [HN.out]; omega) hpos hr0 ⟨by show _ ≤ max s.mx T - s.ret; omega, by show max s.mx T - s.ret ≤ _; omega⟩ (by omega) (by omega)).mono ?_
              rintro e W7 ⟨⟨v, rfl⟩, S7, g7⟩
              have HS7 := Lib.hid S7
              have HG7 := Lib.hid (gb_trans G6.out g7)
              clear S7 g7 hls hpos
              go_wp2
              go_ret
              exact ⟨by rw [HE.out]; rfl, by rw [HA2.out]; exact HS7.out, HG7.out⟩
        · have heb : (er != 0) = true := by simpa using he0
          have heb2 : (er == 0) = false := by simpa using he0
          have HH := Lib.hid he0
          have HA2 := Lib.hid (HA1.out he0)
          clear he0 HA0 HA1
          have cD4 : W3.drew.cell? ⟨b, 4, none⟩ = some (.slice a3 n cap3) := c4
          have tD3 : W3.drew.cell? ⟨w.heap.size, 0, none⟩ = some (.int .i64 T) := t3
          have uD3 : W3.drew.cell? ⟨w.heap.size, 1, none⟩ = some (.int .i64 V) := u3
          go_wp2_with fail
          go_region_held3 (fun w' => w'.cell? ⟨b, 4, none⟩ = some (.slice a3 n cap3) ∧ w'.cell? ⟨w.heap.size, 0, none⟩ = some (.int .i64 T) ∧ w'.cell? ⟨w.heap.size, 1, none⟩ = some (.int .i64 V))
            (first
              | (exact ⟨(b4.cell hb3).trans cD4, (b4.cell sk3).trans tD3, (b4.cell sk3).trans uD3⟩)
              | (exact ⟨cD4, tD3, uD3⟩)
              | go_keep
              | fail)
            (first
              | (go_at_call 27
                 (with_reducible refine (insert_er a3 n cap3 s.z T V s.pol er _ HL3.out HRI.out (by omega) h64T hV (.inr ⟨HBT.out, (by rw [HNV.out]), HH.out⟩)).mono ?_)
                 rintro e W4 ⟨rfl, b4⟩)
              | fail)
          all_goals
            have HB4 : Hid (Below w.heap.size w W4) := Lib.hid (HB3.out.drew.trans (b4.mono HB3.out.size))
            have HR4 : Hid (RSer W4 b s) := Lib.hid ((show RSer W3.drew b s from HR3.out).keepB b4)
            clear b4 c4 c1 t3 u3 cD4 tD3 uD3
            go_wp2
            go_ret
            exact ⟨by rw [HE.out]; rfl, by rw [HA2.out]; exact HR4.out, gb_below HB4.out⟩
  · have hpb : (p != 0) = true := by simpa using hp0
    have hpb2 : (p == 0) = false := by simpa using hp0
    have HQ := Lib.hid (show polS s p = p from by unfold polS; rw [if_neg hp0])
    have HK := Lib.hid (decide_eq_true (HQ.out ▸ HPQ.out))
    clear hp0
    go_enter Tryz.func7, Tryz.ntmps7
    go_wp2_with fail
    refine (rname5 p _).mono ?_
    rintro e Wc ⟨t, rfl, t1', t0', b1⟩
    have t2 := t1' HK.out
    have t3 : t.toList.isEmpty = false := by simpa using t2
    have HBc := Lib.hid (HB0.out.trans (b1.mono HB0.out.size))
    have HRc := Lib.hid (HR0.out.keepB b1)
    have t0 : Wc.cell? ⟨w.heap.size, 0, none⟩ = some (.int .i64 T) := (b1.cell sk0).trans (by rw [cell_of HO.out]; rfl)
    have t1 : Wc.cell? ⟨w.heap.size, 1, none⟩ = some (.int .i64 V) := (b1.cell sk0).trans (by rw [cell_of HO.out]; rfl)
    have sk := Nat.lt_of_lt_of_le sk0 b1.size
    clear t1' t0' b1 HO HR0 HB0 sk0
    have HBD : Hid (Below w.heap.size w Wc.drew) := Lib.hid HBc.out.drew
    have HRD : Hid (RSer Wc.drew b s) := HRc
    have tD : Wc.drew.cell? ⟨w.heap.size, 0, none⟩ = some (.int .i64 T) := t0
    have skD : w.heap.size < Wc.drew.heap.size := sk
    go_wp2_with fail
    go_region_held3 (fun w' => w'.cell? ⟨w.heap.size, 0, none⟩ = some (.int .i64 T))
      (first
        | (exact t3)
        | (exact tD)
        | go_keep
        | fail)
      (first
        | (go_at_call 26
           (with_reducible refine (rline5 b s _ HRD.out hmr hr0).mono ?_)
           rintro e W3 ⟨rfl, d3⟩
           rw [HLS.out]
           have b3 := drew_below d3
           have t3 : W3.cell? ⟨w.heap.size, 0, none⟩ = some (.int .i64 T) := (b3.cell skD).trans tD
           have HB3 := Lib.hid (HBD.out.trans (b3.mono HBD.out.size))
           have HR3 := Lib.hid (HRD.out.keepB b3)
           have sk3 := Nat.lt_of_lt_of_le skD b3.size
           have u3 : W3.cell? ⟨w.heap.size, 1, none⟩ = some (.int .i64 V) := (b3.cell skD).trans t1
           clear b3 d3)
        | fail)
    all_goals
      clear t0 t1 tD HRc HBc
      by_cases hold : T < s.line
      · have HE := Lib.hid (show addE s T V p = 7 from by unfold addE; rw [if_neg HNB.out, if_pos hold])
        have HA := Lib.hid (show addS5 s T V p = s from by unfold addS5; rw [HE.out, if_neg (by omega)])
        go_wp2
        go_ret
        exact ⟨by rw [HE.out]; rfl, by rw [HA.out]; exact HR3.out, gb_below HB3.out⟩
      · have HE := Lib.hid (show addE s T V p = (newV s.z T V p).2 from by unfold addE; rw [if_neg HNB.out, if_neg hold, HQ.out])
        have HA1 := Lib.hid (show (newV s.z T V p).2 ≠ 0 → addS5 s T V p = s from fun hh => by unfold addS5; rw [HE.out, if_neg hh])
        have HA0 := Lib.hid (show (newV s.z T V p).2 = 0 → addS5 s T V p = trimS ⟨s.ret, s.pol, max s.mx T, s.line, insL s.z T (newV s.z T V p).1⟩ from fun hh => by unfold addS5; rw [HE.out, if_pos hh, HQ.out])
        obtain ⟨a3, cap3, hc3, hl3⟩ := HR3.out
        have c4 : W3.cell? ⟨b, 4, none⟩ = some (.slice a3 s.z.length cap3) := by rw [cell_of hc3]; rfl
        have c1 : W3.cell? ⟨b, 1, none⟩ = some (.int .i64 s.pol) := by rw [cell_of hc3]; rfl
        have HL3 : Hid (Lst W3.drew a3 s.z.length cap3 s.z) := Lib.hid hl3
        have HLN := Lib.hid hl3.len
        obtain ⟨n, hn3⟩ : ∃ n, s.z.length = n := ⟨_, rfl⟩
        rw [hn3] at c4 HL3 hc3
        have hn4 : n ≤ 998 := by omega
        obtain ⟨er, her⟩ : ∃ er, (newV s.z T V p).2 = er := ⟨_, rfl⟩
        obtain ⟨x, hx⟩ : ∃ x, (newV s.z T V p).1 = x := ⟨_, rfl⟩
        have HNV := Lib.hid (show newV s.z T V p = (x, er) from by rw [← her, ← hx])
        have HVX := Lib.hid (show in64 x from by rw [← hx]; exact newV_in HST.out.all hV)
        rw [her] at HE HA1 HA0
        rw [hx] at HA0
        have HBT := Lib.hid (show ¬ (T < 0 ∨ 1099511627776 ≤ T) from by omega)
        have HC3 := Lib.hid hc3
        have hb3 := heap_lt hc3
        clear hc3 hl3 hn3 her hx
        by_cases he0 : er = 0
        · subst he0
          obtain ⟨N, hN⟩ : ∃ N, (insL s.z T x).length = N := ⟨_, rfl⟩
          have HN := Lib.hid hN
          have hN2 : N ≤ 999 := by rw [← hN, insL_length _ _ _ HRI.out]; omega
          have HA2 := Lib.hid (HA0.out rfl)
          clear HA0 HA1 hN
          have cD4 : W3.drew.cell? ⟨b, 4, none⟩ = some (.slice a3 n cap3) := c4
          have tD3 : W3.drew.cell? ⟨w.heap.size, 0, none⟩ = some (.int .i64 T) := t3
          have uD3 : W3.drew.cell? ⟨w.heap.size, 1, none⟩ = some (.int .i64 V) := u3
          go_wp2_with fail
          go_region_held3 (fun w' => w'.cell? ⟨b, 4, none⟩ = some (.slice a3 n cap3) ∧ w'.cell? ⟨w.heap.size, 0, none⟩ = some (.int .i64 T) ∧ w'.cell? ⟨w.heap.size, 1, none⟩ = some (.int .i64 V))
            (first
              | (exact ⟨(b4.cell hb3).trans cD4, (b4.cell sk3).trans tD3, (b4.cell sk3).trans uD3⟩)
              | (exact ⟨cD4, tD3, uD3⟩)
              | go_keep
              | fail)
            (first
              | (go_at_call 27
                 (with_reducible refine (insert_ok a3 n cap3 s.z T V p x N _ HL3.out HRI.out (by omega) h64T hV HBT.out HNV.out HN.out).mono ?_)
                 rintro e W4 ⟨ad, cp, rfl, L4, b4⟩)
              | fail)
          all_goals
            have hc4 : RCell W4 b s (.slice a3 n cap3) := (b4.block b hb3).trans HC3.out
            have d4 : W4.cell? ⟨b, 4, none⟩ = some (.slice a3 n cap3) := by rw [cell_of hc4]; rfl
            have f4 := frozen_of (o := 4) hc4
            have HR5 := Lib.hid (RCell.setL hc4 HN.out L4)
            have HB4 : Hid (Below w.heap.size w W4) := Lib.hid (HB3.out.drew.trans (b4.mono HB3.out.size))
            have HG5 := Lib.hid (gb_set (gb_below (row := some b) HB4.out) 4 (.slice ad N cp))
            have tk4 : W4.cell? ⟨w.heap.size, 0, none⟩ = some (.int .i64 T) := (b4.cell sk3).trans t3
            have tk5 := (gb_set (gb_refl W4 (some b)) 4 (.slice ad N cp)).cell tk4 (by simp; omega)
            clear hc4 L4 b4 c4 c1 t3 u3 cD4 tD3 uD3
            go_wp2_with fail
            generalize W4.setCell ⟨b, 4, none⟩ (.slice ad N cp) = W5 at *
            have c2 := HR5.out.cells.2.2.1
            have f2 := HR5.out.cells.2.2.2.2.2.2.1
            simp only at c2
            have hd : (T ≤ s.mx ∧ max s.mx T = s.mx) ∨ (¬ (T ≤ s.mx) ∧ max s.mx T = T) := by omega
            clear d4 f4 tk4
            rcases hd with ⟨hd, hl⟩ | ⟨hd, hl⟩
            all_goals
              have HL := Lib.hid hl
              clear hl
              go_wp2_with fail
              go_region
            all_goals
              have HL' := HL.out
              rw [← HL']
              have S6 : Hid (RSer (W5.setCell ⟨b, 2, none⟩ (.int .i64 (max s.mx T))).drew b ⟨s.ret, s.pol, max s.mx T, s.line, insL s.z T x⟩) := Lib.hid (HR5.out.setMax (max s.mx T))
              have G6 : Hid (w.grownBy (W5.setCell ⟨b, 2, none⟩ (.int .i64 (max s.mx T))).drew (some b)) := Lib.hid (gb_drew (gb_set HG5.out 2 _))
              clear HL' HL c2 f2 tk5
              generalize (W5.setCell ⟨b, 2, none⟩ (.int .i64 (max s.mx T))).drew = W6 at *
              have hmm : max s.mx T < 1099511627776 := by omega
              have hmm0 : -1 ≤ max s.mx T := by omega
              have hls : lineS ⟨s.ret, s.pol, max s.mx T, s.line, insL s.z T x⟩ = s.line ∨ lineS ⟨s.ret, s.pol, max s.mx T, s.line, insL s.z T x⟩ = max s.mx T - s.ret := by unfold lineS; simp only; split <;> omega
              have hpos : ∀ u ∈ insL s.z T x, 0 ≤ u.1 := by
                intro u hu
                rcases (insL_mem HRI.out _ _ u).1 hu with ⟨hx, _⟩ | rfl
                · exact HST.out.pos u hx
                · show 0 ≤ T; omega
              go_wp2_with fail
              refine (rtrim5 b ⟨s.ret, s.pol, max s.mx T, s.line, insL s.z T x⟩ W6 S6.out (insL_rising HRI.out _ _) (by show (insL s.z T x).length ≤ 1000; rw [HN.out]; omega) hpos hr0 ⟨by show _ ≤ max s.mx T - s.ret; omega, by show max s.mx T - s.ret ≤ _; omega⟩ (by omega) (by omega)).mono ?_
              rintro e W7 ⟨⟨v, rfl⟩, S7, g7⟩
              have HS7 := Lib.hid S7
              have HG7 := Lib.hid (gb_trans G6.out g7)
              clear S7 g7 hls hpos
              go_wp2
              go_ret
              exact ⟨by rw [HE.out]; rfl, by rw [HA2.out]; exact HS7.out, HG7.out⟩
        · have heb : (er != 0) = true := by simpa using he0
          have heb2 : (er == 0) = false := by simpa using he0
          have HH := Lib.hid he0
          have HA2 := Lib.hid (HA1.out he0)
          clear he0 HA0 HA1
          have cD4 : W3.drew.cell? ⟨b, 4, none⟩ = some (.slice a3 n cap3) := c4
          have tD3 : W3.drew.cell? ⟨w.heap.size, 0, none⟩ = some (.int .i64 T) := t3
          have uD3 : W3.drew.cell? ⟨w.heap.size, 1, none⟩ = some (.int .i64 V) := u3
          go_wp2_with fail
          go_region_held3 (fun w' => w'.cell? ⟨b, 4, none⟩ = some (.slice a3 n cap3) ∧ w'.cell? ⟨w.heap.size, 0, none⟩ = some (.int .i64 T) ∧ w'.cell? ⟨w.heap.size, 1, none⟩ = some (.int .i64 V))
            (first
              | (exact ⟨(b4.cell hb3).trans cD4, (b4.cell sk3).trans tD3, (b4.cell sk3).trans uD3⟩)
              | (exact ⟨cD4, tD3, uD3⟩)
              | go_keep
              | fail)
            (first
              | (go_at_call 27
                 (with_reducible refine (insert_er a3 n cap3 s.z T V p er _ HL3.out HRI.out (by omega) h64T hV (.inr ⟨HBT.out, (by rw [HNV.out]), HH.out⟩)).mono ?_)
                 rintro e W4 ⟨rfl, b4⟩)
              | fail)
          all_goals
            have HB4 : Hid (Below w.heap.size w W4) := Lib.hid (HB3.out.drew.trans (b4.mono HB3.out.size))
            have HR4 : Hid (RSer W4 b s) := Lib.hid ((show RSer W3.drew b s from HR3.out).keepB b4)
            clear b4 c4 c1 t3 u3 cD4 tD3 uD3
            go_wp2
            go_ret
            exact ⟨by rw [HE.out]; rfl, by rw [HA2.out]; exact HR4.out, gb_below HB4.out⟩

end Go.Proofs.YtpbhdlhbcfkhfaaGreat
namespace Go.Proofs.YtpbhdlhbcfkhfaaGreat
namespace seriesPlays
open Go.ChangeShapes Go.WideShapes Go.ChangeAt Go.RowKit
set_option linter.unusedVariables false
set_option linter.unusedSimpArgs false

theorem own : ownKnob Tryz.prog.godebug = none := by kernel_rfl
theorem laidOut : laidOutB Tryz.prog = true := by kernel_rfl

theorem ser_apart {w : World} {b r : Nat} {sz : Int} {s s' : Ser} (h : SerAt w b sz s) (k : RSer w r s') : b ≠ r := by
  obtain ⟨v, hv⟩ := h.cell
  obtain ⟨a, cap, hc, _⟩ := k
  intro e
  subst e
  have := hv.symm.trans hc
  simp at this
theorem ser_keepR {w w' : World} {b r : Nat} {sz : Int} {s s' : Ser} (h : SerAt w b sz s) (g : w.grownBy w' (some r)) (k : RSer w r s') : SerAt w' b sz s := by
  have hne := ser_apart h k
  obtain ⟨a, cap, hc, _⟩ := k
  exact h.keep g hne hc (by decide) (by decide) (by decide)
theorem rser_keepS {w w' : World} {b r : Nat} {sz : Int} {s s' : Ser} (k : RSer w r s') (g : w.grownBy w' (some b)) (h : SerAt w b sz s) : RSer w' r s' := by
  have hne := ser_apart h k
  obtain ⟨v, hv⟩ := h.cell
  obtain ⟨a, cap, hc, hl⟩ := k
  exact ⟨a, cap, (g.block r (heap_lt hc) (by simp; exact Ne.symm hne)).trans hc, hl.keep g (fun q e => by cases e; exact hv.noSamp)⟩
theorem radd5 (b : Nat) (s : Ser) (T V p : Int) (w : World) (h : RSer w b s) (hS : Std s) (hn : s.z.length ≤ 998) (h64T : in64 T) (hV : in64 V) :
    Calls Tryz.prog 7 #[.pointer (some ⟨b, 0, none⟩), .agg #[.int .i64 T, .int .i64 V], .int .i64 p] w (RPut b (addE s T V p) (addS5 s T V p) w) := by
  by_cases hb : badS s T p
  · exact radd_bad b s T V p w h hS hb
  · exact radd_good b s T V p w h hS hn h64T hV hb

theorem trod_two {H : Type} {enc : TypeId × Value → H} {P : Program} {w : World} {base : Nat} {spare : Nat → Bool} {held : Bool} {t e : TypeId} {fuel : Nat} {c0 c1 : Value} {x : DataW H × List MemPlace} (ht : P.underlying t = some (.array 2 e)) (hce : P.cellsOf e = 1)
    (h : DataW.trod enc P w base spare held fuel t [c0, c1] = some x) :
    ∃ y0 y1 n, DataW.trod enc P w base spare held n e [c0] = some y0 ∧ DataW.trod enc P w base spare held n e [c1] = some y1 := by
  cases fuel with
  | zero => simp [DataW.trod] at h
  | succ n =>
    unfold DataW.trod at h
    rw [ht] at h
    have r2 : List.range 2 = [0, 1] := rfl
    simp [r2, hce] at h
    obtain ⟨_, h⟩ := h
    cases h0 : DataW.trod enc P w base spare held n e [c0] with
    | none => simp [h0] at h
    | some y0 =>
      cases h1 : DataW.trod enc P w base spare held n e [c1] with
      | none => simp [h0, h1] at h
      | some y1 => exact ⟨y0, y1, n, h0, h1⟩
set_option maxRecDepth 100000 in
theorem open_arr2 {H : Type} {enc : TypeId × Value → H} {W : World} {r : Reach} {b0 : Nat} {v : Value} {d : DataW H} {p : List MemPlace}
    (hv : Value.okWide Tryz.prog W r b0 24 v) (h : DataW.Trod enc Tryz.prog W 0 (fun _ => true) true 24 v d p) :
    ∃ z : Int × Int, v = .agg #[.int .i64 z.1, .int .i64 z.2] ∧ in64 z.1 ∧ in64 z.2 := by
  simp only [Value.okWide, Tryz.underlying24] at hv
  obtain ⟨cs, rfl, hsz, _⟩ := hv
  have hc : cs.size = 2 := hsz.trans (by kernel_rfl)
  obtain ⟨l⟩ := cs
  match l, hc with
  | [c0, c1], _ =>
    obtain ⟨fuel, hf⟩ := h
    obtain ⟨y0, y1, n, h0, h1⟩ := trod_two Tryz.underlying24 (by kernel_rfl) hf
    obtain ⟨n0, e0, _, w0⟩ := DataW.trod_int Tryz.underlying3 h0
    obtain ⟨n1, e1, _, w1⟩ := DataW.trod_int Tryz.underlying3 h1
    simp at e0 e1
    subst e0 e1
    exact ⟨(n0, n1), rfl, bounds_i64 w0, bounds_i64 w1⟩

set_option maxRecDepth 100000 in
theorem open_arr3 {H : Type} {enc : TypeId × Value → H} {W : World} {r : Reach} {b0 : Nat} {v : Value} {d : DataW H} {p : List MemPlace}
    (hv : Value.okWide Tryz.prog W r b0 22 v) (h : DataW.Trod enc Tryz.prog W 0 (fun _ => true) true 22 v d p) :
    ∃ z : Int × Int × Int, v = .agg #[.int .i64 z.1, .int .i64 z.2.1, .int .i64 z.2.2] ∧ in64 z.1 ∧ in64 z.2.1 ∧ in64 z.2.2 := by
  simp only [Value.okWide, Tryz.underlying22] at hv
  obtain ⟨cs, rfl, hsz, _⟩ := hv
  have hc : cs.size = 3 := hsz.trans (by kernel_rfl)
  obtain ⟨l⟩ := cs
  match l, hc with
  | [c0, c1, c2], _ =>
    obtain ⟨fuel, hf⟩ := h
    obtain ⟨y0, y1, y2, n, _, h0, h1, h2⟩ := trod_array3 Tryz.underlying22 (by kernel_rfl) hf
    obtain ⟨n0, e0, _, w0⟩ := DataW.trod_int Tryz.underlying3 h0
    obtain ⟨n1, e1, _, w1⟩ := DataW.trod_int Tryz.underlying3 h1
    obtain ⟨n2, e2, _, w2⟩ := DataW.trod_int Tryz.underlying3 h2
    simp at e0 e1 e2
    subst e0 e1 e2
    exact ⟨(n0, n1, n2), rfl, bounds_i64 w0, bounds_i64 w1, bounds_i64 w2⟩

set_option maxRecDepth 100000 in
set_option maxHeartbeats 40000000 in
theorem walk (xx : Int × Int × Int) (a : Option Addr) (len cap : Nat) (zz : List Cl) (tt : Int × Int) (w : World) (hx : in64 xx.1 ∧ in64 xx.2.1 ∧ in64 xx.2.2) (hz : OpsC w a len zz) (ht : in64 tt.1 ∧ in64 tt.2) :
    Calls Tryz.prog 3 #[.agg #[.int .i64 xx.1, .int .i64 xx.2.1, .int .i64 xx.2.2], .slice a len cap, .agg #[.int .i64 tt.1, .int .i64 tt.2]] w fun e w' => e = .returned (.bool true) ∧ Below w.heap.size w w' := by
  obtain ⟨A, B, C⟩ := xx
  obtain ⟨D, E⟩ := tt
  simp only at hx ht ⊢
  have hlen := hz.2.1
  have HZ0 := Lib.hid hz
  clear hz hx ht
  have HBX := Lib.hid (heap_new w (.cells #[.int .i64 A, .int .i64 B, .int .i64 C] 22))
  have BX := (Below.refl w.heap.size w).alloc (Nat.le_refl _) (.cells #[.int .i64 A, .int .i64 B, .int .i64 C] 22)
  have nX : w.heap.size < (w.alloc (.cells #[.int .i64 A, .int .i64 B, .int .i64 C] 22)).heap.size := by simp
  have BY := BX.alloc (Nat.le_of_lt nX) (.cells #[.int .i64 D, .int .i64 E] 24)
  have HBY := Lib.hid (heap_new (w.alloc (.cells #[.int .i64 A, .int .i64 B, .int .i64 C] 22)) (.cells #[.int .i64 D, .int .i64 E] 24))
  have HBX2 := Lib.hid (heap_old (o := .cells #[.int .i64 D, .int .i64 E] 24) HBX.out)
  have nY : (w.alloc (.cells #[.int .i64 A, .int .i64 B, .int .i64 C] 22)).heap.size = w.heap.size + 1 := by simp
  have nZ : ((w.alloc (.cells #[.int .i64 A, .int .i64 B, .int .i64 C] 22)).alloc (.cells #[.int .i64 D, .int .i64 E] 24)).heap.size = w.heap.size + 1 + 1 := by simp
  have HZ := Lib.hid (HZ0.out.keep BY)
  rw [nY] at HBY
  clear HZ0 BX nX nY HBX
  go_enter Tryz.func3, Tryz.ntmps3
  go_wp2_with fail
  generalize (w.alloc (.cells #[.int .i64 A, .int .i64 B, .int .i64 C] 22)).alloc (.cells #[.int .i64 D, .int .i64 E] 24) = w0 at *
  have a0 : w0.cell? ⟨w.heap.size, 0, none⟩ = some (.int .i64 A) := by rw [cell_of HBX2.out]; rfl
  have a1 : w0.cell? ⟨w.heap.size, 1, none⟩ = some (.int .i64 B) := by rw [cell_of HBX2.out]; rfl
  have a2 : w0.cell? ⟨w.heap.size, 2, none⟩ = some (.int .i64 C) := by rw [cell_of HBX2.out]; rfl
  have nW : w.heap.size < w0.heap.size := by omega
  have nW2 : w.heap.size + 1 < w0.heap.size := by omega
  obtain ⟨w1s, hw1s⟩ : ∃ w1s, w.heap.size + 1 = w1s := ⟨_, rfl⟩
  rw [hw1s] at HBY nW2
  try rw [hw1s]
  clear hw1s nZ
  by_cases hgood : (128 ≤ A ∧ A ≤ 4096) ∧ keepB B C
  · obtain ⟨⟨z1, z2⟩, hk⟩ := hgood
    have HK := Lib.hid hk
    have hST := Lib.hid (Std.new hk)
    clear hk
    go_wp2_with fail
    refine (snew_at A B C w0 z1 z2 HK.out).mono ?_
    rintro e W1 ⟨b, rfl, S1, hb, B1⟩
    have HS1 := Lib.hid S1
    have b0 : W1.cell? ⟨w.heap.size, 0, none⟩ = some (.int .i64 A) := (B1.cell nW).trans a0
    have b1 : W1.cell? ⟨w.heap.size, 1, none⟩ = some (.int .i64 B) := (B1.cell nW).trans a1
    have b2 : W1.cell? ⟨w.heap.size, 2, none⟩ = some (.int .i64 C) := (B1.cell nW).trans a2
    clear S1 a0 a1 a2
    go_wp2_with fail
    refine (rnew5_ok A B C W1 z1 z2 HK.out).mono ?_
    rintro e W2 ⟨rb, rfl, R2, hrb, bb⟩
    have HR2 := Lib.hid R2
    have HS2 := Lib.hid (HS1.out.keepB bb)
    have B2 := B1.trans (bb.mono B1.size)
    have hrb0 : w0.heap.size ≤ rb := Nat.le_trans B1.size hrb
    clear R2 bb HS1 b0 b1 b2 B1 hrb
    go_wp2_with fail
    go_loopw [7, 11] (fun c i wr => ∃ (j b : Nat) (s : Ser), j ≤ len ∧ j ≤ 80 ∧ i = .int .i64 (j : Int) ∧ c = .pointer (some ⟨b, 0, none⟩) ∧ SerAt wr b A s ∧ RSer wr rb s ∧ Std s ∧ s.z.length ≤ j ∧ w0.heap.size ≤ b ∧ Below w0.heap.size w0 wr) (fun _ i _ => len - (intOf i).toNat)
    case atStart => exact ⟨0, b, newSer B C, Nat.zero_le _, Nat.zero_le _, rfl, rfl, HS2.out, HR2.out, hST.out, Nat.le_refl _, hb, B2⟩
    case round =>
      clear HS2 HR2 hST B2 hb
      obtain ⟨j, b, s, hj, hj2, rfl, rfl, hS, hR, hSt, hsl, hb, B1⟩ := hrel
      have HST := Lib.hid hSt
      have HS := Lib.hid hS
      have HR := Lib.hid hR
      have s1 := B1.size
      have hbk : b < wr.heap.size := hS.lt
      have hrk : rb < wr.heap.size := hR.lt
      clear hS hR hSt
      by_cases hjl : j < len
      · by_cases hjh : j < 80
        · have hjh' : (j : Int) < 80 := by omega
          obtain ⟨q, o, hqe, hq, x0, x1, x2, x3, h64⟩ := HZ.out.at_ j hjl
          subst hqe
          rw [← B1.cell hq] at x0 x1 x2 x3
          generalize opOf zz j = op at *
          obtain ⟨K, TT, VV, PP⟩ := op
          replace x0 : wr.cell? ⟨q, o + j * 4, none⟩ = some (.int .i64 K) := x0
          replace x1 : wr.cell? ⟨q, o + j * 4 + 1, none⟩ = some (.int .i64 TT) := x1
          replace x2 : wr.cell? ⟨q, o + j * 4 + 2, none⟩ = some (.int .i64 VV) := x2
          replace x3 : wr.cell? ⟨q, o + j * 4 + 3, none⟩ = some (.int .i64 PP) := x3
          have h64K : in64 K := h64.1
          have h64T : in64 TT := h64.2.1
          have h64V : in64 VV := h64.2.2.1
          have h64P : in64 PP := h64.2.2.2
          have hj0 : (0 : Int) ≤ (j : Int) := by omega
          have hj1 : (j : Int) < (len : Int) := by omega
          have hqW : q < w0.heap.size := hq
          clear h64
          have ga := World.grownBy_alloc wr (.cells #[.int .i64 K, .int .i64 TT, .int .i64 VV, .int .i64 PP] 35) none
          have HO := Lib.hid (heap_new wr (.cells #[.int .i64 K, .int .i64 TT, .int .i64 VV, .int .i64 PP] 35))
          have HS2 := Lib.hid (HS.out.keepN ga)
          have HR2 := Lib.hid (HR.out.keepN ga)
          have B2 := B1.alloc s1 (.cells #[.int .i64 K, .int .i64 TT, .int .i64 VV, .int .i64 PP] 35)
          have n2 : wr.heap.size < (wr.alloc (.cells #[.int .i64 K, .int .i64 TT, .int .i64 VV, .int .i64 PP] 35)).heap.size := by simp
          clear HS HR ga B1
          have hkb : wr.heap.size ≠ b := by omega
          have hkr : wr.heap.size ≠ rb := by omega
          rcases (show K = 0 ∨ K = 1 ∨ K = 2 ∨ (K ≠ 0 ∧ K ≠ 1 ∧ K ≠ 2) by omega) with hK | hK | hK | ⟨hK, hK1, hK2⟩
          · subst hK
            go_wp2_with fail
            generalize wr.alloc (.cells #[.int .i64 0, .int .i64 TT, .int .i64 VV, .int .i64 PP] 35) = W2 at *
            generalize wr.heap.size = kx at *
            have y0 : W2.cell? ⟨kx, 0, none⟩ = some (.int .i64 0) := by rw [cell_of HO.out]; rfl
            have y1 : W2.cell? ⟨kx, 1, none⟩ = some (.int .i64 TT) := by rw [cell_of HO.out]; rfl
            have y2 : W2.cell? ⟨kx, 2, none⟩ = some (.int .i64 VV) := by rw [cell_of HO.out]; rfl
            have y3 : W2.cell? ⟨kx, 3, none⟩ = some (.int .i64 PP) := by rw [cell_of HO.out]; rfl
            have HY := Lib.hid (show W2.drew.cell? ⟨kx, 1, none⟩ = some (.int .i64 TT) ∧ W2.drew.cell? ⟨kx, 2, none⟩ = some (.int .i64 VV) ∧ W2.drew.cell? ⟨kx, 3, none⟩ = some (.int .i64 PP) from ⟨y1, y2, y3⟩)
            have HSD : Hid (SerAt W2.drew b A s) := HS2
            have HRD : Hid (RSer W2.drew rb s) := HR2
            go_wp2_with fail
            go_region_held3 (fun w' => w'.cell? ⟨kx, 1, none⟩ = some (.int .i64 TT) ∧ w'.cell? ⟨kx, 2, none⟩ = some (.int .i64 VV) ∧ w'.cell? ⟨kx, 3, none⟩ = some (.int .i64 PP))
              (first
                | (exact HY5.out)
                | (exact HY4.out)
                | (exact HY.out)
                | go_keep
                | fail)
              (first
                | (go_at_call 6
                   (with_reducible refine (add_ser b A s TT VV PP _ HSD.out HST.out z1 z2 (by omega) h64V).mono ?_)
                   rintro e W4 ⟨rfl, S4, g4⟩
                   have HY4 := Lib.hid (And.intro (g4.cell HY.out.1 (by simp; exact hkb)) (And.intro (g4.cell HY.out.2.1 (by simp; exact hkb)) (g4.cell HY.out.2.2 (by simp; exact hkb))))
                   have HR4 := Lib.hid (rser_keepS HRD.out g4 HSD.out)
                   have HS4 := Lib.hid S4
                   have HG4 := Lib.hid g4
                   clear S4 g4)
                | (go_at_call 7
                   (with_reducible refine (radd5 rb s TT VV PP _ HR4.out HST.out (by omega) h64T h64V).mono ?_)
                   rintro e W5 ⟨rfl, R5, g5⟩
                   have HY5 := Lib.hid (And.intro (g5.cell HY4.out.1 (by simp; exact hkr)) (And.intro (g5.cell HY4.out.2.1 (by simp; exact hkr)) (g5.cell HY4.out.2.2 (by simp; exact hkr))))
                   have HS5 := Lib.hid (ser_keepR HS4.out g5 HR4.out)
                   have HR5 := Lib.hid R5
                   have HG5 := Lib.hid g5
                   clear R5 g5)
                | fail)
            all_goals
              have B4 := bel_gb (B2.drew) (by show w0.heap.size ≤ W2.heap.size; omega) hb HG4.out
              have B5 := bel_gb B4 B4.size hrb0 HG5.out
              have B5s : W2.heap.size ≤ W5.heap.size := by have h1 : W2.heap.size ≤ W4.heap.size := HG4.out.size; have h2 : W4.heap.size ≤ W5.heap.size := HG5.out.size; omega
              have HST5 := Lib.hid (HST.out.add TT VV PP h64V)
              have hl5 : (addS5 s TT VV PP).z.length ≤ j + 1 := by have := add_len HST.out.rise TT VV PP; omega
              have y5 := HY5.out.1
              clear y0 y1 y2 y3 B4 HG4 HG5 HR4 HS4 HSD HRD HY HY4 HY5 HS2 HR2 B2 x0 x1 x2 x3
              generalize addE s TT VV PP = er at *
              generalize addS5 s TT VV PP = s5 at *
              have hee : (er == er) = true := by simp
              have hee2 : (er != er) = false := by simp
              have B5n : W2.heap.size ≤ W5.heap.size := B5s
              obtain ⟨X, er2, hG⟩ : ∃ X er2, getL s5.z TT = (X, er2) := ⟨_, _, rfl⟩
              have HGG := Lib.hid hG
              clear hG
              go_wp2_with fail
              refine (get_ser b A s5 TT X er2 W5 HGG.out HS5.out z1 HST5.out.rise (by omega)).mono ?_
              rintro e W6 ⟨rfl, b6⟩
              have HS6 := Lib.hid (HS5.out.keepB b6)
              have HR6 := Lib.hid (HR5.out.keepB b6)
              have B6 := B5.trans (b6.mono B5.size)
              have nk5 := Nat.lt_of_lt_of_le n2 B5n
              have y6 : W6.cell? ⟨kx, 1, none⟩ = some (.int .i64 TT) := (b6.cell nk5).trans y5
              have HE6 := Lib.hid ((B6.block _ nW2).trans HBY.out)
              have HX6 := Lib.hid ((B6.block _ nW).trans HBX2.out)
              clear b6 HS5 HR5 B5 y5
              go_wp2_with fail
              refine (rget5 rb s5 TT X er2 W6 HGG.out HR6.out HST5.out.rise (by omega)).mono ?_
              rintro e w' ⟨rfl, rfl⟩
              have d0 : W6.cell? ⟨w1s, 0, none⟩ = some (.int .i64 D) := by rw [cell_of HE6.out]; rfl
              have d1 : W6.cell? ⟨w1s, 1, none⟩ = some (.int .i64 E) := by rw [cell_of HE6.out]; rfl
              have hxx : (X == X) = true := by simp
              have hxx2 : (X != X) = false := by simp
              have hrr : (er2 == er2) = true := by simp
              have hrr2 : (er2 != er2) = false := by simp
              go_wp2_with fail
              refine (same5 b rb A s5 D E W6 HS6.out HR6.out HST5.out z1 z2 (by omega)).mono ?_
              rintro e W7 ⟨rfl, b7⟩
              have HS7 := Lib.hid (HS6.out.keepB b7)
              have HR7 := Lib.hid (HR6.out.keepB b7)
              have B7 := B6.trans (b7.mono B6.size)
              have f0 : W7.cell? ⟨w.heap.size, 0, none⟩ = some (.int .i64 A) := by
                have h1 := B7.block _ nW
                rw [HBX2.out] at h1
                rw [cell_of h1]; rfl
              clear b7 HS6 HR6 B6 d0 d1 y6
              go_wp2_with fail
              refine (whole_any b A s5 W7 HS7.out z1 z2 (by omega)).mono ?_
              rintro e W8 ⟨rfl, b8⟩
              have HS8 := Lib.hid (HS7.out.keepB b8)
              have HR8 := Lib.hid (HR7.out.keepB b8)
              have B8 := B7.trans (b8.mono B7.size)
              clear b8 HS7 HR7 B7 f0
              go_wp2
              go_roundw
              case rel => exact ⟨j + 1, b, s5, by omega, by omega, by go_num, rfl, HS8.out, HR8.out, HST5.out, by omega, hb, B8⟩
              case measure => simp [intOf]; omega
          · subst hK
            go_wp2_with fail
            generalize wr.alloc (.cells #[.int .i64 1, .int .i64 TT, .int .i64 VV, .int .i64 PP] 35) = W2 at *
            generalize wr.heap.size = kx at *
            have y0 : W2.cell? ⟨kx, 0, none⟩ = some (.int .i64 1) := by rw [cell_of HO.out]; rfl
            have y1 : W2.cell? ⟨kx, 1, none⟩ = some (.int .i64 TT) := by rw [cell_of HO.out]; rfl
            have y2 : W2.cell? ⟨kx, 2, none⟩ = some (.int .i64 VV) := by rw [cell_of HO.out]; rfl
            have y3 : W2.cell? ⟨kx, 3, none⟩ = some (.int .i64 PP) := by rw [cell_of HO.out]; rfl
            have HY := Lib.hid (show W2.drew.cell? ⟨kx, 1, none⟩ = some (.int .i64 TT) ∧ W2.drew.cell? ⟨kx, 2, none⟩ = some (.int .i64 VV) ∧ W2.drew.cell? ⟨kx, 3, none⟩ = some (.int .i64 PP) from ⟨y1, y2, y3⟩)
            have HSD : Hid (SerAt W2.drew b A s) := HS2
            have HRD : Hid (RSer W2.drew rb s) := HR2
            go_wp2_with fail
            go_region_held3 (fun w' => w'.cell? ⟨kx, 1, none⟩ = some (.int .i64 TT) ∧ w'.cell? ⟨kx, 2, none⟩ = some (.int .i64 VV) ∧ w'.cell? ⟨kx, 3, none⟩ = some (.int .i64 PP))
              (first
                | (exact HY5.out)
                | (exact HY4.out)
                | (exact HY.out)
                | go_keep
                | fail)
              (first
                | (go_at_call 8
                   (with_reducible refine (del_any b A s TT VV _ HSD.out z1 z2 HST.out.rise (by omega)).mono ?_)
                   rintro e W4 ⟨rfl, S4, g4⟩
                   have HY4 := Lib.hid (And.intro (g4.cell HY.out.1 (by simp; exact hkb)) (And.intro (g4.cell HY.out.2.1 (by simp; exact hkb)) (g4.cell HY.out.2.2 (by simp; exact hkb))))
                   have HR4 := Lib.hid (rser_keepS HRD.out g4 HSD.out)
                   have HS4 := Lib.hid S4
                   have HG4 := Lib.hid g4
                   clear S4 g4)
                | (go_at_call 9
                   (with_reducible refine (rdel5 rb s TT VV _ HR4.out HST.out.rise (by omega)).mono ?_)
                   rintro e W5 ⟨rfl, R5, g5⟩
                   have HY5 := Lib.hid (And.intro (g5.cell HY4.out.1 (by simp; exact hkr)) (And.intro (g5.cell HY4.out.2.1 (by simp; exact hkr)) (g5.cell HY4.out.2.2 (by simp; exact hkr))))
                   have HS5 := Lib.hid (ser_keepR HS4.out g5 HR4.out)
                   have HR5 := Lib.hid R5
                   have HG5 := Lib.hid g5
                   clear R5 g5)
                | fail)
            all_goals
              have B4 := bel_gb (B2.drew) (by show w0.heap.size ≤ W2.heap.size; omega) hb HG4.out
              have B5 := bel_gb B4 B4.size hrb0 HG5.out
              have B5s : W2.heap.size ≤ W5.heap.size := by have h1 : W2.heap.size ≤ W4.heap.size := HG4.out.size; have h2 : W4.heap.size ≤ W5.heap.size := HG5.out.size; omega
              have HST5 := Lib.hid (HST.out.del TT VV)
              have hl5 : (delS s TT VV).z.length ≤ j + 1 := by have := del_len s TT VV; omega
              have y5 := HY5.out.1
              clear y0 y1 y2 y3 B4 HG4 HG5 HR4 HS4 HSD HRD HY HY4 HY5 HS2 HR2 B2 x0 x1 x2 x3
              generalize dropN s.z TT VV = er at *
              generalize delS s TT VV = s5 at *
              have hee : (((er : Nat) : Int) == ((er : Nat) : Int)) = true := by simp
              have hee2 : (((er : Nat) : Int) != ((er : Nat) : Int)) = false := by simp
              have B5n : W2.heap.size ≤ W5.heap.size := B5s
              obtain ⟨X, er2, hG⟩ : ∃ X er2, getL s5.z TT = (X, er2) := ⟨_, _, rfl⟩
              have HGG := Lib.hid hG
              clear hG
              go_wp2_with fail
              refine (get_ser b A s5 TT X er2 W5 HGG.out HS5.out z1 HST5.out.rise (by omega)).mono ?_
              rintro e W6 ⟨rfl, b6⟩
              have HS6 := Lib.hid (HS5.out.keepB b6)
              have HR6 := Lib.hid (HR5.out.keepB b6)
              have B6 := B5.trans (b6.mono B5.size)
              have nk5 := Nat.lt_of_lt_of_le n2 B5n
              have y6 : W6.cell? ⟨kx, 1, none⟩ = some (.int .i64 TT) := (b6.cell nk5).trans y5
              have HE6 := Lib.hid ((B6.block _ nW2).trans HBY.out)
              have HX6 := Lib.hid ((B6.block _ nW).trans HBX2.out)
              clear b6 HS5 HR5 B5 y5
              go_wp2_with fail
              refine (rget5 rb s5 TT X er2 W6 HGG.out HR6.out HST5.out.rise (by omega)).mono ?_
              rintro e w' ⟨rfl, rfl⟩
              have d0 : W6.cell? ⟨w1s, 0, none⟩ = some (.int .i64 D) := by rw [cell_of HE6.out]; rfl
              have d1 : W6.cell? ⟨w1s, 1, none⟩ = some (.int .i64 E) := by rw [cell_of HE6.out]; rfl
              have hxx : (X == X) = true := by simp
              have hxx2 : (X != X) = false := by simp
              have hrr : (er2 == er2) = true := by simp
              have hrr2 : (er2 != er2) = false := by simp
              go_wp2_with fail
              refine (same5 b rb A s5 D E W6 HS6.out HR6.out HST5.out z1 z2 (by omega)).mono ?_
              rintro e W7 ⟨rfl, b7⟩
              have HS7 := Lib.hid (HS6.out.keepB b7)
              have HR7 := Lib.hid (HR6.out.keepB b7)
              have B7 := B6.trans (b7.mono B6.size)
              have f0 : W7.cell? ⟨w.heap.size, 0, none⟩ = some (.int .i64 A) := by
                have h1 := B7.block _ nW
                rw [HBX2.out] at h1
                rw [cell_of h1]; rfl
              clear b7 HS6 HR6 B6 d0 d1 y6
              go_wp2_with fail
              refine (whole_any b A s5 W7 HS7.out z1 z2 (by omega)).mono ?_
              rintro e W8 ⟨rfl, b8⟩
              have HS8 := Lib.hid (HS7.out.keepB b8)
              have HR8 := Lib.hid (HR7.out.keepB b8)
              have B8 := B7.trans (b8.mono B7.size)
              clear b8 HS7 HR7 B7 f0
              go_wp2
              go_roundw
              case rel => exact ⟨j + 1, b, s5, by omega, by omega, by go_num, rfl, HS8.out, HR8.out, HST5.out, by omega, hb, B8⟩
              case measure => simp [intOf]; omega
          · subst hK
            go_wp2_with fail
            generalize wr.alloc (.cells #[.int .i64 2, .int .i64 TT, .int .i64 VV, .int .i64 PP] 35) = W2 at *
            generalize wr.heap.size = kx at *
            have y0 : W2.cell? ⟨kx, 0, none⟩ = some (.int .i64 2) := by rw [cell_of HO.out]; rfl
            have y1 : W2.cell? ⟨kx, 1, none⟩ = some (.int .i64 TT) := by rw [cell_of HO.out]; rfl
            have y2 : W2.cell? ⟨kx, 2, none⟩ = some (.int .i64 VV) := by rw [cell_of HO.out]; rfl
            have y3 : W2.cell? ⟨kx, 3, none⟩ = some (.int .i64 PP) := by rw [cell_of HO.out]; rfl
            have HY := Lib.hid (show W2.drew.cell? ⟨kx, 1, none⟩ = some (.int .i64 TT) ∧ W2.drew.cell? ⟨kx, 2, none⟩ = some (.int .i64 VV) ∧ W2.drew.cell? ⟨kx, 3, none⟩ = some (.int .i64 PP) from ⟨y1, y2, y3⟩)
            have HSD : Hid (SerAt W2.drew b A s) := HS2
            have HRD : Hid (RSer W2.drew rb s) := HR2
            go_wp2_with fail
            go_region_held3 (fun w' => w'.cell? ⟨kx, 1, none⟩ = some (.int .i64 TT) ∧ w'.cell? ⟨kx, 2, none⟩ = some (.int .i64 VV) ∧ w'.cell? ⟨kx, 3, none⟩ = some (.int .i64 PP))
              (first
                | (exact HY5.out)
                | (exact HY4.out)
                | (exact HY.out)
                | go_keep
                | fail)
              (first
                | (go_at_call 10
                   (with_reducible refine (alter_any b A s TT PP _ HSD.out HST.out z1 z2 (by omega)).mono ?_)
                   rintro e W4 ⟨rfl, S4, g4⟩
                   have HY4 := Lib.hid (And.intro (g4.cell HY.out.1 (by simp; exact hkb)) (And.intro (g4.cell HY.out.2.1 (by simp; exact hkb)) (g4.cell HY.out.2.2 (by simp; exact hkb))))
                   have HR4 := Lib.hid (rser_keepS HRD.out g4 HSD.out)
                   have HS4 := Lib.hid S4
                   have HG4 := Lib.hid g4
                   clear S4 g4)
                | (go_at_call 11
                   (with_reducible refine (ralter5 rb s TT PP _ HR4.out HST.out (by omega)).mono ?_)
                   rintro e W5 ⟨rfl, R5, g5⟩
                   have HY5 := Lib.hid (And.intro (g5.cell HY4.out.1 (by simp; exact hkr)) (And.intro (g5.cell HY4.out.2.1 (by simp; exact hkr)) (g5.cell HY4.out.2.2 (by simp; exact hkr))))
                   have HS5 := Lib.hid (ser_keepR HS4.out g5 HR4.out)
                   have HR5 := Lib.hid R5
                   have HG5 := Lib.hid g5
                   clear R5 g5)
                | fail)
            all_goals
              have B4 := bel_gb (B2.drew) (by show w0.heap.size ≤ W2.heap.size; omega) hb HG4.out
              have B5 := bel_gb B4 B4.size hrb0 HG5.out
              have B5s : W2.heap.size ≤ W5.heap.size := by have h1 : W2.heap.size ≤ W4.heap.size := HG4.out.size; have h2 : W4.heap.size ≤ W5.heap.size := HG5.out.size; omega
              have HST5 := Lib.hid (HST.out.alt TT PP)
              have hl5 : (altS s TT PP).z.length ≤ j + 1 := by have := alt_len s TT PP; omega
              have y5 := HY5.out.1
              clear y0 y1 y2 y3 B4 HG4 HG5 HR4 HS4 HSD HRD HY HY4 HY5 HS2 HR2 B2 x0 x1 x2 x3
              generalize altE TT PP = er at *
              generalize altS s TT PP = s5 at *
              have hee : (er == er) = true := by simp
              have hee2 : (er != er) = false := by simp
              have B5n : W2.heap.size ≤ W5.heap.size := B5s
              obtain ⟨X, er2, hG⟩ : ∃ X er2, getL s5.z TT = (X, er2) := ⟨_, _, rfl⟩
              have HGG := Lib.hid hG
              clear hG
              go_wp2_with fail
              refine (get_ser b A s5 TT X er2 W5 HGG.out HS5.out z1 HST5.out.rise (by omega)).mono ?_
              rintro e W6 ⟨rfl, b6⟩
              have HS6 := Lib.hid (HS5.out.keepB b6)
              have HR6 := Lib.hid (HR5.out.keepB b6)
              have B6 := B5.trans (b6.mono B5.size)
              have nk5 := Nat.lt_of_lt_of_le n2 B5n
              have y6 : W6.cell? ⟨kx, 1, none⟩ = some (.int .i64 TT) := (b6.cell nk5).trans y5
              have HE6 := Lib.hid ((B6.block _ nW2).trans HBY.out)
              have HX6 := Lib.hid ((B6.block _ nW).trans HBX2.out)
              clear b6 HS5 HR5 B5 y5
              go_wp2_with fail
              refine (rget5 rb s5 TT X er2 W6 HGG.out HR6.out HST5.out.rise (by omega)).mono ?_
              rintro e w' ⟨rfl, rfl⟩
              have d0 : W6.cell? ⟨w1s, 0, none⟩ = some (.int .i64 D) := by rw [cell_of HE6.out]; rfl
              have d1 : W6.cell? ⟨w1s, 1, none⟩ = some (.int .i64 E) := by rw [cell_of HE6.out]; rfl
              have hxx : (X == X) = true := by simp
              have hxx2 : (X != X) = false := by simp
              have hrr : (er2 == er2) = true := by simp
              have hrr2 : (er2 != er2) = false := by simp
              go_wp2_with fail
              refine (same5 b rb A s5 D E W6 HS6.out HR6.out HST5.out z1 z2 (by omega)).mono ?_
              rintro e W7 ⟨rfl, b7⟩
              have HS7 := Lib.hid (HS6.out.keepB b7)
              have HR7 := Lib.hid (HR6.out.keepB b7)
              have B7 := B6.trans (b7.mono B6.size)
              have f0 : W7.cell? ⟨w.heap.size, 0, none⟩ = some (.int .i64 A) := by
                have h1 := B7.block _ nW
                rw [HBX2.out] at h1
                rw [cell_of h1]; rfl
              clear b7 HS6 HR6 B6 d0 d1 y6
              go_wp2_with fail
              refine (whole_any b A s5 W7 HS7.out z1 z2 (by omega)).mono ?_
              rintro e W8 ⟨rfl, b8⟩
              have HS8 := Lib.hid (HS7.out.keepB b8)
              have HR8 := Lib.hid (HR7.out.keepB b8)
              have B8 := B7.trans (b8.mono B7.size)
              clear b8 HS7 HR7 B7 f0
              go_wp2
              go_roundw
              case rel => exact ⟨j + 1, b, s5, by omega, by omega, by go_num, rfl, HS8.out, HR8.out, HST5.out, by omega, hb, B8⟩
              case measure => simp [intOf]; omega
          · have hk0 : (K == 0) = false := by rw [beq_eq_false_iff_ne]; exact hK
            have hk1 : (K == 1) = false := by rw [beq_eq_false_iff_ne]; exact hK1
            have hk2 : (K == 2) = false := by rw [beq_eq_false_iff_ne]; exact hK2
            clear hK hK1 hK2
            go_wp2_with fail
            generalize wr.alloc (.cells #[.int .i64 K, .int .i64 TT, .int .i64 VV, .int .i64 PP] 35) = W2 at *
            generalize wr.heap.size = kx at *
            have y0 : W2.cell? ⟨kx, 0, none⟩ = some (.int .i64 K) := by rw [cell_of HO.out]; rfl
            have y1 : W2.cell? ⟨kx, 1, none⟩ = some (.int .i64 TT) := by rw [cell_of HO.out]; rfl
            have y2 : W2.cell? ⟨kx, 2, none⟩ = some (.int .i64 VV) := by rw [cell_of HO.out]; rfl
            have y3 : W2.cell? ⟨kx, 3, none⟩ = some (.int .i64 PP) := by rw [cell_of HO.out]; rfl
            have HY := Lib.hid (show W2.drew.cell? ⟨kx, 1, none⟩ = some (.int .i64 TT) ∧ W2.drew.cell? ⟨kx, 2, none⟩ = some (.int .i64 VV) ∧ W2.drew.cell? ⟨kx, 3, none⟩ = some (.int .i64 PP) from ⟨y1, y2, y3⟩)
            have HSD : Hid (SerAt W2.drew b A s) := HS2
            have HRD : Hid (RSer W2.drew rb s) := HR2
            go_wp2_with fail
            refine (copy_ser b A s W2 HS2.out z1 (by omega)).mono ?_
            rintro e W3 ⟨o, rfl, ho, S3, b3⟩
            have HO3 := Lib.hid S3
            have HS3 := Lib.hid (HS2.out.keepB b3)
            have HR3 := Lib.hid (HR2.out.keepB b3)
            have B3 := B2.trans (b3.mono B2.size)
            have n3 := b3.size
            have hsW2 := B2.size
            have hsb : b < W2.heap.size := HS2.out.lt
            have y3' : W3.cell? ⟨kx, 1, none⟩ = some (.int .i64 TT) := (b3.cell n2).trans y1
            clear S3 b3 y0 y1 y2 y3 HY HSD HRD HS2 HR2 B2 x0 x1 x2 x3
            go_wp2_with fail
            refine (del_any b A s 0 1099511627776 W3 HS3.out z1 z2 HST.out.rise (by omega)).mono ?_
            rintro e W5 ⟨rfl, S5, g5⟩
            have HS5 := Lib.hid (HO3.out.keepS g5 (by omega) HS3.out)
            have HR5 := Lib.hid (rser_keepS HR3.out g5 HS3.out)
            have B5 := bel_gb B3 B3.size hb g5
            have B5s : W2.heap.size ≤ W5.heap.size := by have := g5.size; omega
            have hbo : w0.heap.size ≤ o := by omega
            have y5 : W5.cell? ⟨kx, 1, none⟩ = some (.int .i64 TT) := g5.cell y3' (by simp; exact hkb)
            have HST5 := HST
            have hl5 : s.z.length ≤ j + 1 := by omega
            clear S5 g5 HO3 HS3 HR3 B3 y3'
            generalize dropN s.z 0 1099511627776 = dn at *
            generalize s = s5 at *
            obtain ⟨X, er2, hG⟩ : ∃ X er2, getL s5.z TT = (X, er2) := ⟨_, _, rfl⟩
            have HGG := Lib.hid hG
            clear hG
            go_wp2_with fail
            refine (get_ser o A s5 TT X er2 W5 HGG.out HS5.out z1 HST5.out.rise (by omega)).mono ?_
            rintro e W6 ⟨rfl, b6⟩
            have HS6 := Lib.hid (HS5.out.keepB b6)
            have HR6 := Lib.hid (HR5.out.keepB b6)
            have B6 := B5.trans (b6.mono B5.size)
            have nk5 := Nat.lt_of_lt_of_le n2 B5s
            have y6 : W6.cell? ⟨kx, 1, none⟩ = some (.int .i64 TT) := (b6.cell nk5).trans y5
            have HE6 := Lib.hid ((B6.block _ nW2).trans HBY.out)
            have HX6 := Lib.hid ((B6.block _ nW).trans HBX2.out)
            clear b6 HS5 HR5 B5 y5
            go_wp2_with fail
            refine (rget5 rb s5 TT X er2 W6 HGG.out HR6.out HST5.out.rise (by omega)).mono ?_
            rintro e w' ⟨rfl, rfl⟩
            have d0 : W6.cell? ⟨w1s, 0, none⟩ = some (.int .i64 D) := by rw [cell_of HE6.out]; rfl
            have d1 : W6.cell? ⟨w1s, 1, none⟩ = some (.int .i64 E) := by rw [cell_of HE6.out]; rfl
            have hxx : (X == X) = true := by simp
            have hxx2 : (X != X) = false := by simp
            have hrr : (er2 == er2) = true := by simp
            have hrr2 : (er2 != er2) = false := by simp
            go_wp2_with fail
            refine (same5 o rb A s5 D E W6 HS6.out HR6.out HST5.out z1 z2 (by omega)).mono ?_
            rintro e W7 ⟨rfl, b7⟩
            have HS7 := Lib.hid (HS6.out.keepB b7)
            have HR7 := Lib.hid (HR6.out.keepB b7)
            have B7 := B6.trans (b7.mono B6.size)
            have f0 : W7.cell? ⟨w.heap.size, 0, none⟩ = some (.int .i64 A) := by
              have h1 := B7.block _ nW
              rw [HBX2.out] at h1
              rw [cell_of h1]; rfl
            clear b7 HS6 HR6 B6 d0 d1 y6
            go_wp2_with fail
            refine (whole_any o A s5 W7 HS7.out z1 z2 (by omega)).mono ?_
            rintro e W8 ⟨rfl, b8⟩
            have HS8 := Lib.hid (HS7.out.keepB b8)
            have HR8 := Lib.hid (HR7.out.keepB b8)
            have B8 := B7.trans (b8.mono B7.size)
            clear b8 HS7 HR7 B7 f0
            go_wp2
            go_roundw
            case rel => exact ⟨j + 1, o, s5, by omega, by omega, by go_num, rfl, HS8.out, HR8.out, HST5.out, by omega, hbo, B8⟩
            case measure => simp [intOf]; omega
        · have hjh' : ¬ (j : Int) < 80 := by omega
          have hj1 : (j : Int) < (len : Int) := by omega
          go_wp2_with fail
          refine (sknown_any _).mono ?_
          rintro e W9 ⟨rfl, b9⟩
          have B9 := BY.trans ((B1.trans (b9.mono B1.size)).mono (Nat.le_of_lt nW))
          clear b9
          go_wp2
          go_ret
          exact ⟨rfl, B9⟩
      · have hj1 : ¬ (j : Int) < (len : Int) := by omega
        go_wp2_with fail
        refine (sknown_any _).mono ?_
        rintro e W9 ⟨rfl, b9⟩
        have B9 := BY.trans ((B1.trans (b9.mono B1.size)).mono (Nat.le_of_lt nW))
        clear b9
        go_wp2
        go_ret
        exact ⟨rfl, B9⟩
  · have hgn : ¬ ((128 ≤ A ∧ A ≤ 4096) ∧ keepB B C) := hgood
    have HGN := Lib.hid hgn
    clear hgn hgood
    go_wp2_with fail
    refine (snew_bad A B C w0 HGN.out).mono ?_
    rintro e W1 ⟨rfl, B1⟩
    have b0 : W1.cell? ⟨w.heap.size, 0, none⟩ = some (.int .i64 A) := (B1.cell nW).trans a0
    have b1 : W1.cell? ⟨w.heap.size, 1, none⟩ = some (.int .i64 B) := (B1.cell nW).trans a1
    have b2 : W1.cell? ⟨w.heap.size, 2, none⟩ = some (.int .i64 C) := (B1.cell nW).trans a2
    clear a0 a1 a2
    go_wp2_with fail
    refine (rnew5_bad A B C W1 HGN.out).mono ?_
    rintro e W2 ⟨rfl, bb⟩
    have B2 := B1.trans (bb.mono B1.size)
    clear bb b0 b1 b2 B1
    go_wp2_with fail
    go_loopw [7, 11] (fun c i wr => c = .pointer none ∧ i = .int .i64 0 ∧ wr = W2) (fun _ i _ => 0)
    case atStart => exact ⟨rfl, rfl, rfl⟩
    case round =>
      obtain ⟨rfl, rfl, rfl⟩ := hrel
      have B1 := B2
      by_cases h0 : 0 < len
      · have h0' : (0 : Int) < (len : Int) := by omega
        go_wp2_with fail
        refine (sknown_any _).mono ?_
        rintro e W9 ⟨rfl, b9⟩
        have B9 := BY.trans ((B1.trans (b9.mono B1.size)).mono (Nat.le_of_lt nW))
        clear b9
        go_wp2
        go_ret
        exact ⟨rfl, B9⟩
      · have h0' : ¬ (0 : Int) < (len : Int) := by omega
        go_wp2_with fail
        refine (sknown_any _).mono ?_
        rintro e W9 ⟨rfl, b9⟩
        have B9 := BY.trans ((B1.trans (b9.mono B1.size)).mono (Nat.le_of_lt nW))
        clear b9
        go_wp2
        go_ret
        exact ⟨rfl, B9⟩

set_option maxRecDepth 100000 in
theorem lifted (os : Os) (started : os.Started) (H : Type) (enc : TypeId × Value → H) :
    ReturnsInHanded {} Tryz.checked os 3 .any (Rows.seriesPlaysSpec.pre6 enc Tryz.prog Tryz.f3 Rows.seriesPlaysRow.domain false) (Rows.seriesPlaysSpec.post enc Tryz.prog Tryz.f3 false true false false) := by
  refine returnsInHanded_of_change (C := Tryz.checked) own started (by kernel_rfl) Tryz.func3
    (ChangeSpec.witness6 (enc := enc) (C := Tryz.checked) false ⟨#[], #[.agg #[.int .i64 0, .int .i64 0, .int .i64 0], .slice none 0 0, .agg #[.int .i64 0, .int .i64 0]], []⟩ 8 (by kernel_rfl) (by kernel_rfl) (by kernel_rfl) (by kernel_rfl)) ?_
  intro W base args ds gs before hval0 hW hcnd _
  have hval : ∀ (j : Nat) t v, Tryz.f3.params[j]? = some t → args[j]? = some v → Value.okWide Tryz.prog W .any base t v := hval0
  have hW' := hW
  obtain ⟨p, q, hA0, hV, rfl, hfz, hnd⟩ := hW
  have hA : DataW.TrodAll enc Tryz.prog W 0 (fun _ => true) true Tryz.f3.params.toList args.toList ds p := hA0
  rw [Tryz.params3] at hA hval
  obtain ⟨v0, vs0, d0, ds0, p0, q0, hargs, rfl, rfl, h0, r0⟩ := trodAll_cons hA
  obtain ⟨v1, vs1, d1, ds1, p1, q1, rfl, rfl, rfl, h1, r1⟩ := trodAll_cons r0
  obtain ⟨v2, vs2, d2, ds2, p2, q2, rfl, rfl, rfl, h2, r2⟩ := trodAll_cons r1
  obtain ⟨rfl, rfl, rfl⟩ := trodAll_nil r2
  obtain rfl : args = #[v0, v1, v2] := by cases args; simp_all
  obtain ⟨rfl, rfl⟩ := trodVars_none hV
  have k0 := h0
  have lt0 : ∀ x ∈ p0, x.block < W.heap.size := by obtain ⟨m, hm⟩ := k0; exact DataW.trod_lt m _ _ _ hm
  obtain ⟨a0, rfl, w0⟩ := open_arr3 (hval 0 22 v0 rfl rfl) h0
  obtain ⟨a1, len1, cap1, rfl⟩ := okWide_slice Tryz.underlying23 (hval 1 23 v1 rfl rfl)
  have k1 := h1
  have lt1 : ∀ x ∈ p1, x.block < W.heap.size := by obtain ⟨m, hm⟩ := k1; exact DataW.trod_lt m _ _ _ hm
  obtain ⟨z1, w1⟩ := open_sops h1
  have k2 := h2
  have lt2 : ∀ x ∈ p2, x.block < W.heap.size := by obtain ⟨m, hm⟩ := k2; exact DataW.trod_lt m _ _ _ hm
  obtain ⟨a2, rfl, w2⟩ := open_arr2 (hval 2 24 v2 rfl rfl) h2
  clear hA0 hval0
  refine (walk a0 a1 len1 cap1 z1 a2 W w0 w1 w2).mono fun e W' ⟨he, bel⟩ => ?_
  subst he
  exact ⟨_, rfl, _, _, _, [], _, [], hW', trodAll_mk1 (shut_bool Tryz.underlying4 _), (trodAll_cons_mk (Below.trod laidOut (by kernel_rfl) (of_decide_eq_true (by kernel_rfl)) k0 bel lt0) (trodAll_cons_mk (Below.trod laidOut (by kernel_rfl) (of_decide_eq_true (by kernel_rfl)) k1 bel lt1) (trodAll_cons_mk (Below.trod laidOut (by kernel_rfl) (of_decide_eq_true (by kernel_rfl)) k2 bel lt2) trodAll_mk0))), rfl, bel.frame _, fun h => by cases h⟩

theorem over : Rows.seriesPlaysRow.holds Tryz.pinned (OpenSpec.ofChange Rows.seriesPlaysSpec) :=
  OpenClaim.holds_of_wide 3 Tryz.f3 rfl rfl rfl rfl rfl rfl rfl ⟨rfl, rfl, rfl, rfl, rfl⟩ rfl rfl rfl rfl rfl (by kernel_rfl) Tryz.func3 (by kernel_rfl)
    (of_decide_eq_true (by kernel_rfl)) (by unfold Func.isWrapper; first | (rw [if_pos (by decide +kernel)]; kernel_rfl) | (rw [if_neg (by decide +kernel)]; exact ⟨rfl, rfl⟩))
    (fun os started H enc _ => lifted os started H enc)

theorem proved : Rows.SeriesPlaysSaid := over
end seriesPlays
theorem seriesPlays_holds : Rows.SeriesPlaysSaid := seriesPlays.proved
#print axioms seriesPlays_holds
end Go.Proofs.YtpbhdlhbcfkhfaaGreat
