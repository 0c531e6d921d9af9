/-
  The statement 'SeriesRestores' of layer 5: for every calls, every two times and every samples: what is restored, or why not, is as the document says; a series that is restored from what another one tells tells the same, also behind any calls more; its chunks stand as they must.
  No condition.
-/
import Derived.Test.YtpbhdlhbcfkhfaaDMath
import Derived.Deep.SlicePairs
import Derived.ProofKit
import Derived.OpenShut
import Derived.Test.YtpbhdlhbcfkhfaaSUse
import Derived.Test.YtpbhdlhbcfkhfaaSFact
import Derived.Test.YtpbhdlhbcfkhfaaSFit
import Derived.Test.YtpbhdlhbcfkhfaaSApp
import Derived.Test.YtpbhdlhbcfkhfaaSOne
import Derived.Test.YtpbhdlhbcfkhfaaCApp
import Derived.Test.YtpbhdlhbcfkhfaaSPartA
import Derived.Test.YtpbhdlhbcfkhfaaSKnown
import Derived.ShutString
import Derived.ChangeOld
import Derived.Lib.SmallJoins
/-
  A slice of the statements' own calls (a kind, a sample, a policy), read as a list.
-/
namespace Go.Proofs.Ytpbhdlhbcfkhfaa
open Go.RowKit Go.ChangeShapes Go.WideShapes Go.Deep
set_option linter.unusedVariables false
set_option linter.unusedSimpArgs false

/-- A call: its kind, a time, a value, a policy. -/
abbrev Cl := Int × Int × Int × Int
def Cl64 (x : Cl) : Prop := in64 x.1 ∧ in64 x.2.1 ∧ in64 x.2.2.1 ∧ in64 x.2.2.2
/-- The slice's calls are z. -/
def OpsC (w : World) (a : Option Addr) (len : Nat) (z : List Cl) : Prop :=
  z.length = len ∧ len ≤ 9223372036854775807 ∧ (∀ x ∈ z, Cl64 x) ∧
  (len = 0 ∨ ∃ b off, a = some ⟨b, off, none⟩ ∧ b < w.heap.size ∧ ∀ i (h : i < z.length), w.cell? ⟨b, off + i * 4, none⟩ = some (.int .i64 z[i].1) ∧ w.cell? ⟨b, off + i * 4 + 1, none⟩ = some (.int .i64 z[i].2.1) ∧
    w.cell? ⟨b, off + i * 4 + 2, none⟩ = some (.int .i64 z[i].2.2.1) ∧ w.cell? ⟨b, off + i * 4 + 3, none⟩ = some (.int .i64 z[i].2.2.2))

def opOf (z : List Cl) (i : Nat) : Cl := z.getD i (0, 0, 0, 0)
theorem OpsC.at_ {w : World} {a : Option Addr} {len : Nat} {z : List Cl} (h : OpsC w a len z) (i : Nat) (hi : i < len) :
    ∃ b off, a = some ⟨b, off, none⟩ ∧ b < w.heap.size ∧ w.cell? ⟨b, off + i * 4, none⟩ = some (.int .i64 (opOf z i).1) ∧ w.cell? ⟨b, off + i * 4 + 1, none⟩ = some (.int .i64 (opOf z i).2.1) ∧
      w.cell? ⟨b, off + i * 4 + 2, none⟩ = some (.int .i64 (opOf z i).2.2.1) ∧ w.cell? ⟨b, off + i * 4 + 3, none⟩ = some (.int .i64 (opOf z i).2.2.2) ∧ Cl64 (opOf z i) := by
  obtain ⟨h1, h2, h3, h4⟩ := h
  have e : opOf z i = z[i] := by unfold opOf; rw [List.getD_eq_getElem?_getD, List.getElem?_eq_getElem (by omega), Option.getD_some]
  rcases h4 with h0 | ⟨b, off, rfl, hb, hc⟩
  · omega
  · rw [e]
    obtain ⟨c0, c1, c2, c3⟩ := hc i (by omega)
    exact ⟨b, off, rfl, hb, c0, c1, c2, c3, h3 _ (List.getElem_mem _)⟩

theorem cells_int : Try.prog.cellsOf 3 = 1 := by kernel_rfl
theorem cells_samp : Try.prog.cellsOf 29 = 2 := by kernel_rfl
theorem cells_op : Try.prog.cellsOf 31 = 4 := by kernel_rfl

set_option maxRecDepth 100000 in
theorem open_sops {H : Type} {enc : TypeId × Value → H} {W : World} {a : Option Addr} {len cap : Nat} {d : DataW H} {p : List MemPlace}
    (h : DataW.Trod enc Try.prog W 0 (fun _ => true) true 23 (.slice a len cap) d p) : ∃ z, OpsC W a len z := by
  obtain ⟨fuel, hf⟩ := h
  rcases open_slice Try.underlying23 hf with ⟨hcs, _⟩ | ⟨x, l, c, m, n, D, Pl, hcs, hb, hl, hm, hmm, _, hx⟩
  · simp [Value.cells] at hcs
    obtain ⟨rfl, rfl, rfl⟩ := hcs
    exact ⟨[], rfl, by omega, by simp, .inl rfl⟩
  · simp [Value.cells] at hcs
    obtain ⟨rfl, rfl, rfl⟩ := hcs
    simp only [if_true] at hmm
    have each : ∀ i, i < len → ∃ q : Cl, W.cell? (x.add (i * 4)) = some (.int .i64 q.1) ∧ W.cell? (x.add (i * 4 + 1)) = some (.int .i64 q.2.1) ∧ W.cell? (x.add (i * 4 + 2)) = some (.int .i64 q.2.2.1) ∧ W.cell? (x.add (i * 4 + 3)) = some (.int .i64 q.2.2.2) ∧ Cl64 q := by
      intro i hi
      obtain ⟨cs', h1, h2⟩ := hx i (by omega)
      rw [cells_op] at h1
      obtain ⟨_, hlen, hcell⟩ := World.cells?_some h1
      obtain ⟨xs, k, hk, hxy, _, hxl, hfl⟩ := DataW.trod_struct Try.underlying31 h2
      match xs, hxl, cs', hlen with
      | [y0, y1, y2], _, [v0, v1, v2, v3], _ =>
        have g0 := hfl 0 _ rfl
        have g1 := hfl 1 _ rfl
        have g2 := hfl 2 _ rfl
        simp [cells_int, cells_samp] at g0 g1 g2
        obtain ⟨n0, e0, _, w0⟩ := DataW.trod_int Try.underlying3 g0
        obtain ⟨n2, e2, _, w2⟩ := DataW.trod_int Try.underlying3 g2
        obtain ⟨ys, k2, _, _, _, hyl, hfs⟩ := DataW.trod_struct Try.underlying29 g1
        match ys, hyl with
        | [z0, z1], _ =>
          have s0 := hfs 0 _ rfl
          have s1 := hfs 1 _ rfl
          simp [cells_int] at s0 s1
          obtain ⟨m0, f0, _, u0⟩ := DataW.trod_int Try.underlying3 s0
          obtain ⟨m1, f1, _, u1⟩ := DataW.trod_int Try.underlying3 s1
          have c0 := hcell 0 (by omega)
          have c1 := hcell 1 (by omega)
          have c2 := hcell 2 (by omega)
          have c3 := hcell 3 (by omega)
          rw [add_add] at c0 c1 c2 c3
          simp at e0 e2 f0 f1 c0 c1 c2 c3
          subst e0 e2 f0 f1
          exact ⟨(n0, m0, m1, n2), c0, c1, c2, c3, bounds_i64 w0, bounds_i64 u0, bounds_i64 u1, bounds_i64 w2⟩
    obtain ⟨q, hq⟩ := choose_lt each
    refine ⟨(List.range len).map q, by simp, by unfold maxLen at hm; omega, ?_, ?_⟩
    · intro y hy
      simp at hy
      obtain ⟨i, hi, rfl⟩ := hy
      exact (hq i hi).2.2.2.2
    · by_cases h0 : len = 0
      · exact .inl h0
      · right
        obtain ⟨b, off, spot⟩ := x
        have hs : spot = none := by
          have := (hq 0 (by omega)).1
          simpa [Addr.add] using World.cell?_spot this
        subst hs
        have hb : b < W.heap.size := by
          have := World.block_lt_of_cell? W _ (hq 0 (by omega)).1
          simpa [Addr.add] using this
        refine ⟨b, off, rfl, hb, fun i hi => ?_⟩
        simp at hi
        obtain ⟨c0, c1, c2, c3, _⟩ := hq i hi
        have ha : ∀ k, (⟨b, off, none⟩ : Addr).add k = ⟨b, off + k, none⟩ := by
          intro k; unfold Addr.add; split <;> simp_all
        rw [ha] at c0 c1 c2 c3
        simp only [List.getElem_map, List.getElem_range, Nat.add_assoc]
        exact ⟨c0, c1, c2, c3⟩

theorem OpsC.keep {w w' : World} {a : Option Addr} {len : Nat} {z : List Cl} (h : OpsC w a len z) (hb : Below w.heap.size w w') : OpsC w' a len z := by
  obtain ⟨h1, h2, h3, h4⟩ := h
  refine ⟨h1, h2, h3, ?_⟩
  rcases h4 with h0 | ⟨b, off, rfl, hlt, hc⟩
  · exact .inl h0
  · refine .inr ⟨b, off, rfl, Nat.lt_of_lt_of_le hlt hb.size, fun i hi => ?_⟩
    rw [hb.cell hlt, hb.cell hlt, hb.cell hlt, hb.cell hlt]; exact hc i hi

end Go.Proofs.Ytpbhdlhbcfkhfaa
/-
  What may be restored: plain facts; contracts of series.rise and series.canStand.
-/
namespace Go.Proofs.Ytpbhdlhbcfkhfaa
open Go.RowKit
set_option linter.unusedVariables false
set_option linter.unusedSimpArgs false

/-- The i-th sample's time can stand there. -/
def okAt (z : List (Int × Int)) (line mx : Int) (i : Nat) : Prop := (if i = 0 then line else tOf z (i - 1) + 1) ≤ tOf z i ∧ tOf z i ≤ mx
instance (z : List (Int × Int)) (line mx : Int) (i : Nat) : Decidable (okAt z line mx i) := inferInstanceAs (Decidable (_ ∧ _))
def okTo (z : List (Int × Int)) (line mx : Int) (n : Nat) : Prop := ∀ i, i < n → okAt z line mx i
def riseZ (z : List (Int × Int)) (line mx : Int) : Prop := okTo z line mx z.length
instance (z : List (Int × Int)) (line mx : Int) : Decidable (riseZ z line mx) := inferInstanceAs (Decidable (∀ i, i < z.length → okAt z line mx i))
def standB (ret mx line : Int) : Prop := (-1 ≤ mx ∧ mx < 1099511627776) ∧ (0 ≤ line ∧ line ≤ max 0 mx) ∧ (ret = 0 ∨ mx - ret ≤ line)
instance (ret mx line : Int) : Decidable (standB ret mx line) := inferInstanceAs (Decidable (_ ∧ _))

theorem okTo.low {z : List (Int × Int)} {line mx : Int} {n : Nat} (h : okTo z line mx n) : ∀ i, i < n → line ≤ tOf z i ∧ tOf z i ≤ mx := by
  intro i
  induction i with
  | zero => intro hi; have := h 0 hi; unfold okAt at this; rw [if_pos rfl] at this; exact this
  | succ i ih =>
    intro hi
    have h1 := ih (by omega)
    have h2 := h (i + 1) hi
    unfold okAt at h2
    rw [if_neg (by omega), Nat.add_sub_cancel] at h2
    omega
theorem okTo.up {z : List (Int × Int)} {line mx : Int} {n : Nat} (h : okTo z line mx n) : ∀ i j, i < j → j < n → tOf z i < tOf z j := by
  intro i j
  induction j with
  | zero => intro h1; omega
  | succ j ih =>
    intro h1 h2
    have h3 := h (j + 1) h2
    unfold okAt at h3
    rw [if_neg (by omega), Nat.add_sub_cancel] at h3
    by_cases e : i = j
    · subst e; omega
    · have := ih (by omega) (by omega); omega
theorem okTo.next {z : List (Int × Int)} {line mx : Int} {n : Nat} (h : okTo z line mx n) (k : okAt z line mx n) : okTo z line mx (n + 1) := by
  intro i hi
  by_cases e : i = n
  · subst e; exact k
  · exact h i (by omega)
theorem riseZ.rising {z : List (Int × Int)} {line mx : Int} (h : riseZ z line mx) : Rising z := fun i j hij hj => okTo.up h i j hij hj
theorem riseZ.mem {z : List (Int × Int)} {line mx : Int} (h : riseZ z line mx) : ∀ u ∈ z, line ≤ u.1 ∧ u.1 ≤ mx := by
  intro u hu
  obtain ⟨i, hi, h1, _⟩ := mem_at hu
  have := okTo.low h i hi
  rw [h1] at this; exact this
theorem riseZ.of {z : List (Int × Int)} {line mx : Int} (hr : Rising z) (h0 : ∀ u ∈ z, line ≤ u.1) (h1 : ∀ u ∈ z, u.1 ≤ mx) : riseZ z line mx := by
  intro i hi
  have hm := at_mem hi
  have a1 := h0 _ hm
  have a2 := h1 _ hm
  unfold okAt
  simp only at a1 a2
  by_cases e : i = 0
  · rw [if_pos e]; exact ⟨a1, a2⟩
  · rw [if_neg e]
    have := hr (i - 1) i (by omega) hi
    omega
/-- What is restored keeps to what a series' numbers keep to. -/
theorem Std.rest {ret pol mx line : Int} {z : List (Int × Int)} (r0 : 0 ≤ ret) (r1 : ret ≤ 1099511627776) (p0 : 1 ≤ pol) (p1 : pol ≤ 6) (hs : standB ret mx line) (hz : riseZ z line mx) (h64 : All64 z) : Std ⟨ret, pol, mx, line, z⟩ :=
  ⟨r0, r1, p0, p1, hs.1.1, hs.1.2, hs.2.1.1, hs.2.1.2, hs.2.2, hz.rising, h64, fun x hx => (hz.mem x hx).1, fun x hx => (hz.mem x hx).2⟩
theorem Std.back {s : Ser} (h : Std s) : standB s.ret s.mx s.line ∧ riseZ s.z s.line s.mx :=
  ⟨⟨⟨h.m0, h.m1⟩, ⟨h.l0, h.l1⟩, h.lr⟩, riseZ.of h.rise h.z0 h.z1⟩

/-- Where a time must stand at least. -/
def lowZ (z : List (Int × Int)) (line : Int) (j : Nat) : Int := if j = 0 then line else tOf z (j - 1) + 1
theorem lowZ_next (z : List (Int × Int)) (line : Int) (j : Nat) : lowZ z line (j + 1) = tOf z j + 1 := by unfold lowZ; rw [if_neg (by omega), Nat.add_sub_cancel]
theorem okAt_iff (z : List (Int × Int)) (line mx : Int) (j : Nat) : okAt z line mx j ↔ lowZ z line j ≤ tOf z j ∧ tOf z j ≤ mx := Iff.rfl

set_option maxRecDepth 100000 in
set_option maxHeartbeats 2000000 in
theorem rise_any (a : Option Addr) (len cap : Nat) (z : List (Int × Int)) (line mx : Int) (r : Bool) (w : World) (hz : SampAt w a len cap z) (hl : len ≤ 1000) (hmx : mx < 1099511627776) (hr : decide (riseZ z line mx) = r) :
    Calls Try.prog 57 #[.slice a len cap, .int .i64 line, .int .i64 mx] w (BoolP r w) := by
  have HL := Lib.hid hz
  have HLN := Lib.hid hz.1
  have h64 := Lib.hid hz.2.2.2.1
  have HRR := Lib.hid hr
  clear hz hr
  go_enter Try.func57, Try.ntmps57
  go_wp2_with fail
  go_loopw [1, 11] (fun f i wr => ∃ j : Nat, j ≤ len ∧ i = .int .i64 (j : Int) ∧ f = .int .i64 (lowZ z line j) ∧ Hid (okTo z line mx j) ∧ Below w.heap.size w wr) (fun _ i _ => len - (intOf i).toNat)
  case atStart => exact ⟨0, Nat.zero_le _, rfl, rfl, Lib.hid (fun i hi => absurd hi (Nat.not_lt_zero _)), Below.refl _ _⟩
  case round =>
    obtain ⟨j, hj, rfl, rfl, HOK, B1⟩ := hrel
    by_cases hjl : j < len
    · obtain ⟨q, o, hqe, hq, x0, x1⟩ := HL.out.at_ j hjl
      subst hqe
      rw [← B1.cell hq] at x0 x1
      have h6 := all64_at h64.out j
      have HKI := Lib.hid (okAt_iff z line mx j)
      have HLX := Lib.hid (lowZ_next z line j)
      generalize tOf z j = T at *
      generalize vOf z j = V at *
      generalize lowZ z line j = F at *
      have B2 := B1.alloc B1.size (.cells #[.int .i64 T, .int .i64 V] 29)
      have HB := Lib.hid (heap_new wr (.cells #[.int .i64 T, .int .i64 V] 29))
      have hj0 : (0 : Int) ≤ (j : Int) := by omega
      have hj1 : (j : Int) < (len : Int) := by omega
      by_cases h1 : T < F
      · have HNO := Lib.hid (show r = false from by
          rw [← HRR.out]; apply decide_eq_false
          intro h; have := (HKI.out.1 (h j (by rw [HLN.out]; exact hjl))).1; omega)
        go_wp2
        go_ret
        exact ⟨by rw [HNO.out]; rfl, B2⟩
      · by_cases h2 : T > mx
        · have HNO := Lib.hid (show r = false from by
            rw [← HRR.out]; apply decide_eq_false
            intro h; have := (HKI.out.1 (h j (by rw [HLN.out]; exact hjl))).2; omega)
          go_wp2
          go_ret
          exact ⟨by rw [HNO.out]; rfl, B2⟩
        · have h61 : -9223372036854775808 ≤ T := h6.1.1
          have HO2 := Lib.hid (HOK.out.next (HKI.out.2 ⟨by omega, by omega⟩))
          go_wp2
          go_roundw
          case rel => exact ⟨j + 1, by omega, by go_num, by rw [HLX.out], HO2, B2⟩
          case measure => simp [intOf]; omega
    · obtain rfl : len = j := by omega
      have HYE := Lib.hid (show r = true from by
        rw [← HRR.out]; apply decide_eq_true
        unfold riseZ; rw [HLN.out]; exact HOK.out)
      go_wp2
      go_ret
      exact ⟨by rw [HYE.out]; rfl, B1⟩

set_option maxRecDepth 100000 in
theorem stand_any (b : Nat) (sz : Int) (s : Ser) (mx line : Int) (r : Bool) (w : World) (h : SerAt w b sz s) (r0 : 0 ≤ s.ret) (r1 : s.ret ≤ 1099511627776) (hr : decide (standB s.ret mx line) = r) :
    Calls Try.prog 56 #[.pointer (some ⟨b, 0, none⟩), .int .i64 mx, .int .i64 line] w fun e w' => e = .returned (.bool r) ∧ w = w' := by
  obtain ⟨v, hc⟩ := h.cell
  have c1 : w.cell? ⟨b, 1, none⟩ = some (.int .i64 s.ret) := by rw [cell_of hc]; rfl
  have HRR := Lib.hid hr
  clear hc h hr
  generalize s.ret = ret at *
  by_cases h1 : mx < -1
  · have HNO := Lib.hid (show r = false from by rw [← HRR.out]; apply decide_eq_false; intro h; have := h.1.1; omega)
    go_enter Try.func56, Try.ntmps56
    go_wp2
    go_ret
    exact ⟨by rw [HNO.out]; rfl, rfl⟩
  by_cases h2 : mx ≥ 1099511627776
  · have HNO := Lib.hid (show r = false from by rw [← HRR.out]; apply decide_eq_false; intro h; have := h.1.2; omega)
    go_enter Try.func56, Try.ntmps56
    go_wp2
    go_ret
    exact ⟨by rw [HNO.out]; rfl, rfl⟩
  by_cases h3 : line < 0
  · have HNO := Lib.hid (show r = false from by rw [← HRR.out]; apply decide_eq_false; intro h; have := h.2.1.1; omega)
    go_enter Try.func56, Try.ntmps56
    go_wp2
    go_ret
    exact ⟨by rw [HNO.out]; rfl, rfl⟩
  obtain ⟨m0, hm0⟩ : ∃ m0, max 0 mx = m0 := ⟨_, rfl⟩
  have HM0 := Lib.hid hm0
  have hmm : (mx ≤ 0 ∧ m0 = 0) ∨ (¬ mx ≤ 0 ∧ m0 = mx) := by omega
  clear hm0
  by_cases h4 : line > m0
  · have HNO := Lib.hid (show r = false from by rw [← HRR.out]; apply decide_eq_false; intro h; have := h.2.1.2; have := HM0.out; omega)
    rcases hmm with ⟨k1, rfl⟩ | ⟨k1, rfl⟩
    all_goals
      go_enter Try.func56, Try.ntmps56
      go_wp2
      go_ret
      exact ⟨by rw [HNO.out]; rfl, rfl⟩
  by_cases h5 : ret = 0
  · subst h5
    have HYE := Lib.hid (show r = true from by rw [← HRR.out]; apply decide_eq_true; have := HM0.out; exact ⟨⟨by omega, by omega⟩, ⟨by omega, by omega⟩, .inl rfl⟩)
    rcases hmm with ⟨k1, rfl⟩ | ⟨k1, rfl⟩
    all_goals
      go_enter Try.func56, Try.ntmps56
      go_wp2
      go_ret
      exact ⟨by rw [HYE.out]; rfl, rfl⟩
  have h5b : (ret == 0) = false := by rw [beq_eq_false_iff_ne]; exact h5
  by_cases h6 : line ≥ mx - ret
  · have HYE := Lib.hid (show r = true from by rw [← HRR.out]; apply decide_eq_true; have := HM0.out; exact ⟨⟨by omega, by omega⟩, ⟨by omega, by omega⟩, .inr h6⟩)
    clear h5
    rcases hmm with ⟨k1, rfl⟩ | ⟨k1, rfl⟩
    all_goals
      go_enter Try.func56, Try.ntmps56
      go_wp2
      go_ret
      exact ⟨by rw [HYE.out]; rfl, rfl⟩
  · have HNO := Lib.hid (show r = false from by rw [← HRR.out]; apply decide_eq_false; intro h; have := h.2.2; omega)
    clear h5
    rcases hmm with ⟨k1, rfl⟩ | ⟨k1, rfl⟩
    · exfalso; omega
    · go_enter Try.func56, Try.ntmps56
      go_wp2
      go_ret
      exact ⟨by rw [HNO.out]; rfl, rfl⟩

end Go.Proofs.Ytpbhdlhbcfkhfaa
/-
  Mathematics of series.laid: neighbours that did not find room in one chunk are not both small.
-/
namespace Go.Proofs.Ytpbhdlhbcfkhfaa
set_option linter.unusedVariables false
set_option linter.unusedSimpArgs false

/-- The end of the one, and the beginning of the other, did not find room in one chunk. -/
def Far (sz : Int) (a b : List (Int × Int)) : Prop := ∃ a1 a2 b1 b2, a = a1 ++ a2 ∧ b = b1 ++ b2 ∧ 8 * sz < (bitsZ (a2 ++ b1) : Int)
theorem Far.left {sz : Int} {a b : List (Int × Int)} (h : Far sz a b) (c : List (Int × Int)) : Far sz (c ++ a) b := by
  obtain ⟨a1, a2, b1, b2, rfl, rfl, h⟩ := h
  exact ⟨c ++ a1, a2, b1, b2, by rw [List.append_assoc], rfl, h⟩
theorem Far.right {sz : Int} {a b : List (Int × Int)} (h : Far sz a b) (c : List (Int × Int)) : Far sz a (b ++ c) := by
  obtain ⟨a1, a2, b1, b2, rfl, rfl, h⟩ := h
  exact ⟨a1, a2, b1, b2 ++ c, rfl, by rw [List.append_assoc], h⟩
theorem Far.of {sz : Int} {a b : List (Int × Int)} (h : ¬ Fit sz (a ++ b)) : Far sz a b := by
  unfold Fit at h
  exact ⟨[], a, b, [], rfl, by rw [List.append_nil], by omega⟩
theorem Far.apart {sz : Int} (hs : 128 ≤ sz) {a b : List (Int × Int)} (h : Far sz a b) : Apart sz a b := by
  rintro ⟨ha, hb⟩
  obtain ⟨a1, a2, b1, b2, rfl, rfl, h⟩ := h
  have h1 := small_bits ha
  have h2 := small_bits hb
  have h3 := bits_back a1 a2
  have h4 := bits_front b1 b2
  have h5 := bits_app a2 b1
  omega
theorem adj_mono {α : Type} {R S : α → α → Prop} (h : ∀ a b, R a b → S a b) : ∀ l : List α, Adj R l → Adj S l
  | [], _ => trivial
  | [_], _ => trivial
  | a :: b :: l, k => ⟨h a b k.1, adj_mono h (b :: l) k.2⟩

/-- Samples in chunks that did not find room together. -/
def LaidL (sz : Int) (z : List (Int × Int)) (Z : List (List (Int × Int))) : Prop := Z.flatten = z ∧ (∀ x ∈ Z, x ≠ [] ∧ Fit sz x) ∧ Adj (Far sz) Z
theorem LaidL.good {sz : Int} (hs : 128 ≤ sz) {z : List (Int × Int)} {Z : List (List (Int × Int))} (h : LaidL sz z Z) : Good sz Z := ⟨h.2.1, adj_mono (fun _ _ k => k.apart hs) Z h.2.2⟩
theorem LaidL.ne {sz : Int} {z : List (Int × Int)} {Z : List (List (Int × Int))} (h : LaidL sz z Z) (hz : z ≠ []) : Z ≠ [] := by
  intro e; subst e; exact hz h.1.symm
theorem LaidL.few {sz : Int} {z : List (Int × Int)} {Z : List (List (Int × Int))} (h : LaidL sz z Z) : Z.length ≤ z.length := by
  have := flat_ge (Z := Z) (fun x hx => (h.2.1 x hx).1)
  rw [h.1] at this; exact this
theorem LaidL.join {sz : Int} {x y p q : List (Int × Int)} {I R : List (List (Int × Int))} (h : LaidL sz x (I ++ [p])) (k : LaidL sz y (q :: R)) (hf : Fit sz (p ++ q)) : LaidL sz (x ++ y) (I ++ [p ++ q] ++ R) := by
  obtain ⟨h1, h2, h3⟩ := h
  obtain ⟨k1, k2, k3⟩ := k
  refine ⟨?_, ?_, ?_⟩
  · rw [← h1, ← k1]; simp [List.append_assoc]
  · intro u hu
    rcases List.mem_append.1 hu with hu | hu
    · rcases List.mem_append.1 hu with hu | hu
      · exact h2 u (by simp [hu])
      · have e : u = p ++ q := by simpa using hu
        subst e
        refine ⟨fun e => (h2 p (by simp)).1 (List.append_eq_nil_iff.1 e).1, hf⟩
    · exact k2 u (by simp [hu])
  · obtain ⟨i1, i2, i3⟩ := (adj_app I [p]).1 h3
    have k3' : Adj (Far sz) ([q] ++ R) := k3
    obtain ⟨r1, r2, r3⟩ := (adj_app [q] R).1 k3'
    refine (adj_app _ _).2 ⟨(adj_app _ _).2 ⟨i1, trivial, fun a ha b hb => ?_⟩, r2, fun a ha b hb => ?_⟩
    · have e : b = p ++ q := by simpa using hb.symm
      subst e
      exact (i3 a ha p (by simp)).right q
    · have e : a = p ++ q := by simpa using ha.symm
      subst e
      exact (r3 q (by simp) b hb).left p
theorem LaidL.part {sz : Int} {x y p q : List (Int × Int)} {I R : List (List (Int × Int))} (h : LaidL sz x (I ++ [p])) (k : LaidL sz y (q :: R)) (hf : ¬ Fit sz (p ++ q)) : LaidL sz (x ++ y) (I ++ [p] ++ q :: R) := by
  obtain ⟨h1, h2, h3⟩ := h
  obtain ⟨k1, k2, k3⟩ := k
  refine ⟨?_, ?_, ?_⟩
  · rw [List.flatten_append, h1, k1]
  · intro u hu
    rcases List.mem_append.1 hu with hu | hu
    · exact h2 u hu
    · exact k2 u hu
  · refine (adj_app _ _).2 ⟨h3, k3, fun a ha b hb => ?_⟩
    have e : a = p := by simpa using ha.symm
    have e2 : b = q := by simpa using hb.symm
    subst e e2
    exact Far.of hf
theorem LaidL.nil (sz : Int) : LaidL sz [] [] := ⟨rfl, by simp, trivial⟩
theorem LaidL.one {sz : Int} (hs : 128 ≤ sz) (u : Int × Int) : LaidL sz [u] [[u]] := ⟨rfl, fun x hx => by simp at hx; subst hx; exact ⟨by simp, fit_one hs _ (by simp)⟩, trivial⟩
/-- Two chunks of rising times that find room are joined, and else stay. -/
theorem no_meet {x y : List (Int × Int)} (hr : Rising (x ++ y)) : meetB x y = false := by
  cases h : meetB x y with
  | false => rfl
  | true =>
    exfalso
    obtain ⟨h1, h2, h3⟩ := (meetB_iff x y).1 h
    obtain ⟨a, ha, ea⟩ := tOf_mem (z := x) (i := x.length - 1) (by omega)
    obtain ⟨b, hb, eb⟩ := tOf_mem (z := y) (i := 0) h2
    have := rising_cross hr a ha b hb
    omega
theorem join_fit {sz : Int} {x y : List (Int × Int)} (hr : Rising (x ++ y)) (hf : Fit sz (x ++ y)) : joinE sz x y = 0 ∧ joinL sz x y = x ++ y := by
  have hE : joinE sz x y = 0 := by
    unfold joinE tookE
    unfold Fit at hf
    rw [no_meet hr, if_neg (by simp), if_neg (by omega)]
  exact ⟨hE, by unfold joinL; rw [if_pos hE]⟩
theorem join_full {sz : Int} {x y : List (Int × Int)} (hr : Rising (x ++ y)) (hf : ¬ Fit sz (x ++ y)) : joinE sz x y = 2 ∧ joinL sz x y = x ∧ joinR sz x y = y := by
  have hE : joinE sz x y = 2 := by
    unfold joinE tookE
    unfold Fit at hf
    rw [no_meet hr, if_neg (by simp), if_pos (by omega)]
  exact ⟨hE, by unfold joinL; rw [if_neg (by omega)], by unfold joinR; rw [if_neg (by omega)]⟩

end Go.Proofs.Ytpbhdlhbcfkhfaa
/-
  Contract of series.laid: samples of rising times in chunks of a size.
  Condition: at most 2^19 samples.
-/
namespace Go.Proofs.Ytpbhdlhbcfkhfaa
open Go.RowKit
set_option linter.unusedVariables false
set_option linter.unusedSimpArgs false

theorem PRow.keep2 {w w' : World} {base : Nat} {v : Value} {bs : List Nat} {b c : Nat} (h : PRow w base v bs) (g : TwoOnly b c w w') (hb : NoPtr w b) (hc : NoPtr w c) : PRow w' base v bs := by
  refine ⟨h.1, ?_⟩
  rcases h.2 with h | ⟨q, cap, cur, e, hB, hg, r⟩
  · exact .inl h
  · refine .inr ⟨q, cap, cur, e, hB, ?_, r⟩
    rw [g.2.2.2.2 q (heap_lt hg) (fun e => hb cur (0, 0) (e ▸ hg)) (fun e => hc cur (0, 0) (e ▸ hg))]
    exact hg
theorem Ptrs.keep2 {w w' : World} {a : Option Addr} {len cap : Nat} {bs : List Nat} {b c : Nat} (h : Ptrs w a len cap bs) (g : TwoOnly b c w w') (hb : NoPtr w b) (hc : NoPtr w c) : Ptrs w' a len cap bs := by
  obtain ⟨h1, h2, h3, h4⟩ := h
  refine ⟨h1, h2, h3, ?_⟩
  rcases h4 with h0 | ⟨q, off, cs, f, rfl, hq, hi⟩
  · exact .inl h0
  · exact .inr ⟨q, off, cs, f, rfl, by rw [g.2.2.2.2 q (heap_lt hq) (fun e => hb cs f (e ▸ hq)) (fun e => hc cs f (e ▸ hq))]; exact hq, hi⟩
theorem Chs.keep2 {w w' : World} {sz : Int} {L : List (Nat × List (Int × Int))} {b c : Nat} (h : Chs w sz L) (g : TwoOnly b c w w') (hb : NoSamp w b) (hc : NoSamp w c) (h1 : b ∉ bl L) (h2 : c ∉ bl L) : Chs w' sz L := by
  intro x hx
  obtain ⟨a, cap, hq, hl⟩ := h x hx
  refine ⟨a, cap, ?_, hl.keep2 g hb hc⟩
  rw [g.2.2.2.2 x.1 (heap_lt hq) (fun e => h1 (by rw [← e]; exact List.mem_map.2 ⟨x, hx, rfl⟩)) (fun e => h2 (by rw [← e]; exact List.mem_map.2 ⟨x, hx, rfl⟩))]
  exact hq

/-- The samples from the k-th on. -/
theorem samp_from {w : World} {a : Option Addr} {len cap : Nat} {z : List (Int × Int)} (h : SampAt w a len cap z) (k : Nat) (hk : k ≤ len) :
    ∃ a', (∀ W : World, (Instr.slice 40 (.slice a len cap) (some (.int .i64 (k : Int))) none none).run Try.prog W = .ok (.slice a' (len - k) (cap - k)) W) ∧ SampAt w a' (len - k) (cap - k) (z.drop k) := by
  obtain ⟨h1, h2, h3, h4, h5⟩ := h
  refine ⟨if cap = k then a else a.map (·.add (k * 2)), fun W => ?_, ⟨by simp; omega, by omega, by omega, all64_drop h4 k, ?_⟩⟩
  · rw [run_slice_l W 40 _ _ _ (by kernel_rfl) .i64 (k : Int) (by omega) (by omega), size_samp]
    simp [Result.andThen, sliced]
  · by_cases hz : len - k = 0
    · exact .inl hz
    · rcases h5 with h0 | ⟨b, off, rfl, hb, hc⟩
      · omega
      · rw [if_neg (by omega)]
        refine .inr ⟨b, off + k * 2, by simp [Addr.add], hb, fun i hi => ?_⟩
        simp at hi
        have := hc (k + i) (by omega)
        simp only [List.getElem_drop]
        rw [show off + k * 2 + i * 2 = off + (k + i) * 2 from by omega]
        exact this
/-- The first k samples. -/
theorem samp_to {w : World} {a : Option Addr} {len cap : Nat} {z : List (Int × Int)} (h : SampAt w a len cap z) (k : Nat) (hk : k ≤ len) :
    ∃ a', (∀ W : World, (Instr.slice 40 (.slice a len cap) none (some (.int .i64 (k : Int))) none).run Try.prog W = .ok (.slice a' k cap) W) ∧ SampAt w a' k cap (z.take k) := by
  obtain ⟨h1, h2, h3, h4, h5⟩ := h
  refine ⟨if cap = 0 then a else a.map (·.add (0 * 2)), fun W => ?_, ⟨by simp; omega, by omega, by omega, all64_take h4 k, ?_⟩⟩
  · rw [run_slice_h W 40 _ _ _ (by kernel_rfl) .i64 (k : Int) (by omega) (by omega), size_samp]
    simp [Result.andThen, sliced]
  · by_cases hz : k = 0
    · exact .inl hz
    · rcases h5 with h0 | ⟨b, off, rfl, hb, hc⟩
      · omega
      · rw [if_neg (by omega)]
        refine .inr ⟨b, off, by simp [Addr.add], hb, fun i hi => ?_⟩
        simp at hi
        simp only [List.getElem_take]
        exact hc i (by omega)

/-- Samples in chunks: new ones, and no one twice. -/
def SLaidP (sz : Int) (z : List (Int × Int)) (w : World) (e : Ending) (w' : World) : Prop :=
  ∃ v L, e = .returned v ∧ PRow w' w.heap.size v (bl L) ∧ Chs w' sz L ∧ LaidL sz z (zs L) ∧ (∀ q ∈ bl L, w.heap.size ≤ q ∧ q < w'.heap.size) ∧ (bl L).Nodup ∧ Below w.heap.size w w'

theorem last_of {α : Type} (L : List α) (h : L ≠ []) : ∃ I x, L = I ++ [x] := ⟨L.dropLast, L.getLast h, (List.dropLast_concat_getLast h).symm⟩

theorem join_in (b o : Nat) (sz : Int) (x y l : List (Int × Int)) (w : World) (hx : PCk w b sz x) (hy : PCk w o sz y) (hne : b ≠ o) (hs : 1 ≤ sz) (hs2 : sz ≤ 4096) (hn : x.length + y.length ≤ 1048576) (hE : joinE sz x y = 0) (hL : joinL sz x y = l) :
    Calls Try.prog 81 #[.pointer (some ⟨b, 0, none⟩), .pointer (some ⟨o, 0, none⟩)] w fun e w' => e = .returned (.int .i64 0) ∧ PCk w' b sz l ∧ TwoOnly b o w w' := by
  refine (join_ok b o sz sz x y w hx hy hne hs hs2 hs hn).mono ?_
  rintro e w' ⟨rfl, h1, _, h2⟩
  exact ⟨by rw [hE], hL ▸ h1, h2⟩
theorem join_out (b o : Nat) (sz : Int) (x y : List (Int × Int)) (w : World) (hx : PCk w b sz x) (hy : PCk w o sz y) (hne : b ≠ o) (hs : 1 ≤ sz) (hs2 : sz ≤ 4096) (hn : x.length + y.length ≤ 1048576) (hE : joinE sz x y = 2) (hL : joinL sz x y = x) (hR : joinR sz x y = y) :
    Calls Try.prog 81 #[.pointer (some ⟨b, 0, none⟩), .pointer (some ⟨o, 0, none⟩)] w fun e w' => e = .returned (.int .i64 2) ∧ PCk w' b sz x ∧ PCk w' o sz y ∧ TwoOnly b o w w' := by
  refine (join_ok b o sz sz x y w hx hy hne hs hs2 hs hn).mono ?_
  rintro e w' ⟨rfl, h1, h2, h3⟩
  rw [hL] at h1
  rw [hR] at h2
  exact ⟨by rw [hE], h1, h2, h3⟩

set_option maxRecDepth 100000 in
set_option maxHeartbeats 4000000 in
theorem slaid_any (sz : Int) (hs : 128 ≤ sz) (hs2 : sz ≤ 4096) (n : Nat) : ∀ (a : Option Addr) (len cap : Nat) (z : List (Int × Int)) (w : World), len ≤ n → len ≤ 524288 → SampAt w a len cap z → Rising z → (∀ u ∈ z, 0 ≤ u.1 ∧ u.1 < 1099511627776) →
    Calls Try.prog 58 #[.int .i64 sz, .slice a len cap] w (SLaidP sz z w) := by
  induction n with
  | zero =>
    intro a len cap z w hn hl h hr ht
    have h0 : len = 0 := by omega
    have HZ := Lib.hid (show z = [] from List.eq_nil_of_length_eq_zero (by rw [h.1]; exact h0))
    have hb : ((len : Int) == 0) = true := by rw [beq_iff_eq]; omega
    clear h hr ht h0
    go_enter Try.func58, Try.ntmps58
    go_wp2
    go_ret
    exact ⟨_, [], rfl, PRow.nil w _, (fun x hx => by cases hx), by rw [HZ.out]; exact LaidL.nil sz, (fun q hq => by cases hq), List.nodup_nil, Below.refl _ _⟩
  | succ n ih =>
    intro a len cap z w hn hl h hr ht
    have HL := Lib.hid h
    have HR := Lib.hid hr
    have HTT := Lib.hid ht
    have HLN := Lib.hid h.1
    have h64 := Lib.hid h.2.2.2.1
    clear h hr ht
    rcases (show len = 0 ∨ len = 1 ∨ 2 ≤ len by omega) with h0 | h0 | h0
    · have HZ := Lib.hid (show z = [] from List.eq_nil_of_length_eq_zero (by rw [HLN.out]; exact h0))
      have hb : ((len : Int) == 0) = true := by rw [beq_iff_eq]; omega
      clear h0
      go_enter Try.func58, Try.ntmps58
      go_wp2
      go_ret
      exact ⟨_, [], rfl, PRow.nil w _, (fun x hx => by cases hx), by rw [HZ.out]; exact LaidL.nil sz, (fun q hq => by cases hq), List.nodup_nil, Below.refl _ _⟩
    · obtain ⟨q, o, hqe, hq, x0, x1⟩ := HL.out.at_ 0 (by omega)
      have hb0 : ((len : Int) == 0) = false := by rw [beq_eq_false_iff_ne]; omega
      have hb1 : ((len : Int) == 1) = true := by rw [beq_iff_eq]; omega
      have hl1 : (0 : Int) < (len : Int) := by omega
      subst hqe
      have HZ := Lib.hid (show z = [(tOf z 0, vOf z 0)] from by
        obtain ⟨u, hu⟩ := List.length_eq_one_iff.1 (HLN.out.trans h0)
        rw [hu]; rfl)
      have h6 := all64_at h64.out 0
      have hT := HTT.out _ (at_mem (z := z) (i := 0) (by rw [HLN.out]; omega))
      generalize tOf z 0 = T at *
      generalize vOf z 0 = V at *
      simp only [Nat.zero_mul, Nat.add_zero] at x0 x1
      clear h0
      go_enter Try.func58, Try.ntmps58
      go_wp2_with fail
      refine (alone_any sz T V w hs hs2 hT.1 hT.2 h6.2).mono ?_
      rintro e W1 ⟨k, rfl, hk, p1, b1⟩
      have hkl := p1.lt
      have HP := Lib.hid p1
      have HB := Lib.hid b1
      clear p1 b1 x0 x1
      go_wp2
      go_ret
      refine ⟨_, [(k, [(T, V)])], rfl, PRow.one W1 _ k HB.out.size, Chs.one (CAt.keepN HP.out (World.grownBy_alloc W1 _ none)), by rw [HZ.out]; exact LaidL.one hs (T, V), ?_, by simp [bl], HB.out.alloc HB.out.size _⟩
      intro q hq
      simp [bl] at hq
      subst hq
      exact ⟨hk, by simp; omega⟩
    · obtain ⟨k, hkk⟩ : ∃ k, len / 2 = k := ⟨_, rfl⟩
      have hk1 : 1 ≤ k := by omega
      have hk2 : k < len := by omega
      have hk3 : k ≤ n := by omega
      have hk4 : len - k ≤ n := by omega
      have hk5 : ((len : Nat) : Int).tdiv 2 = (k : Int) := by rw [Int.tdiv_eq_ediv_of_nonneg (by omega)]; omega
      have hk6 : (len : Int) / 2 = (k : Int) := by omega
      have HKK := Lib.hid hkk
      clear hkk
      obtain ⟨a1, hs1, L1⟩ := samp_to HL.out k (by omega)
      obtain ⟨a2, hs2', L2⟩ := samp_from HL.out k (by omega)
      have HS1 := Lib.hid hs1
      have HS2 := Lib.hid hs2'
      have HL1 := Lib.hid L1
      have HL2 := Lib.hid L2
      have hne1 : ((len : Int) == 0) = false := by rw [beq_eq_false_iff_ne]; omega
      have hne2 : ((len : Int) == 1) = false := by rw [beq_eq_false_iff_ne]; omega
      have hzs := Lib.hid (show z.take k ++ z.drop k = z from List.take_append_drop k z)
      have HN1 := Lib.hid (show z.take k ≠ [] from fun e => by have := congrArg List.length e; simp [HLN.out] at this; omega)
      have HN2 := Lib.hid (show z.drop k ≠ [] from fun e => by have := congrArg List.length e; simp [HLN.out] at this; omega)
      clear L1 L2 hs1 hs2'
      go_enter Try.func58, Try.ntmps58
      go_wp2_with fail
      have HD1 : Hid (SampAt w.drew a1 k cap (z.take k)) := HL1
      have HD2 : Hid (SampAt w.drew a2 (len - k) (cap - k) (z.drop k)) := HL2
      have HT1 := Lib.hid (show ∀ u ∈ z.take k, 0 ≤ u.1 ∧ u.1 < 1099511627776 from fun u hu => HTT.out u (List.mem_of_mem_take hu))
      have HT2 := Lib.hid (show ∀ u ∈ z.drop k, 0 ≤ u.1 ∧ u.1 < 1099511627776 from fun u hu => HTT.out u (List.mem_of_mem_drop hu))
      have HR1 := Lib.hid (rising_take HR.out k)
      have HR2 := Lib.hid (rising_drop HR.out k)
      have hs1 := HS1.out
      have hs2' := HS2.out
      go_region_with
        (first
          | (go_at_call 58
             (with_reducible refine (ih a1 k cap (z.take k) _ hk3 (by omega) HD1.out HR1.out HT1.out).mono ?_)
             rintro e W1 ⟨v1, L1, rfl, r1, c1, l1, q1, n1, b1⟩
             have HD2' := Lib.hid (HD2.out.keep b1))
          | (go_at_call 58
             (with_reducible refine (ih a2 (len - k) (cap - k) (z.drop k) _ hk4 (by omega) HD2'.out HR2.out HT2.out).mono ?_)
             rintro e W2 ⟨v2, L2, rfl, r2, c2, l2, q2, n2, b2⟩)
          | fail)
      all_goals
        have B1 : Below w.heap.size w W1 := ((Below.refl w.heap.size w).drew).trans b1
        have hq1 : ∀ q ∈ bl L1, w.heap.size ≤ q ∧ q < W1.heap.size := q1
        have hw1 := B1.size
        have hw2 := b2.size
        have B2 := B1.trans (b2.mono hw1)
        have r1' : PRow W1 w.heap.size v1 (bl L1) := r1
        have r1 := r1'.keepB b2
        have c1 := c1.keepB b2
        clear r1' q1 b1 b2
        obtain ⟨I, ⟨p, x⟩, rfl⟩ := last_of L1 (by intro e; subst e; exact l1.ne HN1.out rfl)
        obtain ⟨q0, y, R, rfl⟩ : ∃ q0 y R, L2 = (q0, y) :: R := by
          cases L2 with
          | nil => exact absurd rfl (l2.ne HN2.out)
          | cons u R => exact ⟨u.1, u.2, R, rfl⟩
        have eb1 : bl (I ++ [(p, x)]) = bl I ++ [p] := by simp [bl]
        have eb2 : bl ((q0, y) :: R) = q0 :: bl R := rfl
        have l1' : LaidL sz (z.take k) (zs I ++ [x]) := by have := l1; rw [zs_app] at this; exact this
        have l2' : LaidL sz (z.drop k) (y :: zs R) := l2
        have hrx : Rising (x ++ y) := by
          have h1 : z = ((zs I).flatten ++ x) ++ (y ++ (zs R).flatten) := by
            rw [← hzs.out, ← l1'.1, ← l2'.1]; simp
          have h2 := HR.out
          rw [h1, List.append_assoc] at h2
          have h3 := rising_right h2
          rw [← List.append_assoc] at h3
          exact rising_left h3
        have hpx := c1 (p, x) (by simp)
        have hqy := c2 (q0, y) (by simp)
        have hp1 := hq1 p (by rw [eb1]; simp)
        have hq0 := q2 q0 (by rw [eb2]; simp)
        have hne : p ≠ q0 := by omega
        have hxl : x.length + y.length ≤ 1048576 := by
          have h1 := congrArg List.length l1'.1
          have h2 := congrArg List.length l2'.1
          have h3 := congrArg List.length hzs.out
          simp [HLN.out] at h1 h2 h3
          omega
        have hpI : p ∉ bl I := by
          rw [eb1] at n1
          intro hm
          have := (List.nodup_append.1 n1).2.2 p hm p (by simp)
          exact this rfl
        have hqI : q0 ∉ bl I := fun hm => by have := (hq1 q0 (by rw [eb1]; simp [hm])).2; omega
        have hqR : q0 ∉ bl R := by rw [eb2] at n2; exact (List.nodup_cons.1 n2).1
        have hpR : p ∉ bl R := fun hm => by have := (q2 p (by rw [eb2]; simp [hm])).1; omega
        have cI : Chs W2 sz I := c1.sub (fun u hu => by simp [hu])
        have cR : Chs W2 sz R := c2.sub (fun u hu => by simp [hu])
        have nsp := PCk.noSamp hpx
        have nsq := PCk.noSamp hqy
        have npp := PCk.noPtr hpx
        have npq := PCk.noPtr hqy
        obtain ⟨a3, cap3, hv1, P3⟩ := r1.shape
        obtain ⟨a4, cap4, hv2, P4⟩ := r2.shape
        have e1 : (bl (I ++ [(p, x)])).length = I.length + 1 := by rw [eb1]; simp [bl]
        have e2 : (bl ((q0, y) :: R)).length = R.length + 1 := by rw [eb2]; simp [bl]
        have hLf1 := l1'.few
        have hLf2 := l2'.few
        rw [e1] at hv1 P3
        rw [e2] at hv2 P4
        have f1 : I.length + 1 ≤ 524288 := by simp [zs_len] at hLf1; omega
        have f2 : R.length + 1 ≤ 524288 := by simp [zs_len, HLN.out] at hLf2; omega
        have hsum : (I.length + 1) + (R.length + 1) ≤ 1048576 := by omega
        obtain ⟨i, hi⟩ : ∃ i, I.length + 1 = i := ⟨_, rfl⟩
        obtain ⟨m, hm⟩ : ∃ m, R.length + 1 = m := ⟨_, rfl⟩
        rw [hi] at hv1 P3 f1 hsum e1
        rw [hm] at hv2 P4 f2 hsum e2
        obtain ⟨g3, o3, hg3, hg3l, x3⟩ := P3.at_ (i - 1) (by omega)
        obtain ⟨g4, o4, hg4, hg4l, x4⟩ := P4.at_ 0 (by omega)
        have x3' : W2.cell? ⟨g3, o3 + (i - 1), none⟩ = some (.pointer (some ⟨p, 0, none⟩)) := by
          rw [x3, eb1, List.getD_eq_getElem?_getD, List.getElem?_append_right (by rw [bl_len]; omega)]
          have : i - 1 - (bl I).length = 0 := by rw [bl_len]; omega
          rw [this]; rfl
        have x4' : W2.cell? ⟨g4, o4, none⟩ = some (.pointer (some ⟨q0, 0, none⟩)) := by
          have := x4; rw [eb2] at this; exact this
        obtain ⟨i0, hi0⟩ : ∃ i0, i - 1 = i0 := ⟨_, rfl⟩
        rw [hi0] at x3'
        have hin1 : ((i : Nat) : Int) - 1 = (i0 : Int) := by omega
        have hwr : IntKind.i64.wrap (i0 : Int) = (i0 : Int) := by rw [IntKind.wrap_i64]; omega
        have hin2 : (0 : Int) ≤ (i0 : Int) := by omega
        have hin3 : (i0 : Int) < (i : Int) := by omega
        clear hi0
        have hin4 : (0 : Int) < (m : Int) := by omega
        have HP3 := Lib.hid P3
        have HP4 := Lib.hid P4
        obtain ⟨a5, hs5, P5⟩ := ptrs_l P4 1 (by omega)
        have hs5' : ∀ W : World, (Instr.slice 52 (.slice a4 m cap4) (some (.int .i64 1)) none none).run Try.prog W = .ok (.slice a5 (m - 1) (cap4 - 1)) W := hs5
        obtain ⟨m1, hm1⟩ : ∃ m1, m - 1 = m1 := ⟨_, rfl⟩
        obtain ⟨c5, hc5⟩ : ∃ c5, cap4 - 1 = c5 := ⟨_, rfl⟩
        rw [hm1, hc5] at P5 hs5'
        have hmm1 : m1 + 1 = m := by omega
        rw [eb2] at P5
        have P5' : Ptrs W2 a5 m1 c5 (bl R) := P5
        have HP5 := Lib.hid P5'
        have HS5 := Lib.hid hs5'
        clear hs5 hs5' P5 P5' hm1 hc5
        have HPR := Lib.hid r1
        have HPX : Hid (PCk W2.drew p sz x) := Lib.hid hpx
        have HQY : Hid (PCk W2.drew q0 sz y) := Lib.hid hqy
        have HCI := Lib.hid cI
        have HCR := Lib.hid cR
        have HNS := Lib.hid (And.intro nsp nsq)
        have HNP := Lib.hid (And.intro npp npq)
        have HL1' := Lib.hid l1'
        have HL2' := Lib.hid l2'
        have HB2 := Lib.hid B2
        have HE1 := Lib.hid eb1
        have HE2 := Lib.hid eb2
        have HQ1 := Lib.hid hq1
        have HQ2 := Lib.hid q2
        have HN1' := Lib.hid n1
        have HN2' := Lib.hid n2
        have HPI := Lib.hid (And.intro (And.intro hpI hpR) (And.intro hqI hqR))
        have HQ0 := Lib.hid hq0
        have HP1 := Lib.hid hp1
        have HEN := Lib.hid (And.intro e1 e2)
        subst hg3 hg4 hv1 hv2
        clear x3 x4 P3 P4 r1 r2 c1 c2 cI cR nsp nsq npp npq l1 l2 l1' l2' B1 B2 eb1 eb2 hq1 q2 n1 n2 hpI hqI hqR hpR hq0 hp1 hLf1 hLf2 hi hm e1 e2 hpx hqy
        by_cases hf : Fit sz (x ++ y)
        · obtain ⟨k1, k2⟩ := join_fit hrx hf
          have HJ := Lib.hid k2
          have HJE := Lib.hid k1
          have HF := Lib.hid hf
          clear k1 k2 hrx
          have hs5 := HS5.out
          go_wp2_with fail
          go_region_with
            (first
              | (go_at_call 81
                 (with_reducible refine (join_in p q0 sz x y (x ++ y) _ HPX.out HQY.out hne (by omega) hs2 hxl HJE.out HJ.out).mono ?_)
                 rintro e W3 ⟨rfl, p3, t3⟩)
              | fail)
          all_goals
            have hw3 : W2.heap.size ≤ W3.heap.size := t3.2.2.2.1
            have hr3 := HPR.out.keep2 t3 HNP.out.1 HNP.out.2
            have h5 := HP5.out.keep2 t3 HNP.out.1 HNP.out.2
            have ci3 := HCI.out.keep2 t3 HNS.out.1 HNS.out.2 HPI.out.1.1 HPI.out.2.1
            have cr3 := HCR.out.keep2 t3 HNS.out.1 HNS.out.2 HPI.out.1.2 HPI.out.2.2
            have B3 : Below w.heap.size w W3 := bel_two (HB2.out.drew) (by show w.heap.size ≤ W2.heap.size; omega) HP1.out.1 (by have := HQ0.out; omega) t3
            have c3 : Chs W3 sz (I ++ [(p, x ++ y)] ++ R) := (ci3.app (Chs.one p3)).app cr3
            have HC3 := Lib.hid c3
            have hl5 : (bl (I ++ [(p, x)])).length + m1 ≤ 1048576 := by rw [HEN.out.1]; omega
            have HB3 := Lib.hid B3
            have hei := HEN.out.1
            have hR3 := Lib.hid hr3
            clear p3 t3 ci3 cr3 c3 HPX HQY HCI HCR HNS HNP HB2 HPR HP3 HP4 HP5 x3' x4' B3
            go_wp2_with (at_builtin; (refine wpList_append_ptrs ?_ (.tmp 46) (.tmp 47) rfl w.heap.size _ (bl (I ++ [(p, x)])) rfl hR3.out _ _ c5 (bl R) rfl h5 hl5 (by omega) ?_))
            intro v5 W5 r5 g5
            have c5' := HC3.out.app_keep hR3.out g5
            have B5 := PRow.bel HB3.out (by have := HB3.out.size; omega) hR3.out (Nat.le_refl _) g5
            have hw5 := g5.size
            clear g5 h5
            go_wp2
            go_ret
            refine ⟨v5, I ++ [(p, x ++ y)] ++ R, rfl, ?_, c5', ?_, ?_, ?_, B5⟩
            · rw [show bl (I ++ [(p, x ++ y)] ++ R) = bl (I ++ [(p, x)]) ++ bl R from by simp [bl]]; exact r5
            · have := HL1'.out.join HL2'.out HF.out
              rw [hzs.out] at this
              rw [show zs (I ++ [(p, x ++ y)] ++ R) = zs I ++ [x ++ y] ++ zs R from by simp [zs]]; exact this
            · intro q hq
              rw [show bl (I ++ [(p, x ++ y)] ++ R) = bl (I ++ [(p, x)]) ++ bl R from by simp [bl]] at hq
              rcases List.mem_append.1 hq with hq | hq
              · have := HQ1.out q hq; omega
              · have := HQ2.out q (by rw [HE2.out]; simp [hq]); omega
            · rw [show bl (I ++ [(p, x ++ y)] ++ R) = bl (I ++ [(p, x)]) ++ bl R from by simp [bl]]
              have hn2 := HN2'.out
              rw [HE2.out] at hn2
              refine List.nodup_append.2 ⟨HN1'.out, (List.nodup_cons.1 hn2).2, ?_⟩
              intro u hu v hv e
              subst e
              have h1 := HQ1.out u hu
              have h2 := HQ2.out u (by rw [HE2.out]; simp [hv])
              omega
        · obtain ⟨k1, k2, k3⟩ := join_full hrx hf
          have HJ := Lib.hid (And.intro k2 k3)
          have HJE := Lib.hid k1
          have HF := Lib.hid hf
          clear k1 k2 k3 hrx hf
          go_wp2_with fail
          go_region_with
            (first
              | (go_at_call 81
                 (with_reducible refine (join_out p q0 sz x y _ HPX.out HQY.out hne (by omega) hs2 hxl HJE.out HJ.out.1 HJ.out.2).mono ?_)
                 rintro e W3 ⟨rfl, p3, y3, t3⟩)
              | fail)
          all_goals
            have hw3 : W2.heap.size ≤ W3.heap.size := t3.2.2.2.1
            have hr3 := HPR.out.keep2 t3 HNP.out.1 HNP.out.2
            have h5 := HP4.out.keep2 t3 HNP.out.1 HNP.out.2
            have ci3 := HCI.out.keep2 t3 HNS.out.1 HNS.out.2 HPI.out.1.1 HPI.out.2.1
            have cr3 := HCR.out.keep2 t3 HNS.out.1 HNS.out.2 HPI.out.1.2 HPI.out.2.2
            have B3 : Below w.heap.size w W3 := bel_two (HB2.out.drew) (by show w.heap.size ≤ W2.heap.size; omega) HP1.out.1 (by have := HQ0.out; omega) t3
            have c3 : Chs W3 sz (I ++ [(p, x)] ++ ((q0, y) :: R)) := (ci3.app (Chs.one p3)).app (fun u hu => by
              rcases List.mem_cons.1 hu with e | e
              · subst e; exact y3
              · exact cr3 u e)
            have HC3 := Lib.hid c3
            have hl5 : (bl (I ++ [(p, x)])).length + m ≤ 1048576 := by rw [HEN.out.1]; omega
            have HB3 := Lib.hid B3
            have hei := HEN.out.1
            have hR3 := Lib.hid hr3
            clear p3 y3 t3 ci3 cr3 c3 HPX HQY HCI HCR HNS HNP HB2 HPR HP3 HP4 HP5 x3' x4' B3
            go_wp2_with (at_builtin; (refine wpList_append_ptrs ?_ (.tmp 46) (.tmp 47) rfl w.heap.size _ (bl (I ++ [(p, x)])) rfl hR3.out _ _ cap4 (bl ((q0, y) :: R)) rfl h5 hl5 (by omega) ?_))
            intro v5 W5 r5 g5
            have c5' := HC3.out.app_keep hR3.out g5
            have B5 := PRow.bel HB3.out (by have := HB3.out.size; omega) hR3.out (Nat.le_refl _) g5
            have hw5 := g5.size
            clear g5 h5
            go_wp2
            go_ret
            refine ⟨v5, I ++ [(p, x)] ++ ((q0, y) :: R), rfl, ?_, c5', ?_, ?_, ?_, B5⟩
            · rw [bl_app]; exact r5
            · have := HL1'.out.part HL2'.out HF.out
              rw [hzs.out] at this
              rw [show zs (I ++ [(p, x)] ++ ((q0, y) :: R)) = zs I ++ [x] ++ y :: zs R from by simp [zs]]; exact this
            · intro q hq
              rw [bl_app] at hq
              rcases List.mem_append.1 hq with hq | hq
              · have := HQ1.out q hq; omega
              · have := HQ2.out q hq; omega
            · rw [bl_app]
              refine List.nodup_append.2 ⟨HN1'.out, HN2'.out, ?_⟩
              intro u hu v hv e
              subst e
              have h1 := HQ1.out u hu
              have h2 := HQ2.out u hv
              omega

end Go.Proofs.Ytpbhdlhbcfkhfaa
/-
  Contract of series.Restore: a series with what is told.
  Condition: at most 1000 samples.
-/
namespace Go.Proofs.Ytpbhdlhbcfkhfaa
open Go.RowKit
set_option linter.unusedVariables false
set_option linter.unusedSimpArgs false

theorem restore_nil (mx line : Int) (a : Option Addr) (len cap : Nat) (w : World) :
    Calls Try.prog 31 #[.pointer none, .int .i64 mx, .int .i64 line, .slice a len cap] w fun e w' => e = .returned (.tuple #[.pointer none, .int .i64 11]) ∧ w = w' := by
  go_enter Try.func31, Try.ntmps31
  go_wp2_with fail
  refine (sNone_nil _).mono ?_
  rintro e w' ⟨rfl, rfl⟩
  go_wp2
  go_ret2
  exact ⟨rfl, rfl⟩

set_option maxRecDepth 100000 in
set_option maxHeartbeats 2000000 in
theorem restore_bad (b : Nat) (sz : Int) (s : Ser) (mx line : Int) (a : Option Addr) (len cap : Nat) (z : List (Int × Int)) (w : World) (h : SerAt w b sz s) (hS : Std s) (hs : 128 ≤ sz) (hz : SampAt w a len cap z) (hl : len ≤ 1000) (hno : ¬ (standB s.ret mx line ∧ riseZ z line mx)) :
    Calls Try.prog 31 #[.pointer (some ⟨b, 0, none⟩), .int .i64 mx, .int .i64 line, .slice a len cap] w fun e w' => e = .returned (.tuple #[.pointer none, .int .i64 1]) ∧ Below w.heap.size w w' := by
  have HS := Lib.hid h
  have HL := Lib.hid hz
  have HST := Lib.hid hS
  obtain ⟨v, hc⟩ := h.cell
  have HC := Lib.hid hc
  clear h hc hz hS
  by_cases hst : standB s.ret mx line
  · have HD := Lib.hid (decide_eq_true hst)
    have HD2 := Lib.hid (show decide (riseZ z line mx) = false from decide_eq_false (fun hh => hno ⟨hst, hh⟩))
    have hmx := hst.1.2
    clear hst hno
    go_enter Try.func31, Try.ntmps31
    go_wp2_with fail
    refine (sNone_no b sz _ _ _ _ v w HC.out (by omega)).mono ?_
    rintro e w' ⟨rfl, rfl⟩
    go_wp2_with fail
    refine (stand_any b sz s mx line true w HS.out HST.out.r0 HST.out.r1 HD.out).mono ?_
    rintro e w' ⟨rfl, rfl⟩
    go_wp2_with fail
    refine (rise_any a len cap z line mx false w HL.out hl hmx HD2.out).mono ?_
    rintro e W1 ⟨rfl, b1⟩
    go_wp2
    go_ret2
    exact ⟨rfl, b1⟩
  · have HD := Lib.hid (decide_eq_false hst)
    clear hst hno
    go_enter Try.func31, Try.ntmps31
    go_wp2_with fail
    refine (sNone_no b sz _ _ _ _ v w HC.out (by omega)).mono ?_
    rintro e w' ⟨rfl, rfl⟩
    go_wp2_with fail
    refine (stand_any b sz s mx line false w HS.out HST.out.r0 HST.out.r1 HD.out).mono ?_
    rintro e w' ⟨rfl, rfl⟩
    go_wp2
    go_ret2
    exact ⟨rfl, Below.refl _ _⟩

set_option maxRecDepth 100000 in
set_option maxHeartbeats 4000000 in
theorem restore_ok (b : Nat) (sz : Int) (s : Ser) (mx line : Int) (a : Option Addr) (len cap : Nat) (z : List (Int × Int)) (w : World) (h : SerAt w b sz s) (hS : Std s) (hs : 128 ≤ sz) (hs2 : sz ≤ 4096) (hz : SampAt w a len cap z) (hl : len ≤ 1000) (hst : standB s.ret mx line) (hri : riseZ z line mx) :
    Calls Try.prog 31 #[.pointer (some ⟨b, 0, none⟩), .int .i64 mx, .int .i64 line, .slice a len cap] w fun e w' => ∃ o, e = .returned (.tuple #[.pointer (some ⟨o, 0, none⟩), .int .i64 0]) ∧ SerAt w' o sz ⟨s.ret, s.pol, mx, line, z⟩ ∧ w.heap.size ≤ o ∧ Below w.heap.size w w' := by
  have HS := Lib.hid h
  have HL := Lib.hid hz
  have HST := Lib.hid hS
  obtain ⟨v, hc⟩ := h.cell
  have HC := Lib.hid hc
  have HD := Lib.hid (decide_eq_true hst)
  have HD2 := Lib.hid (decide_eq_true hri)
  have hmx := hst.1.2
  have hbl := hc.lt
  have HRI := Lib.hid hri.rising
  have HT := Lib.hid (show ∀ u ∈ z, 0 ≤ u.1 ∧ u.1 < 1099511627776 from fun u hu => by have := hri.mem u hu; have := hst.2.1.1; omega)
  clear h hc hz hS hst hri
  go_enter Try.func31, Try.ntmps31
  go_wp2_with fail
  refine (sNone_no b sz _ _ _ _ v w HC.out (by omega)).mono ?_
  rintro e w' ⟨rfl, rfl⟩
  go_wp2_with fail
  refine (stand_any b sz s mx line true w HS.out HST.out.r0 HST.out.r1 HD.out).mono ?_
  rintro e w' ⟨rfl, rfl⟩
  go_wp2_with fail
  refine (rise_any a len cap z line mx true w HL.out hl hmx HD2.out).mono ?_
  rintro e W1 ⟨rfl, b1⟩
  have HC1 := Lib.hid ((b1.block b hbl).trans HC.out)
  have HL1 := Lib.hid (HL.out.keep b1)
  have c0 : W1.cell? ⟨b, 0, none⟩ = some (.int .i64 sz) := by rw [cell_of HC1.out]; rfl
  have c1 : W1.cell? ⟨b, 1, none⟩ = some (.int .i64 s.ret) := by rw [cell_of HC1.out]; rfl
  have c2 : W1.cell? ⟨b, 2, none⟩ = some (.int .i64 s.pol) := by rw [cell_of HC1.out]; rfl
  have HB1 := Lib.hid b1
  clear b1
  go_wp2_with fail
  go_region
  all_goals
    have hb1 := HB1.out.size
    have hn2 : (W1.alloc (.cells #[.int .i64 sz, .int .i64 s.ret, .int .i64 s.pol, .int .i64 mx, .int .i64 line, .slice none 0 0] 54)).drew.heap[W1.heap.size]? = some (.cells #[.int .i64 sz, .int .i64 s.ret, .int .i64 s.pol, .int .i64 mx, .int .i64 line, .slice none 0 0] 54 (0, 0)) := heap_new W1 (.cells #[.int .i64 sz, .int .i64 s.ret, .int .i64 s.pol, .int .i64 mx, .int .i64 line, .slice none 0 0] 54)
    have HB2 : Hid (Below w.heap.size w (W1.alloc (.cells #[.int .i64 sz, .int .i64 s.ret, .int .i64 s.pol, .int .i64 mx, .int .i64 line, .slice none 0 0] 54)).drew) := Lib.hid (HB1.out.alloc hb1 (.cells #[.int .i64 sz, .int .i64 s.ret, .int .i64 s.pol, .int .i64 mx, .int .i64 line, .slice none 0 0] 54)).drew
    have HL2 := Lib.hid (HL.out.keep HB2.out)
    have s2 : W1.heap.size < (W1.alloc (.cells #[.int .i64 sz, .int .i64 s.ret, .int .i64 s.pol, .int .i64 mx, .int .i64 line, .slice none 0 0] 54)).drew.heap.size := by show W1.heap.size < (W1.alloc (.cells #[.int .i64 sz, .int .i64 s.ret, .int .i64 s.pol, .int .i64 mx, .int .i64 line, .slice none 0 0] 54)).heap.size; simp
    clear c0 c1 c2
    generalize (W1.alloc (.cells #[.int .i64 sz, .int .i64 s.ret, .int .i64 s.pol, .int .i64 mx, .int .i64 line, .slice none 0 0] 54)).drew = W2 at *
    have d0 : W2.cell? ⟨W1.heap.size, 0, none⟩ = some (.int .i64 sz) := by have := cell_of (o := 0) hn2; exact this
    have HN2 := Lib.hid hn2
    have s2' : W1.heap.size < W2.heap.size := s2
    have hkx' : w.heap.size ≤ W1.heap.size := hb1
    clear hn2 s2
    go_wp2_with fail
    refine (slaid_any sz hs hs2 len a len cap z W2 (Nat.le_refl _) (by omega) HL2.out HRI.out HT.out).mono ?_
    rintro e W3 ⟨v3, L3, rfl, r3, c3, l3, q3, n3, b3⟩
    have hc3 : SCell W3 W1.heap.size sz s.ret s.pol mx line (.slice none 0 0) := (b3.block _ s2').trans HN2.out
    obtain ⟨a3, cap3, rfl, P3⟩ := r3.shape
    have HM := Lib.hid (SMem.set hc3 (bl_len L3).symm P3 c3)
    have f3 := frozen_of (o := 5) hc3
    have d5 : W3.cell? ⟨W1.heap.size, 5, none⟩ = some (.slice none 0 0) := by rw [cell_of hc3]; rfl
    have HB3 := Lib.hid (HB2.out.trans (b3.mono HB2.out.size))
    have HG := Lib.hid (And.intro (l3.good hs) l3.1)
    have hk3 := HB3.out.size
    generalize (bl L3).length = n3' at *
    clear r3 c3 P3 d0 b3 hc3 l3 q3 n3
    go_wp2
    go_ret2
    exact ⟨W1.heap.size, rfl, ⟨L3, HM.out, HG.out⟩, hkx', HB3.out.setCell (p := ⟨W1.heap.size, 5, none⟩) hkx' _⟩

end Go.Proofs.Ytpbhdlhbcfkhfaa
/-
  'append(row, list...)' for samples as one step of a region that draws.
-/
namespace Go.Proofs.Ytpbhdlhbcfkhfaa
open Go.RowKit
set_option linter.unusedVariables false
set_option linter.unusedSimpArgs false

/-- The law of appending a list, as one step of a region that draws. -/
theorem step_append_lst {w : World} {ops : Array Oper} {o : Oper} {a : Act} {K : Act → World → Prop} {Q : Exit → Act → World → Prop} {E : Prop} (hw : Region.wanted o (yielded ops a.tmps) = true) (s x : Operand)
    (ho : o.op = .call { callee := .builtin .append, args := #[s, x], argTypes := #[40, 40] })
    (base : Nat) (v : Value) (n : Nat) (z0 : List (Int × Int)) (hs : a.eval s = v) (hn : z0.length = n) (hown : w.ownsRow base 29 2 v n (smpCells z0))
    (ax : Option Addr) (m c : Nat) (z : List (Int × Int)) (hx : a.eval x = .slice ax m c) (hl : Lst w ax m c z) (hb : n + m ≤ 1048576) (hbase : base ≤ w.heap.size)
    (h : ∀ v' w', w'.ownsRow base 29 2 v' (n + m) (smpCells (z0 ++ z)) → w.grownBy w' v.ownBlock → K (a.put o.dst v') w') :
    if Region.wanted o (yielded ops a.tmps) = true then Oper.wp Try.prog o a w K Q else E := by
  obtain ⟨i0, hi, hz0, hz1, hz2⟩ := info_parts info_samp
  rw [if_pos hw]
  have hm := hl.len
  cases ax with
  | none =>
    have h0 : m = 0 := by
      rcases hl.1.2.2.2.2 with e | ⟨b, off, e, _⟩
      · exact e
      · cases e
    subst h0
    have e0 : z = [] := List.eq_nil_of_length_eq_zero hm
    subst e0
    have hrun := run_append_nothing (P := Try.prog) (w := w) base 40 o.type 29 i0 2 c Try.underlying40 hi v n _ hown
    unfold Oper.wp
    simp [execOp, ho, resolve, invoke, builtin, hs, hx, hrun, Result.andThen]
    refine h v w ?_ (gb_refl _ _)
    simpa using hown
  | some ad =>
    refine wp_append_own w s x 40 ho base 29 i0 _ 2 16 Try.underlying40 hi hz0 hz1 hz2 rfl (by omega) v n _ hs hown ad m c (smpCells z) hx (by rw [smpCells_length, hm]) ?_ (smpCells_one z) (by unfold maxLen; omega) (by omega) hbase ?_
    · intro j u hj
      by_cases h0 : 0 < m
      · obtain ⟨ad', e, hc⟩ := src_cells hl h0
        cases e
        exact hc j u hj
      · have : z = [] := List.eq_nil_of_length_eq_zero (by omega)
        subst this
        simp [smpCells] at hj
    · intro v' w' h2 h3 _
      refine h v' w' ?_ h3
      rw [smpCells_append]; exact h2

end Go.Proofs.Ytpbhdlhbcfkhfaa
/-
  Contract of the document's own answer for layer 5: Restore.
  Condition: at most 1000 samples.
-/
namespace Go.Proofs.Ytpbhdlhbcfkhfaa
open Go.RowKit
set_option linter.unusedVariables false
set_option linter.unusedSimpArgs false

def RRestOk (s : Ser) (w : World) (e : Ending) (w' : World) : Prop := ∃ o, e = .returned (.tuple #[.pointer (some ⟨o, 0, none⟩), .int .i64 0]) ∧ RSer w' o s ∧ w.heap.size ≤ o ∧ Below w.heap.size w w'
def RRestNo (w : World) (e : Ending) (w' : World) : Prop := e = .returned (.tuple #[.pointer none, .int .i64 1]) ∧ Below w.heap.size w w'

set_option maxRecDepth 100000 in
set_option maxHeartbeats 8000000 in
/-- What cannot stand is refused. -/
theorem rrest_stand (b : Nat) (s : Ser) (mx line : Int) (a : Option Addr) (len cap : Nat) (w : World) (h : RSer w b s) (r0 : 0 ≤ s.ret) (r1 : s.ret ≤ 1099511627776) (hno : ¬ standB s.ret mx line) :
    Calls Try.prog 32 #[.pointer (some ⟨b, 0, none⟩), .int .i64 mx, .int .i64 line, .slice a len cap] w (RRestNo w) := by
  obtain ⟨al, cl, hc, hlz⟩ := h
  have c0 : w.cell? ⟨b, 0, none⟩ = some (.int .i64 s.ret) := by rw [cell_of hc]; rfl
  have HNO := Lib.hid hno
  clear hc hlz hno
  generalize s.ret = ret at *
  by_cases h1 : mx < -1
  · go_enter Try.func32, Try.ntmps32
    go_wp2
    go_ret2
    exact ⟨rfl, Below.refl _ _⟩
  by_cases h2 : mx ≥ 1099511627776
  · go_enter Try.func32, Try.ntmps32
    go_wp2
    go_ret2
    exact ⟨rfl, Below.refl _ _⟩
  by_cases h3 : line < 0
  · go_enter Try.func32, Try.ntmps32
    go_wp2
    go_ret2
    exact ⟨rfl, Below.refl _ _⟩
  obtain ⟨m0, hm0⟩ : ∃ m0, max 0 mx = m0 := ⟨_, rfl⟩
  have HM0 := Lib.hid hm0
  have hmm : (mx ≤ 0 ∧ m0 = 0) ∨ (¬ mx ≤ 0 ∧ m0 = mx) := by omega
  clear hm0
  by_cases h4 : line > m0
  · rcases hmm with ⟨k1, rfl⟩ | ⟨k1, rfl⟩
    all_goals
      go_enter Try.func32, Try.ntmps32
      go_wp2
      go_ret2
      exact ⟨rfl, Below.refl _ _⟩
  have h5 : ret > 0 ∧ line < mx - ret := by
    have := HNO.out
    have := HM0.out
    unfold standB at this
    apply Classical.byContradiction
    intro hh
    apply HNO.out
    exact ⟨⟨by omega, by omega⟩, ⟨by omega, by omega⟩, by omega⟩
  obtain ⟨h5, h6⟩ := h5
  rcases hmm with ⟨k1, rfl⟩ | ⟨k1, rfl⟩
  · exfalso; omega
  · go_enter Try.func32, Try.ntmps32
    go_wp2
    go_ret2
    exact ⟨rfl, Below.refl _ _⟩

theorem src_samp {w : World} {a : Option Addr} {len cap : Nat} {z : List (Int × Int)} (h : SampAt w a len cap z) (h0 : 0 < len) :
    ∃ ad, a = some ad ∧ ∀ j v, (smpCells z)[j]? = some v → w.cell? (ad.add j) = some v := by
  obtain ⟨h1, h2, h3, h4, h5⟩ := h
  rcases h5 with e | ⟨b, off, rfl, hb, hc⟩
  · omega
  · refine ⟨_, rfl, fun j v hj => ?_⟩
    have hjl : j < (smpCells z).length := (List.getElem?_eq_some_iff.1 hj).1
    rw [smpCells_length] at hjl
    obtain ⟨c1, c2⟩ := hc (j / 2) (by omega)
    obtain ⟨g1, g2⟩ := smpCells_get z (j / 2) (by omega)
    have ha : (⟨b, off, none⟩ : Addr).add j = ⟨b, off + j, none⟩ := by simp [Addr.add]
    rw [ha]
    rcases (show j = j / 2 * 2 ∨ j = j / 2 * 2 + 1 from by omega) with e | e
    · rw [e] at hj ⊢
      rw [g1] at hj
      rw [c1, hj]
    · rw [e] at hj ⊢
      rw [g2] at hj
      rw [← Nat.add_assoc, c2, hj]

theorem step_append_samp {w : World} {ops : Array Oper} {o : Oper} {a : Act} {K : Act → World → Prop} {Q : Exit → Act → World → Prop} {E : Prop} (hw : Region.wanted o (yielded ops a.tmps) = true) (s x : Operand)
    (ho : o.op = .call { callee := .builtin .append, args := #[s, x], argTypes := #[40, 40] })
    (base : Nat) (v : Value) (n : Nat) (z0 : List (Int × Int)) (hs : a.eval s = v) (hn : z0.length = n) (hown : w.ownsRow base 29 2 v n (smpCells z0))
    (ax : Option Addr) (m c : Nat) (z : List (Int × Int)) (hx : a.eval x = .slice ax m c) (hl : SampAt w ax m c z) (hb : n + m ≤ 1048576) (hbase : base ≤ w.heap.size)
    (h : ∀ v' w', w'.ownsRow base 29 2 v' (n + m) (smpCells (z0 ++ z)) → w.grownBy w' v.ownBlock → K (a.put o.dst v') w') :
    if Region.wanted o (yielded ops a.tmps) = true then Oper.wp Try.prog o a w K Q else E := by
  obtain ⟨i0, hi, hz0, hz1, hz2⟩ := info_parts info_samp
  rw [if_pos hw]
  have hm := hl.1
  cases ax with
  | none =>
    have h0 : m = 0 := by
      rcases hl.2.2.2.2 with e | ⟨b, off, e, _⟩
      · exact e
      · cases e
    subst h0
    have e0 : z = [] := List.eq_nil_of_length_eq_zero hm
    subst e0
    have hrun := run_append_nothing (P := Try.prog) (w := w) base 40 o.type 29 i0 2 c Try.underlying40 hi v n _ hown
    unfold Oper.wp
    simp [execOp, ho, resolve, invoke, builtin, hs, hx, hrun, Result.andThen]
    refine h v w ?_ (gb_refl _ _)
    simpa using hown
  | some ad =>
    refine wp_append_own w s x 40 ho base 29 i0 _ 2 16 Try.underlying40 hi hz0 hz1 hz2 rfl (by omega) v n _ hs hown ad m c (smpCells z) hx (by rw [smpCells_length, hm]) ?_ (smpCells_one z) (by unfold maxLen; omega) (by omega) hbase ?_
    · intro j u hj
      by_cases h0 : 0 < m
      · obtain ⟨ad', e, hc⟩ := src_samp hl h0
        cases e
        exact hc j u hj
      · have : z = [] := List.eq_nil_of_length_eq_zero (by omega)
        subst this
        simp [smpCells] at hj
    · intro v' w' h2 h3 _
      refine h v' w' ?_ h3
      rw [smpCells_append]; exact h2


set_option maxRecDepth 100000 in
set_option maxHeartbeats 16000000 in
theorem rrest_any (b : Nat) (s : Ser) (mx line : Int) (a : Option Addr) (len cap : Nat) (z : List (Int × Int)) (w : World) (h : RSer w b s) (r0 : 0 ≤ s.ret) (r1 : s.ret ≤ 1099511627776) (hz : SampAt w a len cap z) (hl : len ≤ 1000) (hst : standB s.ret mx line) :
    Calls Try.prog 32 #[.pointer (some ⟨b, 0, none⟩), .int .i64 mx, .int .i64 line, .slice a len cap] w fun e w' => (riseZ z line mx ∧ RRestOk ⟨s.ret, s.pol, mx, line, z⟩ w e w') ∨ (¬ riseZ z line mx ∧ RRestNo w e w') := by
  obtain ⟨al, cl, hc, hlz⟩ := h
  have HC := Lib.hid hc
  have hb := heap_lt hc
  have c0 : w.cell? ⟨b, 0, none⟩ = some (.int .i64 s.ret) := by rw [cell_of hc]; rfl
  have c1 : w.cell? ⟨b, 1, none⟩ = some (.int .i64 s.pol) := by rw [cell_of hc]; rfl
  have C0 := Lib.hid c0
  have C1 := Lib.hid c1
  have HL := Lib.hid hz
  have HLN := Lib.hid hz.1
  have h64 := Lib.hid hz.2.2.2.1
  obtain ⟨⟨m0, m1⟩, ⟨l0, l1⟩, lr⟩ := hst
  clear hc hlz hz
  generalize s.ret = ret at *
  generalize s.pol = pol at *
  obtain ⟨mm, hmm⟩ : ∃ mm, max 0 mx = mm := ⟨_, rfl⟩
  have hmm2 : (mx ≤ 0 ∧ mm = 0) ∨ (¬ mx ≤ 0 ∧ mm = mx) := by omega
  rw [hmm] at l1
  clear hmm
  go_enter Try.func32, Try.ntmps32
  go_upto_region 1 with fail
  go_cut [43] (fun s43 wx => s43 = .bool false ∧ wx = w)
  case first =>
    have k1 : ¬ mx < -1 := by omega
    have k2 : ¬ mx ≥ 1099511627776 := by omega
    have k3 : ¬ line < 0 := by omega
    rcases hmm2 with ⟨k4, rfl⟩ | ⟨k4, rfl⟩
    all_goals
      have k5 : ¬ line > _ := Int.not_lt.2 l1
      by_cases k6 : ret > 0
      all_goals
        go_wp2
        go_meet
        exact ⟨by first | rfl | exact congrArg Value.bool (decide_eq_false (by omega)), rfl⟩
  case rest =>
    obtain ⟨rfl, hwc⟩ := hcut
    replace hwc := hwc.symm
    subst hwc
    clear hmm2 l1
    go_wp2_with fail
    go_loopw [10] (fun i wr => ∃ j : Nat, j ≤ len ∧ i = .int .i64 (j : Int) ∧ Hid (okTo z line mx j) ∧ Below w.heap.size w wr) (fun i _ => len - (intOf i).toNat)
    case atStart => exact ⟨0, Nat.zero_le _, rfl, Lib.hid (fun i hi => absurd hi (Nat.not_lt_zero _)), Below.refl _ _⟩
    case round =>
      obtain ⟨j, hj, rfl, HOK, B1⟩ := hrel
      have s1 := B1.size
      by_cases hjl : j < len
      · obtain ⟨q, o, hqe, hq, x0, x1⟩ := HL.out.at_ j hjl
        subst hqe
        rw [← B1.cell hq] at x0 x1
        have hj0 : (0 : Int) ≤ (j : Int) := by omega
        have hj1 : (j : Int) < (len : Int) := by omega
        have hd1 : decide ((j : Int) < (len : Int)) = true := decide_eq_true hj1
        have HKI := Lib.hid (okAt_iff z line mx j)
        have HLW := Lib.hid (show ∀ k, j = k + 1 → lowZ z line j = tOf z k + 1 from fun k hk => by subst hk; exact lowZ_next z line k)
        have HLZ := Lib.hid (show j = 0 → lowZ z line j = line from fun hk => by subst hk; rfl)
        have HLO := Lib.hid (show okAt z line mx j → line ≤ tOf z j from fun hk => (okTo.low (HOK.out.next hk) j (Nat.lt_succ_self j)).1)
        by_cases hjz : j = 0
        · have hgt : ¬ (j : Int) > 0 := by omega
          have hg2 : decide ((j : Int) > 0) = false := decide_eq_false hgt
          have hg3 : decide ((0 : Int) < (j : Int)) = false := decide_eq_false hgt
          have hg4 : decide (0 < j) = false := decide_eq_false (by omega)
          have HLJ := Lib.hid (HLZ.out hjz)
          obtain ⟨T, hT⟩ : ∃ T, tOf z j = T := ⟨_, rfl⟩
          rw [hT] at x0
          have HT := Lib.hid hT
          clear hjz hT x1
          by_cases ht1 : T < line
          · have HNO := Lib.hid (show ¬ riseZ z line mx from fun hh => by
              have h1 := (HKI.out.1 (hh j (by rw [HLN.out]; exact hjl))).1
              rw [HLJ.out, HT.out] at h1; omega)
            have ht2 : decide (T < line) = true := decide_eq_true ht1
            go_wp2_with fail
            go_quiet (fail)
            go_wp2
            go_ret2
            exact .inr ⟨HNO.out, rfl, B1.trans ((drew_below ⟨nq, rfl⟩).mono B1.size)⟩
          · have ht2 : decide (T < line) = false := decide_eq_false ht1
            by_cases hu1 : T > mx
            · have HNO := Lib.hid (show ¬ riseZ z line mx from fun hh => by
                have h1 := (HKI.out.1 (hh j (by rw [HLN.out]; exact hjl))).2
                rw [HT.out] at h1; omega)
              have hu2 : decide (T > mx) = true := decide_eq_true hu1
              have hu3 : decide (mx < T) = true := decide_eq_true hu1
              go_wp2_with fail
              go_quiet (fail)
              go_wp2
              go_ret2
              exact .inr ⟨HNO.out, rfl, B1.trans ((drew_below ⟨nq, rfl⟩).mono B1.size)⟩
            · have hu2 : decide (T > mx) = false := decide_eq_false hu1
              have hu3 : decide (mx < T) = false := decide_eq_false hu1
              have HO2 := Lib.hid (HOK.out.next (HKI.out.2 ⟨by rw [HLJ.out, HT.out]; omega, by rw [HT.out]; omega⟩))
              go_wp2_with fail
              go_quiet (fail)
              have B2 : Below w.heap.size w (wr.drewN nq) := B1.trans ((drew_below ⟨nq, rfl⟩).mono B1.size)
              clear x0 B1
              generalize wr.drewN nq = W2 at *
              go_wp2
              go_roundw
              case rel => exact ⟨j + 1, by omega, by go_num, HO2, B2⟩
              case measure => simp [intOf]; omega
        · obtain ⟨k, hk⟩ : ∃ k, j = k + 1 := ⟨j - 1, by omega⟩
          obtain ⟨q', o', hqe', hq', y0, y1⟩ := HL.out.at_ k (by omega)
          cases hqe'
          rw [← B1.cell hq] at y0
          have hgt : (j : Int) > 0 := by omega
          have hg2 : decide ((j : Int) > 0) = true := decide_eq_true hgt
          have hg3 : decide ((0 : Int) < (j : Int)) = true := decide_eq_true hgt
          have hg4 : decide (0 < j) = true := decide_eq_true (by omega)
          have HLJ := Lib.hid (HLW.out k hk)
          have hk1 : (j : Int) - 1 = (k : Int) := by omega
          have hkw : IntKind.i64.wrap (k : Int) = (k : Int) := by rw [IntKind.wrap_i64]; omega
          have hk2 : (0 : Int) ≤ (k : Int) := by omega
          have hk3 : (k : Int) < (len : Int) := by omega
          obtain ⟨T, hT⟩ : ∃ T, tOf z j = T := ⟨_, rfl⟩
          obtain ⟨U, hU⟩ : ∃ U, tOf z k = U := ⟨_, rfl⟩
          rw [hT] at x0
          rw [hU] at y0
          have HT := Lib.hid hT
          have HU := Lib.hid hU
          have HKL := Lib.hid (show line ≤ U from by rw [← hU]; exact (HOK.out.low k (by omega)).1)
          clear hjz hT hU x1 y1 hk
          by_cases ht1 : T < line
          · have HNO := Lib.hid (show ¬ riseZ z line mx from fun hh => by
              have h1 := (HKI.out.1 (hh j (by rw [HLN.out]; exact hjl))).1
              have h2 := HKL.out
              rw [HLJ.out, HT.out, HU.out] at h1; omega)
            have ht2 : decide (T < line) = true := decide_eq_true ht1
            go_wp2_with fail
            go_quiet (fail)
            go_wp2
            go_ret2
            exact .inr ⟨HNO.out, rfl, B1.trans ((drew_below ⟨nq, rfl⟩).mono B1.size)⟩
          · have ht2 : decide (T < line) = false := decide_eq_false ht1
            by_cases hu1 : T > mx
            · have HNO := Lib.hid (show ¬ riseZ z line mx from fun hh => by
                have h1 := (HKI.out.1 (hh j (by rw [HLN.out]; exact hjl))).2
                rw [HT.out] at h1; omega)
              have hu2 : decide (T > mx) = true := decide_eq_true hu1
              have hu3 : decide (mx < T) = true := decide_eq_true hu1
              go_wp2_with fail
              go_quiet (fail)
              go_wp2
              go_ret2
              exact .inr ⟨HNO.out, rfl, B1.trans ((drew_below ⟨nq, rfl⟩).mono B1.size)⟩
            · have hu2 : decide (T > mx) = false := decide_eq_false hu1
              have hu3 : decide (mx < T) = false := decide_eq_false hu1
              by_cases hv1 : U ≥ T
              · have HNO := Lib.hid (show ¬ riseZ z line mx from fun hh => by
                  have h1 := (HKI.out.1 (hh j (by rw [HLN.out]; exact hjl))).1
                  rw [HLJ.out, HT.out, HU.out] at h1; omega)
                have hv2 : decide (U ≥ T) = true := decide_eq_true hv1
                have hv3 : decide (T ≤ U) = true := decide_eq_true hv1
                go_wp2_with fail
                go_quiet (fail)
                go_wp2
                go_ret2
                exact .inr ⟨HNO.out, rfl, B1.trans ((drew_below ⟨nq, rfl⟩).mono B1.size)⟩
              · have hv2 : decide (U ≥ T) = false := decide_eq_false hv1
                have hv3 : decide (T ≤ U) = false := decide_eq_false hv1
                have HO2 := Lib.hid (HOK.out.next (HKI.out.2 ⟨by rw [HLJ.out, HT.out, HU.out]; omega, by rw [HT.out]; omega⟩))
                go_wp2_with fail
                go_quiet (fail)
                have B2 : Below w.heap.size w (wr.drewN nq) := B1.trans ((drew_below ⟨nq, rfl⟩).mono B1.size)
                clear x0 y0 B1
                generalize wr.drewN nq = W2 at *
                go_wp2
                go_roundw
                case rel => exact ⟨j + 1, by omega, by go_num, HO2, B2⟩
                case measure => simp [intOf]; omega
      · obtain rfl : len = j := by omega
        have HYE := Lib.hid (show riseZ z line mx from by unfold riseZ; rw [HLN.out]; exact HOK.out)
        have hbr : b < wr.heap.size := Nat.lt_of_lt_of_le hb s1
        have e0 : wr.cell? ⟨b, 0, none⟩ = some (.int .i64 ret) := by rw [B1.cell hb]; exact C0.out
        have e1 : wr.cell? ⟨b, 1, none⟩ = some (.int .i64 pol) := by rw [B1.cell hb]; exact C1.out
        have D0 : wr.drew.cell? ⟨b, 0, none⟩ = some (.int .i64 ret) := e0
        have D1 : wr.drew.cell? ⟨b, 1, none⟩ = some (.int .i64 pol) := e1
        have hbD : b < wr.drew.heap.size := hbr
        have BE := (Below.refl wr.drew.heap.size wr.drew).alloc (Nat.le_refl _) (.cells #[] 29)
        have oe := owns_empty wr.drew wr.drew.heap.size (Nat.le_refl _)
        have se : wr.drew.heap.size ≤ (wr.drew.alloc (.cells #[] 29)).heap.size := by simp
        have BD : Below w.heap.size w wr.drew := B1.drew
        have LE := (HL.out.keep BD).keep BE
        have HBDE := Lib.hid (And.intro BD BE)
        have HE0 := Lib.hid (BE.cell (p := ⟨b, 0, none⟩) hbD)
        have HE1 := Lib.hid (BE.cell (p := ⟨b, 1, none⟩) hbD)
        have HD0 := Lib.hid D0
        have HD1 := Lib.hid D1
        go_wp2_with fail
        go_region_held3 (fun w' => w'.cell? ⟨b, 0, none⟩ = some (.int .i64 ret) ∧ w'.cell? ⟨b, 1, none⟩ = some (.int .i64 pol))
          (first
            | (exact ⟨(B9.cell (p := ⟨b, 0, none⟩) hbD).trans HD0.out, (B9.cell (p := ⟨b, 1, none⟩) hbD).trans HD1.out⟩)
            | (exact ⟨HE0.out.trans HD0.out, HE1.out.trans HD1.out⟩)
            | (exact ⟨HD0.out, HD1.out⟩)
            | go_keep
            | fail)
          (first
            | (refine step_append_samp (by rfl) (.tmp 94) (.tmp 95) (by rfl) wr.drew.heap.size _ 0 [] (by rfl) (by rfl) oe a len cap z (by rfl) LE (by omega) se ?_
               intro v9 W9 o9 g9
               rw [Nat.zero_add, List.nil_append] at o9
               have B9 := BE.grown g9 se (fun k hk => (oe.lt k hk).1)
               obtain ⟨ad, cp, rfl, L9⟩ := owns_lst HLN.out h64.out (by omega) o9)
            | fail)
        all_goals
          have HB9 := Lib.hid (HBDE.out.1.trans (B9.mono HBDE.out.1.size))
          have HL9 := Lib.hid L9
          have hs9 := HB9.out.size
          have HLL := Lib.hid (show z.length = len from HLN.out)
          clear L9 o9 g9 oe LE BE BD D0 D1 e0 e1
          go_wp2
          go_ret2
          refine .inl ⟨HYE.out, W9.heap.size, rfl, ⟨ad, cp, ?_, ?_⟩, hs9, HB9.out.alloc hs9 _⟩
          · have := heap_new W9 (.cells #[.int .i64 ret, .int .i64 pol, .int .i64 mx, .int .i64 line, .slice ad len cp] 86)
            unfold RCell
            simp only
            rw [HLL.out]
            exact this
          · simp only
            rw [HLL.out]
            exact HL9.out.keepN (World.grownBy_alloc W9 _ none)

end Go.Proofs.Ytpbhdlhbcfkhfaa
/-
  Contract of 'play' of the statements of layer 5: a call, and how it went.
-/
namespace Go.Proofs.Ytpbhdlhbcfkhfaa
open Go.RowKit
set_option linter.unusedVariables false
set_option linter.unusedSimpArgs false

def playE (s : Ser) (o : Cl) : Int := if o.1 = 0 then addE s o.2.1 o.2.2.1 o.2.2.2 else if o.1 = 2 then altE o.2.1 o.2.2.2 else (dropN s.z o.2.1 o.2.2.1 : Int)
def playS (s : Ser) (o : Cl) : Ser := if o.1 = 0 then addS5 s o.2.1 o.2.2.1 o.2.2.2 else if o.1 = 2 then altS s o.2.1 o.2.2.2 else delS s o.2.1 o.2.2.1
theorem Std.play {s : Ser} (h : Std s) (o : Cl) (ho : Cl64 o) : Std (playS s o) := by
  unfold playS
  split
  · exact h.add _ _ _ ho.2.2.1
  · split
    · exact h.alt _ _
    · exact h.del _ _
theorem play_len {s : Ser} (h : Std s) (o : Cl) : (playS s o).z.length ≤ s.z.length + 1 := by
  unfold playS
  split
  · exact add_len h.rise _ _ _
  · split
    · exact Nat.le_trans (alt_len s _ _) (by omega)
    · exact Nat.le_trans (del_len s _ _) (by omega)

set_option maxRecDepth 100000 in
set_option maxHeartbeats 2000000 in
theorem play_any (b : Nat) (sz : Int) (s : Ser) (K T V P : Int) (w : World) (h : SerAt w b sz s) (hS : Std s) (hs : 128 ≤ sz) (hs2 : sz ≤ 4096) (hn : s.z.length ≤ 1000) (hV : in64 V) :
    Calls Try.prog 34 #[.pointer (some ⟨b, 0, none⟩), .agg #[.int .i64 K, .int .i64 T, .int .i64 V, .int .i64 P]] w (PutP b sz (playE s (K, T, V, P)) (playS s (K, T, V, P)) w) := by
  have HST := Lib.hid hS
  have B0 := (Below.refl w.heap.size w).alloc (Nat.le_refl _) (.cells #[.int .i64 K, .int .i64 T, .int .i64 V, .int .i64 P] 31)
  have HO := Lib.hid (heap_new w (.cells #[.int .i64 K, .int .i64 T, .int .i64 V, .int .i64 P] 31))
  have HS0 := Lib.hid (h.keepB B0)
  have HB0 := Lib.hid B0
  clear h hS B0
  rcases (show K = 0 ∨ K = 2 ∨ (K ≠ 0 ∧ K ≠ 2) by omega) with hK | hK | ⟨hK, hK2⟩
  · subst hK
    have HE := Lib.hid (show playE s (0, T, V, P) = addE s T V P from rfl)
    have HA := Lib.hid (show playS s (0, T, V, P) = addS5 s T V P from rfl)
    go_enter Try.func34, Try.ntmps34
    go_wp2_with fail
    generalize w.alloc (.cells #[.int .i64 0, .int .i64 T, .int .i64 V, .int .i64 P] 31) = W0 at *
    have y0 : W0.cell? ⟨w.heap.size, 0, none⟩ = some (.int .i64 0) := by rw [cell_of HO.out]; rfl
    have y1 : W0.cell? ⟨w.heap.size, 1, none⟩ = some (.int .i64 T) := by rw [cell_of HO.out]; rfl
    have y2 : W0.cell? ⟨w.heap.size, 2, none⟩ = some (.int .i64 V) := by rw [cell_of HO.out]; rfl
    have y3 : W0.cell? ⟨w.heap.size, 3, none⟩ = some (.int .i64 P) := by rw [cell_of HO.out]; rfl
    go_wp2_with fail
    refine (add_ser b sz s T V P W0 HS0.out HST.out hs hs2 (by omega) hV).mono ?_
    rintro e W1 ⟨rfl, S1, g1⟩
    have HS1 := Lib.hid S1
    have HG1 := Lib.hid (gb_trans (gb_below HB0.out) g1)
    clear S1 g1 y0 y1 y2 y3
    go_wp2
    go_ret
    exact ⟨by rw [HE.out]; rfl, by rw [HA.out]; exact HS1.out, HG1.out⟩
  · subst hK
    have HE := Lib.hid (show playE s (2, T, V, P) = altE T P from rfl)
    have HA := Lib.hid (show playS s (2, T, V, P) = altS s T P from rfl)
    go_enter Try.func34, Try.ntmps34
    go_wp2_with fail
    generalize w.alloc (.cells #[.int .i64 2, .int .i64 T, .int .i64 V, .int .i64 P] 31) = W0 at *
    have y0 : W0.cell? ⟨w.heap.size, 0, none⟩ = some (.int .i64 2) := by rw [cell_of HO.out]; rfl
    have y1 : W0.cell? ⟨w.heap.size, 1, none⟩ = some (.int .i64 T) := by rw [cell_of HO.out]; rfl
    have y2 : W0.cell? ⟨w.heap.size, 2, none⟩ = some (.int .i64 V) := by rw [cell_of HO.out]; rfl
    have y3 : W0.cell? ⟨w.heap.size, 3, none⟩ = some (.int .i64 P) := by rw [cell_of HO.out]; rfl
    go_wp2_with fail
    refine (alter_any b sz s T P W0 HS0.out HST.out hs hs2 (by omega)).mono ?_
    rintro e W1 ⟨rfl, S1, g1⟩
    have HS1 := Lib.hid S1
    have HG1 := Lib.hid (gb_trans (gb_below HB0.out) g1)
    clear S1 g1 y0 y1 y2 y3
    go_wp2
    go_ret
    exact ⟨by rw [HE.out]; rfl, by rw [HA.out]; exact HS1.out, HG1.out⟩
  · have hk0 : (K == 0) = false := by rw [beq_eq_false_iff_ne]; exact hK
    have hk2 : (K == 2) = false := by rw [beq_eq_false_iff_ne]; exact hK2
    have HE := Lib.hid (show playE s (K, T, V, P) = (dropN s.z T V : Int) from by unfold playE; rw [if_neg hK, if_neg hK2])
    have HA := Lib.hid (show playS s (K, T, V, P) = delS s T V from by unfold playS; rw [if_neg hK, if_neg hK2])
    clear hK hK2
    go_enter Try.func34, Try.ntmps34
    go_wp2_with fail
    generalize w.alloc (.cells #[.int .i64 K, .int .i64 T, .int .i64 V, .int .i64 P] 31) = W0 at *
    have y0 : W0.cell? ⟨w.heap.size, 0, none⟩ = some (.int .i64 K) := by rw [cell_of HO.out]; rfl
    have y1 : W0.cell? ⟨w.heap.size, 1, none⟩ = some (.int .i64 T) := by rw [cell_of HO.out]; rfl
    have y2 : W0.cell? ⟨w.heap.size, 2, none⟩ = some (.int .i64 V) := by rw [cell_of HO.out]; rfl
    have y3 : W0.cell? ⟨w.heap.size, 3, none⟩ = some (.int .i64 P) := by rw [cell_of HO.out]; rfl
    go_wp2_with fail
    refine (del_any b sz s T V W0 HS0.out hs hs2 HST.out.rise (by omega)).mono ?_
    rintro e W1 ⟨rfl, S1, g1⟩
    have HS1 := Lib.hid S1
    have HG1 := Lib.hid (gb_trans (gb_below HB0.out) g1)
    clear S1 g1 y0 y1 y2 y3
    generalize dropN s.z T V = dn at *
    go_wp2
    go_ret
    exact ⟨by rw [HE.out]; rfl, by rw [HA.out]; exact HS1.out, HG1.out⟩

end Go.Proofs.Ytpbhdlhbcfkhfaa
namespace Go.Proofs.Ytpbhdlhbcfkhfaa
namespace seriesRestores
open Go.ChangeShapes Go.WideShapes Go.ChangeAt Go.RowKit
set_option linter.unusedVariables false
set_option linter.unusedSimpArgs false

/-- What restoring tells: a series, or an error. -/
def RestQ (ok : Prop) (st : World → Nat → Prop) (w : World) (e : Ending) (w' : World) : Prop := ∃ p er, e = .returned (.tuple #[.pointer p, .int .i64 er]) ∧ Below w.heap.size w w' ∧ Hid ((ok ∧ er = 0 ∧ ∃ o, p = some ⟨o, 0, none⟩ ∧ st w' o) ∨ (¬ ok ∧ er = 1 ∧ p = none))
theorem restore_q (b : Nat) (sz : Int) (s : Ser) (mx line : Int) (a : Option Addr) (len cap : Nat) (z : List (Int × Int)) (w : World) (h : SerAt w b sz s) (hS : Std s) (hs : 128 ≤ sz) (hs2 : sz ≤ 4096) (hz : SampAt w a len cap z) (hl : len ≤ 1000) :
    Calls Try.prog 31 #[.pointer (some ⟨b, 0, none⟩), .int .i64 mx, .int .i64 line, .slice a len cap] w (RestQ (standB s.ret mx line ∧ riseZ z line mx) (fun w' o => SerAt w' o sz ⟨s.ret, s.pol, mx, line, z⟩) w) := by
  by_cases hok : standB s.ret mx line ∧ riseZ z line mx
  · refine (restore_ok b sz s mx line a len cap z w h hS hs hs2 hz hl hok.1 hok.2).mono ?_
    rintro e w' ⟨o, rfl, h1, _, h2⟩
    exact ⟨_, _, rfl, h2, Lib.hid (.inl ⟨hok, rfl, o, rfl, h1⟩)⟩
  · refine (restore_bad b sz s mx line a len cap z w h hS hs hz hl hok).mono ?_
    rintro e w' ⟨rfl, h2⟩
    exact ⟨_, _, rfl, h2, Lib.hid (.inr ⟨hok, rfl, rfl⟩)⟩
theorem rrestore_q (b : Nat) (s : Ser) (mx line : Int) (a : Option Addr) (len cap : Nat) (z : List (Int × Int)) (w : World) (h : RSer w b s) (r0 : 0 ≤ s.ret) (r1 : s.ret ≤ 1099511627776) (hz : SampAt w a len cap z) (hl : len ≤ 1000) :
    Calls Try.prog 32 #[.pointer (some ⟨b, 0, none⟩), .int .i64 mx, .int .i64 line, .slice a len cap] w (RestQ (standB s.ret mx line ∧ riseZ z line mx) (fun w' o => RSer w' o ⟨s.ret, s.pol, mx, line, z⟩) w) := by
  by_cases hst : standB s.ret mx line
  · refine (rrest_any b s mx line a len cap z w h r0 r1 hz hl hst).mono ?_
    rintro e w' (⟨h1, o, rfl, h2, _, h3⟩ | ⟨h1, rfl, h3⟩)
    · exact ⟨_, _, rfl, h3, Lib.hid (.inl ⟨⟨hst, h1⟩, rfl, o, rfl, h2⟩)⟩
    · exact ⟨_, _, rfl, h3, Lib.hid (.inr ⟨fun hh => h1 hh.2, rfl, rfl⟩)⟩
  · refine (rrest_stand b s mx line a len cap w h r0 r1 hst).mono ?_
    rintro e w' ⟨rfl, h3⟩
    exact ⟨_, _, rfl, h3, Lib.hid (.inr ⟨fun hh => hst hh.1, rfl, rfl⟩)⟩

theorem own : ownKnob Try.prog.godebug = none := by kernel_rfl
theorem laidOut : laidOutB Try.prog = true := by kernel_rfl

theorem trod_two {H : Type} {enc : TypeId × Value → H} {P : Program} {w : World} {base : Nat} {spare : Nat → Bool} {held : Bool} {t e : TypeId} {fuel : Nat} {c0 c1 : Value} {x : DataW H × List MemPlace} (ht : P.underlying t = some (.array 2 e)) (hce : P.cellsOf e = 1)
    (h : DataW.trod enc P w base spare held fuel t [c0, c1] = some x) :
    ∃ y0 y1 n, DataW.trod enc P w base spare held n e [c0] = some y0 ∧ DataW.trod enc P w base spare held n e [c1] = some y1 := by
  cases fuel with
  | zero => simp [DataW.trod] at h
  | succ n =>
    unfold DataW.trod at h
    rw [ht] at h
    have r2 : List.range 2 = [0, 1] := rfl
    simp [r2, hce] at h
    obtain ⟨_, h⟩ := h
    cases h0 : DataW.trod enc P w base spare held n e [c0] with
    | none => simp [h0] at h
    | some y0 =>
      cases h1 : DataW.trod enc P w base spare held n e [c1] with
      | none => simp [h0, h1] at h
      | some y1 => exact ⟨y0, y1, n, h0, h1⟩
set_option maxRecDepth 100000 in
theorem open_arr2 {H : Type} {enc : TypeId × Value → H} {W : World} {r : Reach} {b0 : Nat} {v : Value} {d : DataW H} {p : List MemPlace}
    (hv : Value.okWide Try.prog W r b0 58 v) (h : DataW.Trod enc Try.prog W 0 (fun _ => true) true 58 v d p) :
    ∃ z : Int × Int, v = .agg #[.int .i64 z.1, .int .i64 z.2] ∧ in64 z.1 ∧ in64 z.2 := by
  simp only [Value.okWide, Try.underlying58] at hv
  obtain ⟨cs, rfl, hsz, _⟩ := hv
  have hc : cs.size = 2 := hsz.trans (by kernel_rfl)
  obtain ⟨l⟩ := cs
  match l, hc with
  | [c0, c1], _ =>
    obtain ⟨fuel, hf⟩ := h
    obtain ⟨y0, y1, n, h0, h1⟩ := trod_two Try.underlying58 (by kernel_rfl) hf
    obtain ⟨n0, e0, _, w0⟩ := DataW.trod_int Try.underlying3 h0
    obtain ⟨n1, e1, _, w1⟩ := DataW.trod_int Try.underlying3 h1
    simp at e0 e1
    subst e0 e1
    exact ⟨(n0, n1), rfl, bounds_i64 w0, bounds_i64 w1⟩

set_option maxRecDepth 100000 in
set_option maxHeartbeats 16000000 in
theorem walk (a : Option Addr) (len cap : Nat) (zz : List Cl) (tt : Int × Int) (a2 : Option Addr) (len2 cap2 : Nat) (l : List (Int × Int)) (w : World) (hz : OpsC w a len zz) (ht : in64 tt.1 ∧ in64 tt.2) (hl : SampAt w a2 len2 cap2 l) :
    Calls Try.prog 8 #[.slice a len cap, .agg #[.int .i64 tt.1, .int .i64 tt.2], .slice a2 len2 cap2] w fun e w' => e = .returned (.bool true) ∧ Below w.heap.size w w' := by
  obtain ⟨A, B⟩ := tt
  simp only at ht ⊢
  have hlen := hz.2.1
  have hlen2 := hl.2.2.1
  have HZ0 := Lib.hid hz
  have HS0 := Lib.hid hl
  clear hz ht hl
  have HBX := Lib.hid (heap_new w (.cells #[.int .i64 A, .int .i64 B] 58))
  have BX := (Below.refl w.heap.size w).alloc (Nat.le_refl _) (.cells #[.int .i64 A, .int .i64 B] 58)
  have nX : w.heap.size < (w.alloc (.cells #[.int .i64 A, .int .i64 B] 58)).heap.size := by simp
  have HZ := Lib.hid (HZ0.out.keep BX)
  have HSL := Lib.hid (HS0.out.keep BX)
  clear HZ0 HS0
  go_enter Try.func8, Try.ntmps8
  go_wp2_with fail
  generalize w.alloc (.cells #[.int .i64 A, .int .i64 B] 58) = w0 at *
  refine (snew_at 128 40 3 w0 (by omega) (by omega) (by decide)).mono ?_
  rintro e W1 ⟨b, rfl, S1, hb, B1⟩
  have HS1 := Lib.hid S1
  clear S1
  go_wp2_with fail
  refine (rnew5_ok 128 40 3 W1 (by omega) (by omega) (by decide)).mono ?_
  rintro e W2 ⟨rb, rfl, R2, hrb, b2⟩
  have HR2 := Lib.hid R2
  have HS2 := Lib.hid (HS1.out.keepB b2)
  have B2 := B1.trans (b2.mono B1.size)
  have hST := Lib.hid (Std.new (ret := 40) (p := 3) (by decide))
  clear R2 b2 HS1
  by_cases h60 : len2 > 60
  · have h61 : (len2 : Int) > 60 := by omega
    go_wp2_with fail
    refine (sknown_any W2).mono ?_
    rintro e W9 ⟨rfl, b9⟩
    have B9 := BX.trans ((B2.trans (b9.mono B2.size)).mono (Nat.le_of_lt nX))
    clear b9
    go_wp2
    go_ret
    exact ⟨rfl, B9⟩
  have h61 : ¬ (len2 : Int) > 60 := by omega
  have HL2 := Lib.hid (HSL.out.keep B2)
  have HX2 := Lib.hid ((B2.block _ nX).trans HBX.out)
  have y0 : W2.cell? ⟨w.heap.size, 0, none⟩ = some (.int .i64 A) := by rw [cell_of HX2.out]; rfl
  have y1 : W2.cell? ⟨w.heap.size, 1, none⟩ = some (.int .i64 B) := by rw [cell_of HX2.out]; rfl
  go_wp2_with fail
  refine (restore_q b 128 (newSer 40 3) A B a2 len2 cap2 l W2 HS2.out hST.out (by omega) (by omega) HL2.out (by omega)).mono ?_
  rintro e W3 ⟨p3, e3, rfl, b3, Q3⟩
  have HL3 := Lib.hid (HL2.out.keep b3)
  have HR3 := Lib.hid (HR2.out.keepB b3)
  have HS3 := Lib.hid (HS2.out.keepB b3)
  have B3 := B2.trans (b3.mono B2.size)
  have n3 := Nat.lt_of_lt_of_le nX B2.size
  have z0 : W3.cell? ⟨w.heap.size, 0, none⟩ = some (.int .i64 A) := (b3.cell n3).trans y0
  have z1 : W3.cell? ⟨w.heap.size, 1, none⟩ = some (.int .i64 B) := (b3.cell n3).trans y1
  clear b3 y0 y1 HL2 HR2 HS2 HX2
  go_wp2_with fail
  refine (rrestore_q rb (newSer 40 3) A B a2 len2 cap2 l W3 HR3.out (by decide) (by decide) HL3.out (by omega)).mono ?_
  rintro e W4 ⟨p4, e4, rfl, b4, Q4⟩
  have HS4 := Lib.hid (HS3.out.keepB b4)
  have B4 := B3.trans (b4.mono B3.size)
  have HLL := Lib.hid HL3.out.1
  have H64 := Lib.hid HL3.out.2.2.2.1
  have HB4 := Lib.hid b4
  clear z0 z1 HR3 HS3 HL3 b4 n3
  go_upto_region 7 with fail
  go_cut [94] (fun s94 wx => s94 = .bool false ∧ Below w0.heap.size w0 wx ∧ SerAt wx b 128 (newSer 40 3))
  case first =>
    rcases Q4.out with ⟨hok, rfl, o4, rfl, R4⟩ | ⟨hno, rfl, rfl⟩
    · rcases Q3.out with ⟨_, rfl, o3, rfl, S3⟩ | ⟨hno, _⟩
      · have HR4 := Lib.hid R4
        have HS5 := Lib.hid (S3.keepB HB4.out)
        have HSTD := Lib.hid (Std.rest (ret := 40) (pol := 3) (mx := A) (line := B) (z := l) (by decide) (by decide) (by decide) (by decide) hok.1 hok.2 H64.out)
        clear R4 S3 hok
        go_wp2_with fail
        refine (same5 o3 o4 128 ⟨40, 3, A, B, l⟩ 0 50 W4 HS5.out HR4.out HSTD.out (by omega) (by omega) (by show l.length ≤ 1000; rw [HLL.out]; omega)).mono ?_
        rintro e W5 ⟨rfl, b5⟩
        have HS6 := Lib.hid (HS5.out.keepB b5)
        have HS7 := Lib.hid (HS4.out.keepB b5)
        have B5 := B4.trans (b5.mono B4.size)
        clear b5
        go_wp2_with fail
        refine (whole_any o3 128 ⟨40, 3, A, B, l⟩ W5 HS6.out (by omega) (by omega) (by show l.length ≤ 1000; rw [HLL.out]; omega)).mono ?_
        rintro e W6 ⟨rfl, b6⟩
        have HS8 := Lib.hid (HS7.out.keepB b6)
        have B6 := B5.trans (b6.mono B5.size)
        clear b6
        go_wp2_with fail
        go_meet
        exact ⟨rfl, B6, HS8.out⟩
      · exact absurd hok hno
    · rcases Q3.out with ⟨hok, _⟩ | ⟨_, rfl, rfl⟩
      · exact absurd hok hno
      · go_wp2_with fail
        go_meet
        exact ⟨rfl, B4, HS4.out⟩
  case rest =>
    obtain ⟨rfl, B5, S5⟩ := hcut
    generalize wc = W5 at *
    clear B2 B3 B4 HS4 Q3 Q4 HB4 H64 HLL
    have HS5 := Lib.hid S5
    clear S5
    go_upto_region 9 with fail
    go_cut [15] (fun s15 wx => ∃ n : Nat, s15 = .int .i64 (n : Int) ∧ n ≤ len ∧ n ≤ 60 ∧ wx = W5)
    case first =>
      by_cases hm : (60 : Int) ≤ (len : Int)
      · go_wp2
        all_goals go_meet
        all_goals first | exact ⟨60, rfl, by omega, by omega, rfl⟩ | exact ⟨len, rfl, by omega, by omega, rfl⟩
      · go_wp2
        all_goals go_meet
        all_goals first | exact ⟨len, rfl, by omega, by omega, rfl⟩ | exact ⟨60, rfl, by omega, by omega, rfl⟩
    case rest =>
      obtain ⟨n, rfl, hnl, hn60, hwc⟩ := hcut
      replace hwc := hwc.symm
      subst hwc
      obtain ⟨m, hm⟩ : ∃ m, n / 2 = m := ⟨_, rfl⟩
      have hm5 : ((n : Nat) : Int).tdiv 2 = (m : Int) := by rw [Int.tdiv_eq_ediv_of_nonneg (by omega)]; omega
      have hm6 : (n : Int) / 2 = (m : Int) := by omega
      have hmn : m ≤ n := by omega
      clear hm
      go_wp2_with fail
      go_loopw [16] (fun i wr => ∃ (j : Nat) (s : Ser), j ≤ m ∧ i = .int .i64 (j : Int) ∧ SerAt wr b 128 s ∧ Std s ∧ s.z.length ≤ j ∧ Below w0.heap.size w0 wr) (fun i _ => m - (intOf i).toNat)
      case atStart => exact ⟨0, newSer 40 3, Nat.zero_le _, rfl, HS5.out, hST.out, Nat.le_refl _, B5⟩
      case round =>
        obtain ⟨j, s, hj, rfl, hS, hSt, hsl, B1⟩ := hrel
        have HS := Lib.hid hS
        have HST := Lib.hid hSt
        have hbk : b < wr.heap.size := hS.lt
        clear hS hSt
        by_cases hjm : j < m
        · have hjl : j < len := by omega
          have hjm' : (j : Int) < (m : Int) := by omega
          obtain ⟨q, o, hqe, hq, x0, x1, x2, x3, h64⟩ := HZ.out.at_ j hjl
          subst hqe
          rw [← B1.cell hq] at x0 x1 x2 x3
          generalize opOf zz j = op at *
          obtain ⟨K, TT, VV, PP⟩ := op
          replace x0 : wr.cell? ⟨q, o + j * 4, none⟩ = some (.int .i64 K) := x0
          replace x1 : wr.cell? ⟨q, o + j * 4 + 1, none⟩ = some (.int .i64 TT) := x1
          replace x2 : wr.cell? ⟨q, o + j * 4 + 2, none⟩ = some (.int .i64 VV) := x2
          replace x3 : wr.cell? ⟨q, o + j * 4 + 3, none⟩ = some (.int .i64 PP) := x3
          have h64K : in64 K := h64.1
          have h64T : in64 TT := h64.2.1
          have h64V : in64 VV := h64.2.2.1
          have h64P : in64 PP := h64.2.2.2
          have hj0 : (0 : Int) ≤ (j : Int) := by omega
          have hj1 : (j : Int) < (len : Int) := by omega
          have hqW : q < w0.heap.size := hq
          clear h64
          go_wp2_with fail
          refine (play_any b 128 s K TT VV PP wr HS.out HST.out (by omega) (by omega) (by omega) h64V).mono ?_
          rintro e W4 ⟨rfl, S4, g4⟩
          have HS4 := Lib.hid S4
          have B4 := bel_gb B1 B1.size hb g4
          have HST4 := Lib.hid (HST.out.play (K, TT, VV, PP) ⟨h64K, h64T, h64V, h64P⟩)
          have hl4 : (playS s (K, TT, VV, PP)).z.length ≤ j + 1 := by have := play_len HST.out (K, TT, VV, PP); omega
          clear S4 g4 x0 x1 x2 x3
          generalize playE s (K, TT, VV, PP) = er at *
          generalize playS s (K, TT, VV, PP) = s4 at *
          go_wp2
          go_roundw
          case rel => exact ⟨j + 1, s4, by omega, by go_num, HS4.out, HST4.out, hl4, B4⟩
          case measure => simp [intOf]; omega
        · obtain rfl : m = j := by omega
          have hjm' : ¬ (m : Int) < (m : Int) := by omega
          have HAI := Lib.hid (all_in HST.out)
          have HSTB := Lib.hid HST.out.back
          obtain ⟨N, hN⟩ : ∃ N, s.z.length = N := ⟨_, rfl⟩
          have HNN := Lib.hid hN
          have hN60 : N ≤ 60 := by omega
          clear hN
          go_wp2_with fail
          refine (smax_ok b 128 s wr HS.out (by omega)).mono ?_
          rintro e w' ⟨rfl, rfl⟩
          go_wp2_with fail
          refine (sline_ok b 128 s wr HS.out (by omega)).mono ?_
          rintro e w' ⟨rfl, rfl⟩
          go_wp2_with fail
          refine (range_ser b 128 s 0 1099511627776 wr HS.out (by omega) HST.out.rise (by omega)).mono ?_
          rintro e W6 ⟨a6, c6, rfl, l6, b6⟩
          rw [HAI.out, HNN.out] at l6
          rw [HAI.out, HNN.out]
          have HS6 := Lib.hid (HS.out.keepB b6)
          have HL6 := Lib.hid l6.1
          have B6 := B1.trans (b6.mono B1.size)
          clear l6 b6
          go_wp2_with fail
          refine (restore_ok b 128 s s.mx s.line a6 N c6 s.z W6 HS6.out HST.out (by omega) (by omega) HL6.out (by omega) HSTB.out.1 HSTB.out.2).mono ?_
          rintro e W7 ⟨o, rfl, S7, ho, b7⟩
          have HS7 := Lib.hid (HS6.out.keepB b7)
          have HO7 := Lib.hid S7
          have B7 := B6.trans (b7.mono B6.size)
          have hob : b ≠ o := by have := HS6.out.lt; omega
          have hoW : w0.heap.size ≤ o := by have := B6.size; omega
          clear S7 b7 B6 HS6 HL6
          have HS := HS7
          go_wp2_with fail
          go_loopw [19] (fun i wr => ∃ (j : Nat) (s : Ser), j ≤ n ∧ i = .int .i64 (j : Int) ∧ SerAt wr b 128 s ∧ SerAt wr o 128 s ∧ Std s ∧ s.z.length ≤ j ∧ Below w0.heap.size w0 wr) (fun i _ => n - (intOf i).toNat)
          case atStart => exact ⟨m, s, hmn, rfl, HS7.out, HO7.out, HST.out, hsl, B7⟩
          case round =>
            clear HS HS7 HO7 HST HSTB HAI HNN hN60 hsl B1 B7
            obtain ⟨j, s, hj, rfl, hS, hO, hSt, hsl, B1⟩ := hrel
            have HS := Lib.hid hS
            have HO := Lib.hid hO
            have HST := Lib.hid hSt
            have hbk : b < wr.heap.size := hS.lt
            clear hS hSt hO
            by_cases hjn : j < n
            · have hjl : j < len := by omega
              have hjm' : (j : Int) < (n : Int) := by omega
              obtain ⟨q, o9, hqe, hq, x0, x1, x2, x3, h64⟩ := HZ.out.at_ j hjl
              subst hqe
              rw [← B1.cell hq] at x0 x1 x2 x3
              generalize opOf zz j = op at *
              obtain ⟨K, TT, VV, PP⟩ := op
              replace x0 : wr.cell? ⟨q, o9 + j * 4, none⟩ = some (.int .i64 K) := x0
              replace x1 : wr.cell? ⟨q, o9 + j * 4 + 1, none⟩ = some (.int .i64 TT) := x1
              replace x2 : wr.cell? ⟨q, o9 + j * 4 + 2, none⟩ = some (.int .i64 VV) := x2
              replace x3 : wr.cell? ⟨q, o9 + j * 4 + 3, none⟩ = some (.int .i64 PP) := x3
              have h64K : in64 K := h64.1
              have h64T : in64 TT := h64.2.1
              have h64V : in64 VV := h64.2.2.1
              have h64P : in64 PP := h64.2.2.2
              have hj0 : (0 : Int) ≤ (j : Int) := by omega
              have hj1 : (j : Int) < (len : Int) := by omega
              have hqW : q < w0.heap.size := hq
              clear h64
              have hqb : q ≠ b := by omega
              have hqo : q ≠ o := by omega
              have HSD : Hid (SerAt wr.drew b 128 s) := HS
              have HOD : Hid (SerAt wr.drew o 128 s) := HO
              have HX : Hid (wr.drew.cell? ⟨q, o9 + j * 4, none⟩ = some (.int .i64 K) ∧ wr.drew.cell? ⟨q, o9 + j * 4 + 1, none⟩ = some (.int .i64 TT) ∧ wr.drew.cell? ⟨q, o9 + j * 4 + 2, none⟩ = some (.int .i64 VV) ∧ wr.drew.cell? ⟨q, o9 + j * 4 + 3, none⟩ = some (.int .i64 PP)) := Lib.hid ⟨x0, x1, x2, x3⟩
              go_wp2_with fail
              go_region_held3 (fun w' => w'.cell? ⟨q, o9 + j * 4, none⟩ = some (.int .i64 K) ∧ w'.cell? ⟨q, o9 + j * 4 + 1, none⟩ = some (.int .i64 TT) ∧ w'.cell? ⟨q, o9 + j * 4 + 2, none⟩ = some (.int .i64 VV) ∧ w'.cell? ⟨q, o9 + j * 4 + 3, none⟩ = some (.int .i64 PP))
                (first
                  | (exact HX5.out)
                  | (exact HX4.out)
                  | (exact HX.out)
                  | go_keep
                  | fail)
                (first
                  | (go_at_call 34
                     (with_reducible refine (play_any b 128 s K TT VV PP _ HSD.out HST.out (by omega) (by omega) (by omega) h64V).mono ?_)
                     rintro e W4 ⟨rfl, S4, g4⟩
                     have HX4 := Lib.hid (And.intro (g4.cell HX.out.1 (by simp; exact hqb)) (And.intro (g4.cell HX.out.2.1 (by simp; exact hqb)) (And.intro (g4.cell HX.out.2.2.1 (by simp; exact hqb)) (g4.cell HX.out.2.2.2 (by simp; exact hqb)))))
                     have HO4 := Lib.hid (HOD.out.keepS g4 (Ne.symm hob) HSD.out)
                     have HS4 := Lib.hid S4
                     have HG4 := Lib.hid g4
                     clear S4 g4)
                  | (go_at_call 34
                     (with_reducible refine (play_any o 128 s K TT VV PP _ HO4.out HST.out (by omega) (by omega) (by omega) h64V).mono ?_)
                     rintro e W5 ⟨rfl, S5, g5⟩
                     have HX5 := Lib.hid (And.intro (g5.cell HX4.out.1 (by simp; exact hqo)) (And.intro (g5.cell HX4.out.2.1 (by simp; exact hqo)) (And.intro (g5.cell HX4.out.2.2.1 (by simp; exact hqo)) (g5.cell HX4.out.2.2.2 (by simp; exact hqo)))))
                     have HS5 := Lib.hid (HS4.out.keepS g5 hob HO4.out)
                     have HO5 := Lib.hid S5
                     have HG5 := Lib.hid g5
                     clear S5 g5)
                  | fail)
              all_goals
                have B4 := bel_gb (B1.drew) B1.size hb HG4.out
                have B5' := bel_gb B4 B4.size hoW HG5.out
                have HST4 := Lib.hid (HST.out.play (K, TT, VV, PP) ⟨h64K, h64T, h64V, h64P⟩)
                have hl4 : (playS s (K, TT, VV, PP)).z.length ≤ j + 1 := by have := play_len HST.out (K, TT, VV, PP); omega
                clear x0 x1 x2 x3 B4 HX HX4 HX5 HG4 HG5 HO4 HS4 HSD HOD
                generalize playE s (K, TT, VV, PP) = er at *
                generalize playS s (K, TT, VV, PP) = s4 at *
                have hee : (er == er) = true := by simp
                go_wp2
                go_roundw
                case rel => exact ⟨j + 1, s4, by omega, by go_num, HS5.out, HO5.out, HST4.out, hl4, B5'⟩
                case measure => simp [intOf]; omega
            · obtain rfl : n = j := by omega
              have hjm' : ¬ (n : Int) < (n : Int) := by omega
              have HAI := Lib.hid (all_in HST.out)
              obtain ⟨N, hN⟩ : ∃ N, s.z.length = N := ⟨_, rfl⟩
              have HNN := Lib.hid hN
              have hN60 : N ≤ 60 := by omega
              clear hN
              go_wp2_with fail
              refine (restore_nil 0 0 none 0 0 wr).mono ?_
              rintro e w' ⟨rfl, rfl⟩
              go_wp2_with fail
              refine (range_ser b 128 s 0 1099511627776 wr HS.out (by omega) HST.out.rise (by omega)).mono ?_
              rintro e W6 ⟨a6, c6, rfl, l6, b6⟩
              rw [HAI.out, HNN.out] at l6
              rw [HAI.out, HNN.out]
              have HS6 := Lib.hid (HS.out.keepB b6)
              have HO6 := Lib.hid (HO.out.keepB b6)
              have HL6 := Lib.hid l6
              have B6 := B1.trans (b6.mono B1.size)
              clear l6 b6
              go_wp2_with fail
              refine (range_ser o 128 s 0 1099511627776 W6 HO6.out (by omega) HST.out.rise (by omega)).mono ?_
              rintro e W7 ⟨a7, c7, rfl, l7, b7⟩
              rw [HAI.out, HNN.out] at l7
              rw [HAI.out, HNN.out]
              have HS7 := Lib.hid (HS6.out.keepB b7)
              have HO7 := Lib.hid (HO6.out.keepB b7)
              have HM7 := Lib.hid (HL6.out.keepN (gb_below b7)).1
              have HP7 := Lib.hid l7.1
              have B7 := B6.trans (b7.mono B6.size)
              clear l7 b7 HS6 HO6 HL6 B6
              go_wp2_with fail
              refine (same_any a6 a7 N N c6 c7 s.z s.z W7 HM7.out HP7.out).mono ?_
              rintro e W8 ⟨rfl, d8⟩
              rw [show decide (s.z = s.z) = true from decide_eq_true rfl]
              have HS8 := Lib.hid (HS7.out.keepB (drew_below d8))
              have HO8 := Lib.hid (HO7.out.keepB (drew_below d8))
              have B8 := B7.trans ((drew_below d8).mono B7.size)
              have hmm : (s.mx == s.mx) = true := by simp
              have hll : (s.line == s.line) = true := by simp
              have hrr : (s.ret == s.ret) = true := by simp
              have hpp : (s.pol == s.pol) = true := by simp
              clear d8 HS7 HO7 HM7 HP7 B7
              go_wp2_with fail
              refine (smax_ok b 128 s W8 HS8.out (by omega)).mono ?_
              rintro e w' ⟨rfl, rfl⟩
              go_wp2_with fail
              refine (smax_ok o 128 s W8 HO8.out (by omega)).mono ?_
              rintro e w' ⟨rfl, rfl⟩
              go_wp2_with fail
              refine (sline_ok b 128 s W8 HS8.out (by omega)).mono ?_
              rintro e w' ⟨rfl, rfl⟩
              go_wp2_with fail
              refine (sline_ok o 128 s W8 HO8.out (by omega)).mono ?_
              rintro e w' ⟨rfl, rfl⟩
              go_wp2_with fail
              refine (spol_ok b 128 s W8 HS8.out (by omega)).mono ?_
              rintro e w' ⟨rfl, rfl⟩
              go_wp2_with fail
              refine (spol_ok o 128 s W8 HO8.out (by omega)).mono ?_
              rintro e w' ⟨rfl, rfl⟩
              go_wp2_with fail
              refine (sret_ok b 128 s W8 HS8.out (by omega)).mono ?_
              rintro e w' ⟨rfl, rfl⟩
              go_wp2_with fail
              refine (sret_ok o 128 s W8 HO8.out (by omega)).mono ?_
              rintro e w' ⟨rfl, rfl⟩
              go_wp2_with fail
              refine (sknown_any W8).mono ?_
              rintro e W9 ⟨rfl, b9⟩
              have B9 := BX.trans ((B8.trans (b9.mono B8.size)).mono (Nat.le_of_lt nX))
              clear b9
              go_wp2
              go_ret
              exact ⟨rfl, B9⟩
set_option maxRecDepth 100000 in
theorem lifted (os : Os) (started : os.Started) (H : Type) (enc : TypeId × Value → H) :
    ReturnsInHanded {} Try.checked os 8 .any (Rows.seriesRestoresSpec.pre6 enc Try.prog Try.f8 Rows.seriesRestoresRow.domain false) (Rows.seriesRestoresSpec.post enc Try.prog Try.f8 false true false false) := by
  refine returnsInHanded_of_change (C := Try.checked) own started (by kernel_rfl) Try.func8
    (ChangeSpec.witness6 (enc := enc) (C := Try.checked) false ⟨#[], #[.slice none 0 0, .agg #[.int .i64 0, .int .i64 0], .slice none 0 0], []⟩ 8 (by kernel_rfl) (by kernel_rfl) (by kernel_rfl) (by kernel_rfl)) ?_
  intro W base args ds gs before hval0 hW hcnd _
  have hval : ∀ (j : Nat) t v, Try.f8.params[j]? = some t → args[j]? = some v → Value.okWide Try.prog W .any base t v := hval0
  have hW' := hW
  obtain ⟨p, q, hA0, hV, rfl, hfz, hnd⟩ := hW
  have hA : DataW.TrodAll enc Try.prog W 0 (fun _ => true) true Try.f8.params.toList args.toList ds p := hA0
  rw [Try.params8] at hA hval
  obtain ⟨v0, vs0, d0, ds0, p0, q0, hargs, rfl, rfl, h0, r0⟩ := trodAll_cons hA
  obtain ⟨v1, vs1, d1, ds1, p1, q1, rfl, rfl, rfl, h1, r1⟩ := trodAll_cons r0
  obtain ⟨v2, vs2, d2, ds2, p2, q2, rfl, rfl, rfl, h2, r2⟩ := trodAll_cons r1
  obtain ⟨rfl, rfl, rfl⟩ := trodAll_nil r2
  obtain rfl : args = #[v0, v1, v2] := by cases args; simp_all
  obtain ⟨rfl, rfl⟩ := trodVars_none hV
  obtain ⟨a0, len0, cap0, rfl⟩ := okWide_slice Try.underlying23 (hval 0 23 v0 rfl rfl)
  have k0 := h0
  have lt0 : ∀ x ∈ p0, x.block < W.heap.size := by obtain ⟨m, hm⟩ := k0; exact DataW.trod_lt m _ _ _ hm
  obtain ⟨z0, w0⟩ := open_sops h0
  have k1 := h1
  have lt1 : ∀ x ∈ p1, x.block < W.heap.size := by obtain ⟨m, hm⟩ := k1; exact DataW.trod_lt m _ _ _ hm
  obtain ⟨a1, rfl, w1⟩ := open_arr2 (hval 1 58 v1 rfl rfl) h1
  obtain ⟨a2, len2, cap2, rfl⟩ := okWide_slice Try.underlying40 (hval 2 40 v2 rfl rfl)
  have k2 := h2
  have lt2 : ∀ x ∈ p2, x.block < W.heap.size := by obtain ⟨m, hm⟩ := k2; exact DataW.trod_lt m _ _ _ hm
  obtain ⟨z2, w2⟩ := open_samps h2
  clear hA0 hval0
  refine (walk a0 len0 cap0 z0 a1 a2 len2 cap2 z2 W w0 w1 w2).mono fun e W' ⟨he, bel⟩ => ?_
  subst he
  exact ⟨_, rfl, _, _, _, [], _, [], hW', trodAll_mk1 (shut_bool Try.underlying4 _), (trodAll_cons_mk (Below.trod laidOut (by kernel_rfl) (of_decide_eq_true (by kernel_rfl)) k0 bel lt0) (trodAll_cons_mk (Below.trod laidOut (by kernel_rfl) (of_decide_eq_true (by kernel_rfl)) k1 bel lt1) (trodAll_cons_mk (Below.trod laidOut (by kernel_rfl) (of_decide_eq_true (by kernel_rfl)) k2 bel lt2) trodAll_mk0))), rfl, bel.frame _, fun h => by cases h⟩

theorem over : Rows.seriesRestoresRow.holds Try.pinned (OpenSpec.ofChange Rows.seriesRestoresSpec) :=
  OpenClaim.holds_of_wide 8 Try.f8 rfl rfl rfl rfl rfl rfl rfl ⟨rfl, rfl, rfl, rfl, rfl⟩ rfl rfl rfl rfl rfl (by kernel_rfl) Try.func8 (by kernel_rfl)
    (of_decide_eq_true (by kernel_rfl)) (by unfold Func.isWrapper; first | (rw [if_pos (by decide +kernel)]; kernel_rfl) | (rw [if_neg (by decide +kernel)]; exact ⟨rfl, rfl⟩))
    (fun os started H enc _ => lifted os started H enc)

theorem proved : Rows.SeriesRestoresSaid := over
end seriesRestores
theorem seriesRestores_holds : Rows.SeriesRestoresSaid := seriesRestores.proved
#print axioms seriesRestores_holds
end Go.Proofs.Ytpbhdlhbcfkhfaa
