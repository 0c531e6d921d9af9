/-
  Contracts.
-/
import Derived.Test.YtmifpfojhlmbkaaGreatJ18
import Derived.Test.YtmifpfojhlmbkaaGreatJ19
import Derived.Test.YtmifpfojhlmbkaaGreatJ33
import Derived.Test.YtmifpfojhlmbkaaGreatJ39
import Derived.Test.YtmifpfojhlmbkaaGreatJ45
import Derived.Test.YtmifpfojhlmbkaaGreatJ47
namespace Go.Proofs.YtmifpfojhlmbkaaGreat
set_option maxRecDepth 100000
set_option maxHeartbeats 16000000
open Go.RowKit
set_option linter.unusedVariables false
set_option linter.unusedSimpArgs false
theorem O14.all {w : World} {b o : Nat} {q : Op12} {a : Option Addr} {n c : Nat} (h : O14 w b o q a n c) : w.cell? ⟨b, o, none⟩ = some (.int .i64 q.k) ∧ w.cell? ⟨b, o + 1, none⟩ = some (.string (bs q.key)) ∧ w.cell? ⟨b, o + 2, none⟩ = some (.int .i64 q.T) ∧ w.cell? ⟨b, o + 3, none⟩ = some (.int .i64 q.V) ∧ w.cell? ⟨b, o + 4, none⟩ = some (.int .i64 q.p) ∧ w.cell? ⟨b, o + 5, none⟩ = some (.int .i64 q.sz) ∧ w.cell? ⟨b, o + 6, none⟩ = some (.int .i64 q.ret) ∧ w.cell? ⟨b, o + 7, none⟩ = some (.int .i64 q.pol) ∧ w.cell? ⟨b, o + 8, none⟩ = some (.slice a n c) ∧ w.cell? ⟨b, o + 9, none⟩ = some (.string (bs q.r.src)) ∧ w.cell? ⟨b, o + 10, none⟩ = some (.string (bs q.r.dst)) ∧ w.cell? ⟨b, o + 11, none⟩ = some (.int .i64 q.r.kind) ∧ w.cell? ⟨b, o + 12, none⟩ = some (.int .i64 q.r.size) ∧ w.cell? ⟨b, o + 13, none⟩ = some (.int .i64 q.r.align) :=
  ⟨h.1 0 _ rfl, h.1 1 _ rfl, h.1 2 _ rfl, h.1 3 _ rfl, h.1 4 _ rfl, h.1 5 _ rfl, h.1 6 _ rfl, h.1 7 _ rfl, h.1 8 _ rfl, h.1 9 _ rfl, h.1 10 _ rfl, h.1 11 _ rfl, h.1 12 _ rfl, h.1 13 _ rfl⟩
def BuiltS (w : World) (e : Ending) (w' : World) : Prop := ∃ x m P, e = .returned (.pointer (some ⟨x, 0, none⟩)) ∧ HOwn w.heap.size w w' x m P ∧ Few 100 P ∧ AllMade P
theorem build12_any (a : Option Addr) (len cap : Nat) (z : List Op12) (w : World) (h : Ops12 w a len cap z) :
    Calls Tryz.prog 15 #[.slice a len cap] w (BuiltS w) := by
  have hlz := h.1
  have hlm := h.2.1
  have HZ := Lib.hid h
  clear h
  go_enter Tryz.func15, Tryz.ntmps15
  go_wp2_with fail
  refine (hNew w).mono ?_
  rintro e w1 ⟨x, m, rfl, x1, hx, b1, f1⟩
  have O1 : Hid (HOwn w.heap.size w w1 x m noSpc) := Lib.hid (HOwn.new (Below.refl _ _) (Nat.le_refl _) x1 b1 hx f1)
  clear x1 b1 f1 hx
  go_wp2_with fail
  go_loopw [4] (fun vi wr => ∃ (j : Nat) (m' : Mem) (P : Spc), vi = .int .i64 (j : Int) ∧ j ≤ len ∧ j ≤ 50 ∧ Hid (HOwn w.heap.size w wr x m' P) ∧ Hid (Few (2 * j) P) ∧ Hid (AllMade P)) (fun vi _ => len - (intOf vi).toNat)
  case atStart => exact ⟨0, m, noSpc, rfl, Nat.zero_le _, Nat.zero_le _, O1, Lib.hid ⟨Nat.zero_le _, Nat.zero_le _, fun k hk => absurd hk (by simp [Spc.has, noSpc, keysL])⟩, Lib.hid .none⟩
  case round =>
    obtain ⟨j, m', P, rfl, hj, hj50, HO, HF, HM⟩ := hrel
    clear O1
    by_cases hjn : j < len
    · have hjz : (j : Int) < (len : Int) := by omega
      have hj0 : (0 : Int) ≤ (j : Int) := by omega
      by_cases hjf : j < 50
      · have hjf' : (j : Int) < 50 := by omega
        have HZ1 := Lib.hid (HZ.out.keep HO.out.bel)
        obtain ⟨pb, po, a', n', c', e1, hpb, hq⟩ := HZ1.out.at_ j hjn
        subst e1
        have HQ := Lib.hid hq
        clear hq HZ1
        generalize opA z j = q at *
        have HL := Lib.hid HQ.out.2.1
        have HV := Lib.hid HQ.out.2.2.2
        obtain ⟨x0, x1, x2, x3, x4, x5, x6, x7, x8, x9, x10, x11, x12, x13⟩ := HQ.out.all
        go_wp2_with fail
        refine (light12_any q a' n' c' wr HL.out).mono ?_
        rintro e w2 ⟨r, rfl, b2⟩
        have O2 := Lib.hid (HO.out.keep b2)
        have L2 := Lib.hid (HL.out.keep b2)
        have Q2 := Lib.hid (HQ.out.keep hpb b2)
        clear HO HL HQ x0 x1 x2 x3 x4 x5 x6 x7 x8 x9 x10 x11 x12 x13
        obtain ⟨x0, x1, x2, x3, x4, x5, x6, x7, x8, x9, x10, x11, x12, x13⟩ := Q2.out.all
        clear b2
        cases r with
        | true =>
          by_cases k0 : 0 ≤ q.k
          · by_cases k7 : q.k ≤ 7
            · go_wp2_with fail
              refine (do12_any O2.out (HF.out.mono (by omega)) q a' n' c' L2.out HV.out).mono ?_
              rintro e w3 ⟨rfl, m3, o3, t3⟩
              have I3 := stepP_inv O2.out.sp.ok o3.sp.ok HF.out HM.out HV.out (by omega)
              have F3 : Hid (Few (2 * (j + 1)) (stepP P q)) := Lib.hid (I3.1.mono (by omega))
              have M3 := Lib.hid I3.2
              have O3 := Lib.hid o3
              clear o3 t3 I3 O2 x0 x1 x2 x3 x4 x5 x6 x7 x8 x9 x10 x11 x12 x13 k0 k7
              go_wp2
              go_roundw
              case rel => exact ⟨j + 1, m3, stepP P q, by go_num, by omega, by omega, O3, F3, M3⟩
              case measure => simp [intOf]; omega
            · have F3 : Hid (Few (2 * (j + 1)) P) := Lib.hid (HF.out.mono (by omega))
              clear x1 x2 x3 x4 x5 x6 x7 x8 x9 x10 x11 x12 x13
              go_wp2
              go_roundw
              case rel => exact ⟨j + 1, m', P, by go_num, by omega, by omega, O2, F3, HM⟩
              case measure => simp [intOf]; omega
          · have F3 : Hid (Few (2 * (j + 1)) P) := Lib.hid (HF.out.mono (by omega))
            clear x1 x2 x3 x4 x5 x6 x7 x8 x9 x10 x11 x12 x13
            go_wp2
            go_roundw
            case rel => exact ⟨j + 1, m', P, by go_num, by omega, by omega, O2, F3, HM⟩
            case measure => simp [intOf]; omega
        | false =>
          have F3 : Hid (Few (2 * (j + 1)) P) := Lib.hid (HF.out.mono (by omega))
          clear x0 x1 x2 x3 x4 x5 x6 x7 x8 x9 x10 x11 x12 x13
          go_wp2
          go_roundw
          case rel => exact ⟨j + 1, m', P, by go_num, by omega, by omega, O2, F3, HM⟩
          case measure => simp [intOf]; omega
      · have hjf' : ¬ (j : Int) < 50 := by omega
        have FF := Lib.hid (HF.out.mono (k := 100) (by omega))
        go_wp2
        go_ret
        exact ⟨x, m', P, rfl, HO.out, FF.out, HM.out⟩
    · have hjz : ¬ (j : Int) < (len : Int) := by omega
      have FF := Lib.hid (HF.out.mono (k := 100) (by omega))
      go_wp2
      go_ret
      exact ⟨x, m', P, rfl, HO.out, FF.out, HM.out⟩
end Go.Proofs.YtmifpfojhlmbkaaGreat
namespace Go.Proofs.YtmifpfojhlmbkaaGreat
set_option maxRecDepth 100000
set_option maxHeartbeats 16000000
open Go.RowKit
set_option linter.unusedVariables false
set_option linter.unusedSimpArgs false
def IntoB (L : List Ru) (k : Tx) (w : World) (e : Ending) (w' : World) : Prop :=
  ∃ (r : Ru) (b : Bool), e = .returned (.tuple #[.agg #[.string (bs r.src), .string (bs r.dst), .int .i64 r.kind, .int .i64 r.size, .int .i64 r.align], .bool b]) ∧ ((b = true ∧ r ∈ L ∧ r.dst = k) ∨ (b = false ∧ ∀ q ∈ L, q.dst ≠ k)) ∧ Below w.heap.size w w'
theorem into12_any (w : World) (x : Nat) (m : Mem) (P : Spc) (k : Tx) (h : SpAt w x m P) (hG : P.G.length ≤ 1000) :
    Calls Tryz.prog 17 #[.pointer (some ⟨x, 0, none⟩), .string (bs k)] w (IntoB P.G k w) := by
  have B0 := (Below.refl w.heap.size w).alloc (Nat.le_refl _) (.cells #[.string ⟨#[]⟩, .string ⟨#[]⟩, .int .i64 0, .int .i64 0, .int .i64 0] 32)
  have X0 : BoxU 32 (w.alloc (.cells #[.string ⟨#[]⟩, .string ⟨#[]⟩, .int .i64 0, .int .i64 0, .int .i64 0] 32)) w.heap.size zeroU := BoxU.new _ w zeroU
  have HS := Lib.hid (hRules _ x m P (h.keep B0) hG)
  have HB0 := Lib.hid B0
  have HX0 := Lib.hid X0
  clear h B0 X0
  go_enter Tryz.func17, Tryz.ntmps17
  go_wp2_with fail
  generalize hW0 : w.alloc (.cells #[.string ⟨#[]⟩, .string ⟨#[]⟩, .int .i64 0, .int .i64 0, .int .i64 0] 32) = W0 at *
  clear hW0
  refine HS.out.mono ?_
  rintro e W1 ⟨v, rfl, rr, b1⟩
  obtain ⟨a1, c1, e1, hr1, _⟩ := rr.shape
  subst e1
  have HX := Lib.hid (HX0.out.keep b1)
  have HB := Lib.hid (HB0.out.trans (b1.mono HB0.out.size))
  have HR := Lib.hid hr1
  clear rr b1 hr1 HS HX0 HB0
  generalize hB : w.heap.size = B at *
  have HBE := Lib.hid hB
  clear hB
  obtain ⟨n, hn⟩ : ∃ n, P.G.length = n := ⟨_, rfl⟩
  have HN := Lib.hid hn
  rw [hn] at HR hG ⊢
  clear hn
  have f0 := frozen_of (o := 0) HX.out
  have f1 := frozen_of (o := 1) HX.out
  have f2 := frozen_of (o := 2) HX.out
  have f3 := frozen_of (o := 3) HX.out
  have f4 := frozen_of (o := 4) HX.out
  have g0 := HX.out.x0
  have g1 := HX.out.x1
  have g2 := HX.out.x2
  have g3 := HX.out.x3
  have g4 := HX.out.x4
  go_wp2
  go_loopw [7] (fun i wr => ∃ j : Nat, j ≤ n ∧ i = .int .i64 (j : Int) ∧ W1 = wr ∧ Hid (∀ t, t < j → (uA P.G t).dst ≠ k)) (fun i _ => n - (intOf i).toNat)
  case atStart => exact ⟨0, Nat.zero_le _, rfl, rfl, Lib.hid (fun t ht => by omega)⟩
  case round =>
    obtain ⟨j, hj, rfl, rfl, HT⟩ := hrel
    by_cases hjn : j < n
    · have hjz : (j : Int) < (n : Int) := by omega
      have hj0 : (0 : Int) ≤ (j : Int) := by omega
      obtain ⟨b, off, rfl, hb, x0, x1, x2, x3, x4⟩ := HR.out.at_ j hjn
      have HM : Hid (uA P.G j ∈ P.G) := Lib.hid (uA_mem (by rw [HN.out]; exact hjn))
      obtain ⟨r, hr⟩ : ∃ r, uA P.G j = r := ⟨_, rfl⟩
      have HRE := Lib.hid hr
      rw [hr] at x0 x1 x2 x3 x4 HM
      clear hr
      by_cases hd : r.dst = k
      · have hq : ((bs r.dst).toList == (bs k).toList) = true := by rw [eq_bs]; exact decide_eq_true hd
        have HD := Lib.hid hd
        clear hd
        go_wp2
        refine bodyPost_ret (results_cell_pair rfl _ _ B _ _ _ _ (.bool true) rfl rfl (box_set (r := r) HX.out) Tryz.underlying32 rfl (by kernel_rfl)) rfl ?_
        exact ⟨r, true, rfl, .inl ⟨rfl, HM.out, HD.out⟩, by rw [HBE.out]; exact below_set (r := r) HB.out⟩
      · have hq : ((bs r.dst).toList == (bs k).toList) = false := by rw [eq_bs]; exact decide_eq_false hd
        have HT2 : Hid (∀ t, t < j + 1 → (uA P.G t).dst ≠ k) := Lib.hid (fun t ht => by
          by_cases e : t = j
          · rw [e, HRE.out]; exact hd
          · exact HT.out t (by omega))
        clear hd
        go_wp2
        go_roundw
        case rel => exact ⟨j + 1, by omega, by go_num, by first | rfl | trivial, HT2⟩
        case measure => simp [intOf]; omega
    · have hjz : ¬ (j : Int) < (n : Int) := by omega
      have HA : Hid (∀ q ∈ P.G, q.dst ≠ k) := Lib.hid (fun q hq => by
        obtain ⟨t, ht, e⟩ := uA_ex hq
        rw [e]
        exact HT.out t (by have := HN.out; omega))
      go_wp2
      refine bodyPost_ret (results_cell_pair rfl _ _ B _ _ _ _ (.bool false) rfl rfl (box_set (r := zeroU) HX.out) Tryz.underlying32 rfl (by kernel_rfl)) rfl ?_
      exact ⟨zeroU, false, rfl, .inr ⟨rfl, HA.out⟩, by rw [HBE.out]; exact below_set (r := zeroU) HB.out⟩
end Go.Proofs.YtmifpfojhlmbkaaGreat
namespace Go.Proofs.YtmifpfojhlmbkaaGreat
set_option maxRecDepth 100000
set_option maxHeartbeats 16000000
open Go.RowKit
set_option linter.unusedVariables false
set_option linter.unusedSimpArgs false
def SBox (w : World) (b : Nat) (T V : Int) : Prop := w.heap[b]? = some (.cells #[.int .i64 T, .int .i64 V] 27 (0, 0))
theorem SBox.new (w : World) (T V : Int) : SBox (w.alloc (.cells #[.int .i64 T, .int .i64 V] 27)) w.heap.size T V := heap_new w _
theorem SBox.two {w : World} {b : Nat} {T V : Int} (h : SBox w b T V) : w.cell? ⟨b, 0, none⟩ = some (.int .i64 T) ∧ w.cell? ⟨b, 1, none⟩ = some (.int .i64 V) :=
  ⟨by rw [cell_of h]; rfl, by rw [cell_of h]; rfl⟩
theorem SBox.keep {w w' : World} {b : Nat} {T V : Int} (h : SBox w b T V) (k : Below w.heap.size w w') : SBox w' b T V := (k.block b (heap_lt h)).trans h
theorem SBox.ts {F : Nat → Prop} {w w' : World} {b : Nat} {T V : Int} (h : SBox w b T V) (t : Ts F w w') : SBox w' b T V := t.cells _ _ _ _ (by decide) (by decide) h
theorem smaxS (b : Nat) (sz : Int) (s : Ser) (w : World) (h : SerAt w b sz s) (hs : 1 ≤ sz) : Calls Tryz.prog 42 #[.pointer (some ⟨b, 0, none⟩)] w fun e w' => e = .returned (.int .i64 s.mx) ∧ w' = w :=
  (smax_ok b sz s w h hs).mono fun _ _ p => ⟨p.1, p.2.symm⟩
theorem slineS (b : Nat) (sz : Int) (s : Ser) (w : World) (h : SerAt w b sz s) (hs : 1 ≤ sz) : Calls Tryz.prog 43 #[.pointer (some ⟨b, 0, none⟩)] w fun e w' => e = .returned (.int .i64 s.line) ∧ w' = w :=
  (sline_ok b sz s w h hs).mono fun _ _ p => ⟨p.1, p.2.symm⟩
end Go.Proofs.YtmifpfojhlmbkaaGreat
