/-
  Contracts.
-/
import Derived.Test.YtmifpfojhlmbkaaGreatJ22
import Derived.Test.YtmifpfojhlmbkaaGreatJ33
import Derived.Test.YtmifpfojhlmbkaaGreatJ34
import Derived.Test.YtmifpfojhlmbkaaGreatJ38
import Derived.Test.YtmifpfojhlmbkaaGreatJ43
import Derived.Test.YtmifpfojhlmbkaaGreatJ44
import Derived.Test.YtmifpfojhlmbkaaGreatJ46
import Derived.Deep.RegionHeld3
import Derived.Laws.IdiomRangeMap
import Derived.Deep.DeepCutAuto
namespace Go.Proofs.YtmifpfojhlmbkaaGreat
open Lib (hid)
set_option maxRecDepth 100000
set_option maxHeartbeats 16000000
open Go.RowKit
set_option linter.unusedVariables false
set_option linter.unusedSimpArgs false
theorem O14.all {w : World} {b o : Nat} {q : Op12} {a : Option Addr} {n c : Nat} (h : O14 w b o q a n c) : w.cell? ⟨b, o, none⟩ = some (.int .i64 q.k) ∧ w.cell? ⟨b, o + 1, none⟩ = some (.string (bs q.key)) ∧ w.cell? ⟨b, o + 2, none⟩ = some (.int .i64 q.T) ∧ w.cell? ⟨b, o + 3, none⟩ = some (.int .i64 q.V) ∧ w.cell? ⟨b, o + 4, none⟩ = some (.int .i64 q.p) ∧ w.cell? ⟨b, o + 5, none⟩ = some (.int .i64 q.sz) ∧ w.cell? ⟨b, o + 6, none⟩ = some (.int .i64 q.ret) ∧ w.cell? ⟨b, o + 7, none⟩ = some (.int .i64 q.pol) ∧ w.cell? ⟨b, o + 8, none⟩ = some (.slice a n c) ∧ w.cell? ⟨b, o + 9, none⟩ = some (.string (bs q.r.src)) ∧ w.cell? ⟨b, o + 10, none⟩ = some (.string (bs q.r.dst)) ∧ w.cell? ⟨b, o + 11, none⟩ = some (.int .i64 q.r.kind) ∧ w.cell? ⟨b, o + 12, none⟩ = some (.int .i64 q.r.size) ∧ w.cell? ⟨b, o + 13, none⟩ = some (.int .i64 q.r.align) :=
  ⟨h.1 0 _ rfl, h.1 1 _ rfl, h.1 2 _ rfl, h.1 3 _ rfl, h.1 4 _ rfl, h.1 5 _ rfl, h.1 6 _ rfl, h.1 7 _ rfl, h.1 8 _ rfl, h.1 9 _ rfl, h.1 10 _ rfl, h.1 11 _ rfl, h.1 12 _ rfl, h.1 13 _ rfl⟩
def BuiltS (w : World) (e : Ending) (w' : World) : Prop := ∃ x m P, e = .returned (.pointer (some ⟨x, 0, none⟩)) ∧ HOwn w.heap.size w w' x m P ∧ Few 100 P ∧ AllMade P
theorem build12_any (a : Option Addr) (len cap : Nat) (z : List Op12) (w : World) (h : Ops12 w a len cap z) :
    Calls Tryz.prog 15 #[.slice a len cap] w (BuiltS w) := by
  have hlz := h.1
  have hlm := h.2.1
  have HZ := hid h
  clear h
  go_enter Tryz.func15, Tryz.ntmps15
  go_wp2_with fail
  refine (hNew w).mono ?_
  rintro e w1 ⟨x, m, rfl, x1, hx, b1, f1⟩
  have O1 : Hid (HOwn w.heap.size w w1 x m noSpc) := hid (HOwn.new (Below.refl _ _) (Nat.le_refl _) x1 b1 hx f1)
  clear x1 b1 f1 hx
  go_wp2_with fail
  go_loopw [4] (fun vi wr => ∃ (j : Nat) (m' : Mem) (P : Spc), vi = .int .i64 (j : Int) ∧ j ≤ len ∧ j ≤ 50 ∧ Hid (HOwn w.heap.size w wr x m' P) ∧ Hid (Few (2 * j) P) ∧ Hid (AllMade P)) (fun vi _ => len - (intOf vi).toNat)
  case atStart => exact ⟨0, m, noSpc, rfl, Nat.zero_le _, Nat.zero_le _, O1, hid ⟨Nat.zero_le _, Nat.zero_le _, fun k hk => absurd hk (by simp [Spc.has, noSpc, keysL])⟩, hid .none⟩
  case round =>
    obtain ⟨j, m', P, rfl, hj, hj50, HO, HF, HM⟩ := hrel
    clear O1
    by_cases hjn : j < len
    · have hjz : (j : Int) < (len : Int) := by omega
      have hj0 : (0 : Int) ≤ (j : Int) := by omega
      by_cases hjf : j < 50
      · have hjf' : (j : Int) < 50 := by omega
        have HZ1 := hid (HZ.out.keep HO.out.bel)
        obtain ⟨pb, po, a', n', c', e1, hpb, hq⟩ := HZ1.out.at_ j hjn
        subst e1
        have HQ := hid hq
        clear hq HZ1
        generalize opA z j = q at *
        have HL := hid HQ.out.2.1
        have HV := hid HQ.out.2.2.2
        obtain ⟨x0, x1, x2, x3, x4, x5, x6, x7, x8, x9, x10, x11, x12, x13⟩ := HQ.out.all
        go_wp2_with fail
        refine (light12_any q a' n' c' wr HL.out).mono ?_
        rintro e w2 ⟨r, rfl, b2⟩
        have O2 := hid (HO.out.keep b2)
        have L2 := hid (HL.out.keep b2)
        have Q2 := hid (HQ.out.keep hpb b2)
        clear HO HL HQ x0 x1 x2 x3 x4 x5 x6 x7 x8 x9 x10 x11 x12 x13
        obtain ⟨x0, x1, x2, x3, x4, x5, x6, x7, x8, x9, x10, x11, x12, x13⟩ := Q2.out.all
        clear b2
        cases r with
        | true =>
          by_cases k0 : 0 ≤ q.k
          · by_cases k7 : q.k ≤ 7
            · go_wp2_with fail
              refine (do12_any O2.out (HF.out.mono (by omega)) q a' n' c' L2.out HV.out).mono ?_
              rintro e w3 ⟨rfl, m3, o3, t3⟩
              have I3 := stepP_inv O2.out.sp.ok o3.sp.ok HF.out HM.out HV.out (by omega)
              have F3 : Hid (Few (2 * (j + 1)) (stepP P q)) := hid (I3.1.mono (by omega))
              have M3 := hid I3.2
              have O3 := hid o3
              clear o3 t3 I3 O2 x0 x1 x2 x3 x4 x5 x6 x7 x8 x9 x10 x11 x12 x13 k0 k7
              go_wp2
              go_roundw
              case rel => exact ⟨j + 1, m3, stepP P q, by go_num, by omega, by omega, O3, F3, M3⟩
              case measure => simp [intOf]; omega
            · have F3 : Hid (Few (2 * (j + 1)) P) := hid (HF.out.mono (by omega))
              clear x1 x2 x3 x4 x5 x6 x7 x8 x9 x10 x11 x12 x13
              go_wp2
              go_roundw
              case rel => exact ⟨j + 1, m', P, by go_num, by omega, by omega, O2, F3, HM⟩
              case measure => simp [intOf]; omega
          · have F3 : Hid (Few (2 * (j + 1)) P) := hid (HF.out.mono (by omega))
            clear x1 x2 x3 x4 x5 x6 x7 x8 x9 x10 x11 x12 x13
            go_wp2
            go_roundw
            case rel => exact ⟨j + 1, m', P, by go_num, by omega, by omega, O2, F3, HM⟩
            case measure => simp [intOf]; omega
        | false =>
          have F3 : Hid (Few (2 * (j + 1)) P) := hid (HF.out.mono (by omega))
          clear x0 x1 x2 x3 x4 x5 x6 x7 x8 x9 x10 x11 x12 x13
          go_wp2
          go_roundw
          case rel => exact ⟨j + 1, m', P, by go_num, by omega, by omega, O2, F3, HM⟩
          case measure => simp [intOf]; omega
      · have hjf' : ¬ (j : Int) < 50 := by omega
        have FF := hid (HF.out.mono (k := 100) (by omega))
        go_wp2
        go_ret
        exact ⟨x, m', P, rfl, HO.out, FF.out, HM.out⟩
    · have hjz : ¬ (j : Int) < (len : Int) := by omega
      have FF := hid (HF.out.mono (k := 100) (by omega))
      go_wp2
      go_ret
      exact ⟨x, m', P, rfl, HO.out, FF.out, HM.out⟩
def IntoB (L : List Ru) (k : Tx) (w : World) (e : Ending) (w' : World) : Prop :=
  ∃ (r : Ru) (b : Bool), e = .returned (.tuple #[.agg #[.string (bs r.src), .string (bs r.dst), .int .i64 r.kind, .int .i64 r.size, .int .i64 r.align], .bool b]) ∧ ((b = true ∧ r ∈ L ∧ r.dst = k) ∨ (b = false ∧ ∀ q ∈ L, q.dst ≠ k)) ∧ Below w.heap.size w w'
theorem into12_any (w : World) (x : Nat) (m : Mem) (P : Spc) (k : Tx) (h : SpAt w x m P) (hG : P.G.length ≤ 1000) :
    Calls Tryz.prog 17 #[.pointer (some ⟨x, 0, none⟩), .string (bs k)] w (IntoB P.G k w) := by
  have B0 := (Below.refl w.heap.size w).alloc (Nat.le_refl _) (.cells #[.string ⟨#[]⟩, .string ⟨#[]⟩, .int .i64 0, .int .i64 0, .int .i64 0] 32)
  have X0 : BoxU 32 (w.alloc (.cells #[.string ⟨#[]⟩, .string ⟨#[]⟩, .int .i64 0, .int .i64 0, .int .i64 0] 32)) w.heap.size zeroU := BoxU.new _ w zeroU
  have HS := hid (hRules _ x m P (h.keep B0) hG)
  have HB0 := hid B0
  have HX0 := hid X0
  clear h B0 X0
  go_enter Tryz.func17, Tryz.ntmps17
  go_wp2_with fail
  generalize hW0 : w.alloc (.cells #[.string ⟨#[]⟩, .string ⟨#[]⟩, .int .i64 0, .int .i64 0, .int .i64 0] 32) = W0 at *
  clear hW0
  refine HS.out.mono ?_
  rintro e W1 ⟨v, rfl, rr, b1⟩
  obtain ⟨a1, c1, e1, hr1, _⟩ := rr.shape
  subst e1
  have HX := hid (HX0.out.keep b1)
  have HB := hid (HB0.out.trans (b1.mono HB0.out.size))
  have HR := hid hr1
  clear rr b1 hr1 HS HX0 HB0
  generalize hB : w.heap.size = B at *
  have HBE := hid hB
  clear hB
  obtain ⟨n, hn⟩ : ∃ n, P.G.length = n := ⟨_, rfl⟩
  have HN := hid hn
  rw [hn] at HR hG ⊢
  clear hn
  have f0 := frozen_of (o := 0) HX.out
  have f1 := frozen_of (o := 1) HX.out
  have f2 := frozen_of (o := 2) HX.out
  have f3 := frozen_of (o := 3) HX.out
  have f4 := frozen_of (o := 4) HX.out
  have g0 := HX.out.x0
  have g1 := HX.out.x1
  have g2 := HX.out.x2
  have g3 := HX.out.x3
  have g4 := HX.out.x4
  go_wp2
  go_loopw [7] (fun i wr => ∃ j : Nat, j ≤ n ∧ i = .int .i64 (j : Int) ∧ W1 = wr ∧ Hid (∀ t, t < j → (uA P.G t).dst ≠ k)) (fun i _ => n - (intOf i).toNat)
  case atStart => exact ⟨0, Nat.zero_le _, rfl, rfl, hid (fun t ht => by omega)⟩
  case round =>
    obtain ⟨j, hj, rfl, rfl, HT⟩ := hrel
    by_cases hjn : j < n
    · have hjz : (j : Int) < (n : Int) := by omega
      have hj0 : (0 : Int) ≤ (j : Int) := by omega
      obtain ⟨b, off, rfl, hb, x0, x1, x2, x3, x4⟩ := HR.out.at_ j hjn
      have HM : Hid (uA P.G j ∈ P.G) := hid (uA_mem (by rw [HN.out]; exact hjn))
      obtain ⟨r, hr⟩ : ∃ r, uA P.G j = r := ⟨_, rfl⟩
      have HRE := hid hr
      rw [hr] at x0 x1 x2 x3 x4 HM
      clear hr
      by_cases hd : r.dst = k
      · have hq : ((bs r.dst).toList == (bs k).toList) = true := by rw [eq_bs]; exact decide_eq_true hd
        have HD := hid hd
        clear hd
        go_wp2
        refine bodyPost_ret (results_cell_pair rfl _ _ B _ _ _ _ (.bool true) rfl rfl (box_set (r := r) HX.out) Tryz.underlying32 rfl (by kernel_rfl)) rfl ?_
        exact ⟨r, true, rfl, .inl ⟨rfl, HM.out, HD.out⟩, by rw [HBE.out]; exact below_set (r := r) HB.out⟩
      · have hq : ((bs r.dst).toList == (bs k).toList) = false := by rw [eq_bs]; exact decide_eq_false hd
        have HT2 : Hid (∀ t, t < j + 1 → (uA P.G t).dst ≠ k) := hid (fun t ht => by
          by_cases e : t = j
          · rw [e, HRE.out]; exact hd
          · exact HT.out t (by omega))
        clear hd
        go_wp2
        go_roundw
        case rel => exact ⟨j + 1, by omega, by go_num, by first | rfl | trivial, HT2⟩
        case measure => simp [intOf]; omega
    · have hjz : ¬ (j : Int) < (n : Int) := by omega
      have HA : Hid (∀ q ∈ P.G, q.dst ≠ k) := hid (fun q hq => by
        obtain ⟨t, ht, e⟩ := uA_ex hq
        rw [e]
        exact HT.out t (by have := HN.out; omega))
      go_wp2
      refine bodyPost_ret (results_cell_pair rfl _ _ B _ _ _ _ (.bool false) rfl rfl (box_set (r := zeroU) HX.out) Tryz.underlying32 rfl (by kernel_rfl)) rfl ?_
      exact ⟨zeroU, false, rfl, .inr ⟨rfl, HA.out⟩, by rw [HBE.out]; exact below_set (r := zeroU) HB.out⟩
theorem TRow.ts12 {F : Nat → Prop} {w w' : World} {base : Nat} {v : Value} {l : List Tx} (h : TRow w base v l) (t : Ts F w w') : TRow w' base v l := by
  refine ⟨h.1, ?_⟩
  rcases h.2 with e | ⟨g, cap, cur, rfl, hbg, hg, r⟩
  · exact .inl e
  · exact .inr ⟨g, cap, cur, rfl, hbg, t.cells _ _ _ _ (by decide) (by decide) hg, r⟩
theorem keys_sh {E : List Ent} (h : GoodE E) : Sh (keysL E) := fun k hk => by
  obtain ⟨p, hp, rfl⟩ := List.mem_map.1 hk
  have := (h.key p hp).2
  omega
theorem al_size (w : World) (o : Obj) : (w.alloc o).heap.size = w.heap.size + 1 := by simp
theorem al_drew (w : World) (o : Obj) : (w.alloc o).drew.heap.size = w.heap.size + 1 := al_size w o
theorem map_drew (w : World) : MapAt (w.alloc (.map #[] 0)).drew w.heap.size [] := (MapAt.new w).same rfl
theorem bel_al (w : World) (o : Obj) : Below w.heap.size w (w.alloc o) := (Below.refl _ _).alloc (Nat.le_refl _) o
structure CopA (w0 w : World) (y mo ix bl bn : Nat) (ρ : Rho) (gx bi bf : Nat) (F : Nat → Prop) (P : Spc) : Prop where
  cell : w.heap[y]? = some (.cells #[mp mo, pt ix, pt gx] 98 (0, 0))
  map : MapAt w mo []
  ixa : IxAt w ix bl bn ρ P.E
  gra : GrAt w gx bi bf F P.G
  bel : Below w0.heap.size w0 w
  ma : ¬ FA ρ mo
  mf : ¬ F mo
  fa : ∀ i, F i → ¬ FA ρ i
  ny : w0.heap.size ≤ y
  nm : w0.heap.size ≤ mo
  ni : ∀ i, FA ρ i → w0.heap.size ≤ i
  nf : ∀ i, F i → w0.heap.size ≤ i
theorem CopA.of {w0 w : World} {mo ix bl bn : Nat} {ρ : Rho} {gx bi bf : Nat} {F : Nat → Prop} {P : Spc} (hb : Below w0.heap.size w0 w) (hm : MapAt w mo []) (hi : IxAt w ix bl bn ρ P.E) (hg : GrAt w gx bi bf F P.G)
    {l1 h1 l2 h2 : Nat} (q1 : ∀ i, FA ρ i → l1 ≤ i ∧ i < h1) (q2 : ∀ i, F i → l2 ≤ i ∧ i < h2) (n1 : w0.heap.size ≤ l1) (n2 : w0.heap.size ≤ l2) (n3 : w0.heap.size ≤ mo) (a : mo < l1 ∨ h1 ≤ mo) (b : mo < l2 ∨ h2 ≤ mo) (c : h1 ≤ l2 ∨ h2 ≤ l1) :
    CopA w0 (w.alloc (.cells #[.map (some mo), .pointer (some ⟨ix, 0, none⟩), .pointer (some ⟨gx, 0, none⟩)] 98)) w.heap.size mo ix bl bn ρ gx bi bf F P where
  cell := heap_new w _
  map := hm.keep (bel_al _ _)
  ixa := hi.keep (bel_al _ _)
  gra := hg.keep (bel_al _ _)
  bel := hb.trans ((bel_al _ _).mono hb.size)
  ma := fun f => by have := q1 _ f; omega
  mf := fun f => by have := q2 _ f; omega
  fa := fun i f g => by have := q1 i g; have := q2 i f; omega
  ny := hb.size
  nm := n3
  ni := fun i f => by have := q1 i f; omega
  nf := fun i f => by have := q2 i f; omega
structure CopD (n0 : Nat) (w : World) (mo : Nat) (P : Spc) (D : List Tx) (B : Tx → Nat) : Prop where
  map : ∃ L, MapAt w mo L ∧ ∀ k, look L k = if k ∈ D then some (heldV (P.Z k) (B k)) else none
  ser : ∀ k ∈ D, SerAt w (B k) (P.Z k) (P.S k)
  inj : ∀ k ∈ D, ∀ j ∈ D, B k = B j → k = j
  new : ∀ k ∈ D, n0 ≤ B k
theorem CopD.nil {n0 : Nat} {w : World} {mo : Nat} {P : Spc} (h : MapAt w mo []) : CopD n0 w mo P [] (fun _ => 0) :=
  ⟨⟨[], h, fun k => rfl⟩, fun k hk => absurd hk (by simp), fun k hk => absurd hk (by simp), fun k hk => absurd hk (by simp)⟩
theorem CopD.keep {n0 : Nat} {w w' : World} {mo : Nat} {P : Spc} {D : List Tx} {B : Tx → Nat} (h : CopD n0 w mo P D B) (b : Below w.heap.size w w') : CopD n0 w' mo P D B :=
  ⟨by obtain ⟨L, h1, h2⟩ := h.map; exact ⟨L, h1.keep b, h2⟩, fun k hk => (h.ser k hk).keepB b, h.inj, h.new⟩
theorem ser_map {w : World} {b mo : Nat} {sz : Int} {s : Ser} {L : List (Tx × Value)} (h : SerAt w b sz s) (hL : MapAt w mo L) : b ≠ mo := fun e => by
  obtain ⟨cs, hc⟩ := h.cellS
  obtain ⟨es, c, hm⟩ := hL.isMap
  rw [e, hm] at hc; cases hc
theorem CopD.put {n0 : Nat} {w w' : World} {mo o : Nat} {P : Spc} {D : List Tx} {B : Tx → Nat} {k : Tx} {L : List (Tx × Value)} (h : CopD n0 w mo P D B) (hk : k ∉ D) (hL : MapAt w mo L) (hl : ∀ j, look L j = if j ∈ D then some (heldV (P.Z j) (B j)) else none)
    (s : SerAt w o (P.Z k) (P.S k)) (ho : ∀ j ∈ D, B j < o) (hn : n0 ≤ o) (hm : MapAt w' mo (ups L k (heldV (P.Z k) o))) (g : w.grownBy w' (some mo)) : CopD n0 w' mo P (k :: D) (upd B k o) := by
  have t : Ts (fun i => i = mo) w w' := Ts.map (L' := L) hL g
  have e1 : ∀ j ∈ D, upd B k o j = B j := fun j hj => upd_n _ _ (fun e => hk (e ▸ hj))
  refine ⟨⟨_, hm, fun j => ?_⟩, fun j hj => ?_, fun i hi j hj e => ?_, fun j hj => ?_⟩
  · by_cases e : j = k
    · subst e; rw [look_ups_same, if_pos (List.mem_cons_self ..), upd_k]
    · rw [look_ups_ne _ e, hl, upd_n _ _ e]
      by_cases hj : j ∈ D
      · rw [if_pos hj, if_pos (List.mem_cons_of_mem _ hj)]
      · rw [if_neg hj, if_neg (by simp [e, hj])]
  · rcases List.mem_cons.1 hj with e | hj'
    · rw [e, upd_k]; exact s.ts t (ser_map s hL)
    · rw [e1 j hj']; exact (h.ser j hj').ts t (ser_map (h.ser j hj') hL)
  · rcases List.mem_cons.1 hi with ei | hi'
    · rcases List.mem_cons.1 hj with ej | hj'
      · rw [ei, ej]
      · rw [ei, upd_k, e1 j hj'] at e; have := ho j hj'; omega
    · rcases List.mem_cons.1 hj with ej | hj'
      · rw [ej, upd_k, e1 i hi'] at e; have := ho i hi'; omega
      · rw [e1 i hi', e1 j hj'] at e; exact h.inj i hi' j hj' e
  · rcases List.mem_cons.1 hj with e | hj'
    · rw [e, upd_k]; exact hn
    · rw [e1 j hj']; exact h.new j hj'
structure CopW (w0 w : World) (y mo ix bl bn : Nat) (ρ : Rho) (gx bi bf : Nat) (F : Nat → Prop) (P : Spc) (D : List Tx) (B : Tx → Nat) : Prop where
  a : ∃ w1, CopA w0 w1 y mo ix bl bn ρ gx bi bf F P
  cell : w.heap[y]? = some (.cells #[mp mo, pt ix, pt gx] 98 (0, 0))
  ixa : IxAt w ix bl bn ρ P.E
  gra : GrAt w gx bi bf F P.G
  bel : Below w0.heap.size w0 w
  d : CopD w0.heap.size w mo P D B
theorem CopW.of {w0 w : World} {y mo ix bl bn : Nat} {ρ : Rho} {gx bi bf : Nat} {F : Nat → Prop} {P : Spc} (h : CopA w0 w y mo ix bl bn ρ gx bi bf F P) : CopW w0 w y mo ix bl bn ρ gx bi bf F P [] (fun _ => 0) :=
  ⟨⟨w, h⟩, h.cell, h.ixa, h.gra, h.bel, .nil h.map⟩
theorem CopW.keep {w0 w w' : World} {y mo ix bl bn : Nat} {ρ : Rho} {gx bi bf : Nat} {F : Nat → Prop} {P : Spc} {D : List Tx} {B : Tx → Nat} (h : CopW w0 w y mo ix bl bn ρ gx bi bf F P D B) (b : Below w.heap.size w w') : CopW w0 w' y mo ix bl bn ρ gx bi bf F P D B :=
  ⟨h.a, (b.block y (heap_lt h.cell)).trans h.cell, h.ixa.keep b, h.gra.keep b, h.bel.trans (b.mono h.bel.size), h.d.keep b⟩
theorem CopW.put {w0 w w' : World} {y mo ix bl bn : Nat} {ρ : Rho} {gx bi bf : Nat} {F : Nat → Prop} {P : Spc} {D : List Tx} {B : Tx → Nat} {k : Tx} {o : Nat} {L : List (Tx × Value)} (h : CopW w0 w y mo ix bl bn ρ gx bi bf F P D B) (hk : k ∉ D) (hL : MapAt w mo L) (hl : ∀ j, look L j = if j ∈ D then some (heldV (P.Z j) (B j)) else none)
    (s : SerAt w o (P.Z k) (P.S k)) (ho : ∀ j ∈ D, B j < o) (hn : w0.heap.size ≤ o) (hm : MapAt w' mo (ups L k (heldV (P.Z k) o))) (g : w.grownBy w' (some mo)) : CopW w0 w' y mo ix bl bn ρ gx bi bf F P (k :: D) (upd B k o) := by
  obtain ⟨w1, A⟩ := h.a
  have t : Ts (fun i => i = mo) w w' := Ts.map (L' := L) hL g
  refine ⟨h.a, t.cells _ _ _ _ (by decide) (by decide) h.cell, h.ixa.ts t (fun i _ f e => A.ma (e ▸ f)), h.gra.ts t (fun i f e => A.mf (by have e' : i = mo := e; rw [← e']; exact f)), ?_, h.d.put hk hL hl s ho hn hm g⟩
  exact t.below h.bel h.bel.size (fun i hi f => by have := A.nm; omega)
theorem CopW.walk {w0 w w' : World} {y mo ix bl bn : Nat} {ρ : Rho} {gx bi bf : Nat} {F : Nat → Prop} {P : Spc} {D : List Tx} {B : Tx → Nat} {r : Nat} (h : CopW w0 w y mo ix bl bn ρ gx bi bf F P D B) (g : w.grownBy w' (some r)) (hi : ∃ m s se c, w.heap[r]? = some (.mapIter m s se c)) (hr : w0.heap.size ≤ r) : CopW w0 w' y mo ix bl bn ρ gx bi bf F P D B := by
  have t : Ts (fun i => i = r) w w' := .trn (.walk g rfl hi)
  have hs : ∀ b sz s, SerAt w b sz s → b ≠ r := fun b sz s q e => by
    obtain ⟨cs, hc⟩ := q.cellS
    obtain ⟨m, s', se, c, hm⟩ := hi
    rw [e, hm] at hc; cases hc
  refine ⟨h.a, t.cells _ _ _ _ (by decide) (by decide) h.cell, h.ixa.ts t (fun i _ f e => h.ixa.ok.no_iter hi (e ▸ f)), h.gra.ts t (fun i f e => ?_), t.below h.bel h.bel.size (fun i hi' e => by have e' : i = r := e; omega), ⟨?_, fun k hk => (h.d.ser k hk).ts t (hs _ _ _ (h.d.ser k hk)), h.d.inj, h.d.new⟩⟩
  · have e' : i = r := e
    obtain ⟨m, s', se, c, hm⟩ := hi
    rcases h.gra.kind i f with ⟨es, c, q⟩ | ⟨cs', gg, q⟩
    · rw [e', hm] at q; cases q
    · rw [e', hm] at q; cases q
  · obtain ⟨L, l1, l2⟩ := h.d.map
    refine ⟨L, l1.same (t.block l1.lt (fun e => ?_)), l2⟩
    obtain ⟨es, c, q⟩ := l1.isMap
    obtain ⟨m, s', se, c', hm⟩ := hi
    have e' : mo = r := e
    rw [e', hm] at q; cases q
theorem CopW.done {w0 w : World} {x : Nat} {m : Mem} {y mo ix bl bn : Nat} {ρ : Rho} {gx bi bf : Nat} {F : Nat → Prop} {P : Spc} {D : List Tx} {B : Tx → Nat} (h : CopW w0 w y mo ix bl bn ρ gx bi bf F P D B) (hD : ∀ k, P.has k ↔ k ∈ D) (ok : Ok12 P) :
    SpAt w y ⟨mo, ix, bl, bn, ρ, gx, bi, bf, F, B⟩ P ∧ w0.heap.size ≤ y ∧ ∀ i, Own ⟨mo, ix, bl, bn, ρ, gx, bi, bf, F, B⟩ P.E i → w0.heap.size ≤ i := by
  obtain ⟨w1, A⟩ := h.a
  refine ⟨⟨h.cell, ?_, h.ixa, h.gra, fun k hk => h.d.ser k ((hD k).1 hk), fun k j hk hj e => h.d.inj k ((hD k).1 hk) j ((hD j).1 hj) e, A.ma, A.mf, A.fa, ok⟩, A.ny, fun i f => ?_⟩
  · obtain ⟨L, l1, l2⟩ := h.d.map
    refine ⟨L, l1, fun k => ?_⟩
    rw [l2]
    by_cases hk : k ∈ D
    · rw [if_pos hk, if_pos (show k ∈ keysL P.E from (hD k).2 hk)]
    · rw [if_neg hk, if_neg (show ¬ k ∈ keysL P.E from fun q => hk ((hD k).1 q))]
  · rcases f with rfl | f | f | ⟨k, hk, rfl⟩
    · exact A.nm
    · exact A.ni i f
    · exact A.nf i f
    · exact h.d.new k ((hD k).1 hk)
theorem copS_al {w W : World} {x : Nat} {m : Mem} {P : Spc} {o : Obj} (h : W.cell? ⟨x, 1, none⟩ = some (.pointer (some ⟨m.ix, 0, none⟩)) ∧ W.cell? ⟨x, 2, none⟩ = some (.pointer (some ⟨m.gx, 0, none⟩)) ∧ SpAt W x m P ∧ Below w.heap.size w W) :
    (W.alloc o).cell? ⟨x, 1, none⟩ = some (.pointer (some ⟨m.ix, 0, none⟩)) ∧ (W.alloc o).cell? ⟨x, 2, none⟩ = some (.pointer (some ⟨m.gx, 0, none⟩)) ∧ SpAt (W.alloc o) x m P ∧ Below w.heap.size w (W.alloc o) := by
  have k := h.2.2.1.keep (bel_al W o)
  exact ⟨k.cell.c1, k.cell.c2, k, h.2.2.2.trans ((bel_al W o).mono h.2.2.2.size)⟩
theorem copS_bel {w W W' : World} {x : Nat} {m : Mem} {P : Spc} (h : W.cell? ⟨x, 1, none⟩ = some (.pointer (some ⟨m.ix, 0, none⟩)) ∧ W.cell? ⟨x, 2, none⟩ = some (.pointer (some ⟨m.gx, 0, none⟩)) ∧ SpAt W x m P ∧ Below w.heap.size w W) (b : Below W.heap.size W W') :
    W'.cell? ⟨x, 1, none⟩ = some (.pointer (some ⟨m.ix, 0, none⟩)) ∧ W'.cell? ⟨x, 2, none⟩ = some (.pointer (some ⟨m.gx, 0, none⟩)) ∧ SpAt W' x m P ∧ Below w.heap.size w W' := by
  have k := h.2.2.1.keep b
  exact ⟨k.cell.c1, k.cell.c2, k, h.2.2.2.trans (b.mono h.2.2.2.size)⟩
def CopyS (P : Spc) (w : World) (e : Ending) (w' : World) : Prop := ∃ y m', e = .returned (.pointer (some ⟨y, 0, none⟩)) ∧ SpAt w' y m' P ∧ Below w.heap.size w w' ∧ w.heap.size ≤ y ∧ ∀ i, Own m' P.E i → w.heap.size ≤ i
theorem hCopy (w : World) (x : Nat) (m : Mem) (P : Spc) (h : SpAt w x m P) (hf : Few 1000 P) :
    Calls Tryz.prog 16 #[.pointer (some ⟨x, 0, none⟩)] w (CopyS P w) := by
  have hmm := @run_makeMap Tryz.prog
  have HC := hid h.cell
  have HIC := hid (fun W (q : SpAt W x m P) => icopy_ok W m.ix m.bl m.bn m.ρ P.E q.ix)
  have HGC := hid (fun W (q : SpAt W x m P) => gcopy_ok W m.gx m.bi m.bf m.F P.G q.gr hf.g)
  have HS0 := hid (copS_bel (w := w) ⟨h.cell.c1, h.cell.c2, h, Below.refl _ _⟩ (Below.refl w.heap.size w).drew)
  have HH := hid h
  have HF := hid hf
  clear h hf
  go_enter Tryz.func16, Tryz.ntmps16
  go_wp2_with fail
  refine (hNone_no w x m HC.out).mono ?_
  rintro e w' ⟨rfl, rfl⟩
  go_upto_region 3 with fail
  go_cut [3] (fun v wx => ∃ (y mo ix bl bn : Nat) (ρ : Rho) (gx bi bf : Nat) (F : Nat → Prop), v = .pointer (some ⟨y, 0, none⟩) ∧ Hid (CopA w wx y mo ix bl bn ρ gx bi bf F P))
  case first =>
    go_region_held3 (fun w' => w'.cell? ⟨x, 1, none⟩ = some (.pointer (some ⟨m.ix, 0, none⟩)) ∧ w'.cell? ⟨x, 2, none⟩ = some (.pointer (some ⟨m.gx, 0, none⟩)) ∧ SpAt w' x m P ∧ Below w.heap.size w w')
      (first
        | exact HSN.out
        | exact HS0.out
        | exact copS_al ‹_ ∧ _ ∧ SpAt _ x m P ∧ Below _ _ _›
        | fail)
      (first
        | (go_at_call 59
           have HQ := hid ‹_ ∧ _ ∧ SpAt _ x m P ∧ Below _ _ _›
           (with_reducible refine (HIC.out _ HQ.out.2.2.1).mono ?_)
           rintro e V2 ⟨y2, b2, n2, ρ2, rfl, hix, bix, fix_⟩
           have HSN := hid (copS_bel HQ.out bix)
           have sz1 := bix.size
           have ql1 : ∀ i, FA ρ2 i → _ ≤ i ∧ i < V2.heap.size := fun i f => ⟨fix_ i f, hix.lt f⟩
           (try simp only [al_size, al_drew] at sz1 ql1)
           have QL1 := hid ql1
           have IX := hid hix
           (first | (replace GG := hid (GG.out.keep bix)) | (replace GG := hid ((GG.out.keep (bel_al _ _)).keep bix)) | skip)
           (first | (replace MM := hid (MM.out.keep bix)) | (have MM := hid ((MapAt.new _).keep bix)) | (have MM := hid ((map_drew _).keep bix)) | skip)
           clear HQ hix bix fix_ ql1)
        | (go_at_call 60
           have HQ := hid ‹_ ∧ _ ∧ SpAt _ x m P ∧ Below _ _ _›
           (with_reducible refine (HGC.out _ HQ.out.2.2.1).mono ?_)
           rintro e V3 ⟨y3, ci, cf, F3, rfl, hgr, bgr, hgy, fgr⟩
           have HSN := hid (copS_bel HQ.out bgr)
           have sz2 := bgr.size
           have ql2 : ∀ i, F3 i → _ ≤ i ∧ i < V3.heap.size := fun i f => ⟨fgr i f, hgr.lt i f⟩
           (try simp only [al_size, al_drew] at sz2 ql2)
           have QL2 := hid ql2
           have GG := hid hgr
           (first | (replace IX := hid (IX.out.keep bgr)) | (replace IX := hid ((IX.out.keep (bel_al _ _)).keep bgr)) | skip)
           (first | (replace MM := hid (MM.out.keep bgr)) | (have MM := hid ((MapAt.new _).keep bgr)) | (have MM := hid ((map_drew _).keep bgr)) | skip)
           clear HQ hgr bgr hgy fgr ql2)
        | fail)
    all_goals
      go_wp2_with fail
      go_meet
      first
        | (have HQ := ‹_ ∧ _ ∧ SpAt V3 x m P ∧ Below w.heap.size w V3›
           have hsz := HQ.2.2.2.size
           have hdz : w.drew.heap.size = w.heap.size := rfl
           refine ⟨_, _, _, _, _, _, _, _, _, _, rfl, hid (CopA.of HQ.2.2.2 MM.out IX.out GG.out QL1.out QL2.out ?_ ?_ ?_ ?_ ?_ ?_)⟩
           all_goals omega)
        | (have HQ := ‹_ ∧ _ ∧ SpAt V3 x m P ∧ Below w.heap.size w V3›
           have hsz := HQ.2.2.2.size
           have hdz : w.drew.heap.size = w.heap.size := rfl
           refine ⟨(V3.alloc (.map #[] 0)).heap.size, V3.heap.size, _, _, _, _, _, _, _, _, by first | rfl | (rw [al_size]), hid (CopA.of (HQ.2.2.2.trans ((bel_al V3 (.map #[] 0)).mono hsz)) (MapAt.new V3) (IX.out.keep (bel_al _ _)) (GG.out.keep (bel_al _ _)) QL1.out QL2.out ?_ ?_ ?_ ?_ ?_ ?_)⟩
           all_goals omega)
  case rest =>
    obtain ⟨y, mo, ix, bl, bn, ρ, gx, bi, bf, F, rfl, HA⟩ := hcut
    generalize wc = W0 at *
    have H0 := hid (HH.out.keep HA.out.bel)
    have c0 := H0.out.cell.c0
    obtain ⟨Ls, l1, l2⟩ := H0.out.map
    have HL1 := hid l1
    have HL2 := hid l2
    have HI0 : Hid ((∀ k, P.has k ↔ k ∈ ([] : List Tx) ∨ k ∈ keysL Ls) ∧ (∀ k ∈ ([] : List Tx), k ∉ keysL Ls) ∧ (keysL Ls).Nodup ∧ ∀ p ∈ Ls, p ∈ Ls) := hid ⟨fun k => by
      have e := l2 k
      by_cases hk : k ∈ keysL P.E
      · rw [if_pos hk] at e
        have hm : k ∈ keysL Ls := Classical.byContradiction fun q => by rw [look_none.2 q] at e; cases e
        exact ⟨fun _ => .inr hm, fun _ => hk⟩
      · rw [if_neg hk] at e
        exact ⟨fun q => absurd q hk, fun q => absurd (q.resolve_left (by simp)) (look_none.1 e)⟩, fun k hk => absurd hk (by simp), l1.nodup, fun p hp => hp⟩
    clear l1 l2 HIC HGC HS0 hmm
    go_wp2_with (first
      | (at_range; refine wpList_range_m _ rfl _ 92 rfl 9 105 Tryz.underlying92 m.mb _ rfl HL1.out ?_; intro w2 hr2 g2 hs2))
    go_frame
    have R2 := hid hr2
    have bb2 := gb_below_none g2
    have X2 := hid ((CopW.of HA.out).keep bb2)
    have hrs : w.heap.size ≤ W0.heap.size := HA.out.bel.size
    clear hr2 g2 hs2 bb2 c0 HA H0
    generalize W0.heap.size = r at *
    go_loopw [4] (fun _ wr => ∃ (D : List Tx) (B : Tx → Nat) (left : List (Tx × Value)), Hid (CopW w wr y mo ix bl bn ρ gx bi bf F P D B) ∧ Hid (RngAt wr m.mb r Ls left) ∧ Hid ((∀ k, P.has k ↔ k ∈ D ∨ k ∈ keysL left) ∧ (∀ k ∈ D, k ∉ keysL left) ∧ (keysL left).Nodup ∧ ∀ p ∈ left, p ∈ Ls)) (fun _ wr => wr.rangeLeft m.mb r)
    case atStart => exact ⟨[], fun _ => 0, Ls, X2, R2, HI0⟩
    case round =>
      obtain ⟨D, B, left, X, R, HI⟩ := hrel
      clear X2 R2 HI0
      go_wp2_with (first
        | (at_next; refine wpList_next_m _ rfl _ rfl m.mb r Ls left rfl R.out ?_ ?_)
        | go_in)
      · intro h0
        subst h0
        have HD := hid (X.out.done (x := x) (m := m) (fun k => by rw [HI.out.1 k]; simp [keysL]) HH.out.ok)
        have HB := hid X.out.bel
        go_wp2
        go_ret
        exact ⟨y, _, rfl, HD.out.1, HB.out, HD.out.2.1, HD.out.2.2⟩
      · intro k v left' w3 hp hr3 g3 hs3 hen
        have hkl : (k, v) ∈ Ls := HI.out.2.2.2 _ (hp.mem_iff.2 (by simp))
        have hlk := mem_look HL1.out.nodup hkl
        rw [HL2.out k] at hlk
        have hk' : k ∈ keysL P.E := Classical.byContradiction fun q => by rw [if_neg q] at hlk; cases hlk
        rw [if_pos hk'] at hlk
        have hk : P.has k := hk'
        clear hk'
        have hv : v = heldV (P.Z k) (m.B k) := (Option.some.inj hlk).symm
        subst hv
        have hkp : (keysL left).Perm (k :: keysL left') := hp.map Prod.fst
        have hnd := hkp.nodup_iff.1 HI.out.2.2.1
        have hkD : k ∉ D := fun q => HI.out.2.1 k q (hkp.mem_iff.2 (by simp))
        have HKD := hid hkD
        have HI3 : Hid ((∀ j, P.has j ↔ j ∈ k :: D ∨ j ∈ keysL left') ∧ (∀ j ∈ k :: D, j ∉ keysL left') ∧ (keysL left').Nodup ∧ ∀ p ∈ left', p ∈ Ls) := hid ⟨fun j => by
          rw [HI.out.1 j, hkp.mem_iff, List.mem_cons, List.mem_cons]
          constructor
          · rintro (q | q | q)
            · exact .inl (.inr q)
            · exact .inl (.inl q)
            · exact .inr q
          · rintro ((q | q) | q)
            · exact .inr (.inl q)
            · exact .inl q
            · exact .inr (.inr q), fun j hj q => by
          rcases List.mem_cons.1 hj with e | hj'
          · exact (List.nodup_cons.1 hnd).1 (e ▸ q)
          · exact HI.out.2.1 j hj' (hkp.mem_iff.2 (List.mem_cons_of_mem _ q)), (List.nodup_cons.1 hnd).2, fun p hp' => HI.out.2.2.2 p (hp.mem_iff.2 (List.mem_cons_of_mem _ hp'))⟩
        have X3 := hid (X.out.walk g3 R.out.iter hrs)
        have S3 := hid ((HH.out.keep X3.out.bel).ser k hk)
        have HZ := hid (HH.out.ok.siz k hk)
        have HN := hid (HF.out.z k hk)
        have R3 := hid hr3
        have hlt : left'.length < left.length := by rw [hp.length_eq]; simp
        have HLT := hid hlt
        have RL := hid R.out.left_eq
        have hxm : m.mb < w.heap.size := HH.out.map.lt
        have HXM := hid hxm
        have HRS := hid hrs
        unfold heldV at hen
        clear hp hr3 g3 hs3 hkl hlk hk hkp hnd hkD X HI hlt R hxm
        generalize hz : P.Z k = zk at *
        generalize hsk : P.S k = sk at *
        generalize hbk : m.B k = bk at *
        have HZK := hid hz
        have HSK := hid hsk
        clear hz hsk hbk
        have b4 := bel_al w3 (.cells #[.int .i64 zk, .pointer (some ⟨bk, 0, none⟩)] 105)
        have L4 := hid (show (w3.alloc (.cells #[.int .i64 zk, .pointer (some ⟨bk, 0, none⟩)] 105)).heap[w3.heap.size]? = some (.cells #[.int .i64 zk, .pointer (some ⟨bk, 0, none⟩)] 105 (0, 0)) from heap_new w3 _)
        have X4 := hid (X3.out.keep b4)
        have S4 := hid (S3.out.keepB b4)
        have R4 := hid (R3.out.keep b4)
        clear b4 X3 S3 R3
        go_wp2_with fail
        generalize w3.heap.size = lb at *
        generalize w3.alloc (.cells #[.int .i64 zk, .pointer (some ⟨bk, 0, none⟩)] 105) = W4 at *
        have bd := (Below.refl W4.heap.size W4).drew
        have X5 := hid (X4.out.keep bd)
        have S5 := hid (S4.out.keepB bd)
        have R5 := hid (R4.out.keep bd)
        have L5 := hid (show W4.drew.heap[lb]? = some (.cells #[.int .i64 zk, .pointer (some ⟨bk, 0, none⟩)] 105 (0, 0)) from L4.out)
        have c0 : W4.drew.cell? ⟨y, 0, none⟩ = some (.map (some mo)) := by rw [cell_of X5.out.cell]; rfl
        have c1 : W4.drew.cell? ⟨lb, 0, none⟩ = some (.int .i64 zk) := by rw [cell_of L5.out]; rfl
        have c2 : W4.drew.cell? ⟨lb, 1, none⟩ = some (.pointer (some ⟨bk, 0, none⟩)) := by rw [cell_of L5.out]; rfl
        have HC5 := hid (copy_ser bk zk sk _ S5.out HZ.out.1 (Nat.le_trans HN.out (by omega)))
        clear bd X4 S4 R4 L4
        go_region_held3 (fun w' => w'.cell? ⟨y, 0, none⟩ = some (.map (some mo)) ∧ w'.cell? ⟨lb, 0, none⟩ = some (.int .i64 zk) ∧ w'.cell? ⟨lb, 1, none⟩ = some (.pointer (some ⟨bk, 0, none⟩)))
          (first
            | exact HE7.out
            | exact HE6.out
            | exact ⟨c0, c1, c2⟩
            | fail)
          (first
            | (go_at_call 61
               (with_reducible refine HC5.out.mono ?_)
               rintro e W6 ⟨o, rfl, ho, s6, b6⟩
               have X6 := hid (X5.out.keep b6)
               have R6 := hid (R5.out.keep b6)
               have HE6 := hid (show W6.cell? ⟨y, 0, none⟩ = some (.map (some mo)) ∧ W6.cell? ⟨lb, 0, none⟩ = some (.int .i64 zk) ∧ W6.cell? ⟨lb, 1, none⟩ = some (.pointer (some ⟨bk, 0, none⟩)) from
                 ⟨(b6.cell (p := ⟨y, 0, none⟩) (heap_lt X5.out.cell)).trans c0, (b6.cell (p := ⟨lb, 0, none⟩) (heap_lt L5.out)).trans c1, (b6.cell (p := ⟨lb, 1, none⟩) (heap_lt L5.out)).trans c2⟩)
               obtain ⟨L7, m7, q7⟩ := X6.out.d.map
               obtain ⟨W7, hrun, n7, g7, z7⟩ := m7.update Tryz.underlying92 Tryz.underlying9 k (.agg #[.int .i64 zk, .pointer (some ⟨o, 0, none⟩)])
               have HO := hid (show ∀ j ∈ D, B j < o from fun j hj => Nat.lt_of_lt_of_le (X5.out.d.ser j hj).lt ho)
               have HN7 := hid (show w.heap.size ≤ o from Nat.le_trans X5.out.bel.size ho)
               have X7 := hid (X6.out.put HKD.out m7 q7 (by rw [HZK.out, HSK.out]; exact s6) HO.out HN7.out (by rw [HZK.out]; exact n7) g7)
               have T7 : Ts (fun i => i = mo) W6 W7 := Ts.map (L' := L7) m7 g7
               have HE7 := hid (show W7.cell? ⟨y, 0, none⟩ = some (.map (some mo)) ∧ W7.cell? ⟨lb, 0, none⟩ = some (.int .i64 zk) ∧ W7.cell? ⟨lb, 1, none⟩ = some (.pointer (some ⟨bk, 0, none⟩)) from by
                 have l7 := T7.cells _ _ _ _ (by decide) (by decide) ((b6.block lb (heap_lt L5.out)).trans L5.out)
                 exact ⟨by rw [cell_of X7.out.cell]; rfl, by rw [cell_of l7]; rfl, by rw [cell_of l7]; rfl⟩)
               have R7 := hid (R6.out.same (T7.block R6.out.map.lt (fun e => by
                 have e' : m.mb = mo := e
                 obtain ⟨w1, A⟩ := X6.out.a
                 have := A.nm
                 have := HXM.out
                 omega)) (T7.block R6.out.lt (fun e => by
                 have e' : r = mo := e
                 obtain ⟨es, cc, q⟩ := m7.isMap
                 obtain ⟨mm, s', se, c', hm⟩ := R6.out.iter
                 rw [e', q] at hm; cases hm)))
               clear s6 b6 ho m7 q7 n7 g7 z7 T7 X6 R6 HO HN7)
            | fail)
        clear HE6 HE7 hrun c0 c1 c2 HC5 X5 S5 R5 L5
        go_wp2
        go_roundw
        case rel => exact ⟨k :: D, upd B k o, left', X7, R7, HI3⟩
        case measure => rw [R7.out.left_eq, RL.out]; exact HLT.out
end Go.Proofs.YtmifpfojhlmbkaaGreat
