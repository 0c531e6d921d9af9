/-
  Contracts.
-/
import Derived.Test.YtmifpfojhlmbkaaGreatJ4
import Derived.Test.YtmifpfojhlmbkaaGreatJ7
import Derived.Test.YtmifpfojhlmbkaaGreatJ15
import Derived.Test.YtmifpfojhlmbkaaGreatJ16
import Derived.Test.YtmifpfojhlmbkaaGreatJ17
import Derived.IntWalk
namespace Go.Proofs.YtmifpfojhlmbkaaGreat
open Lib (hid)
set_option maxRecDepth 100000
set_option maxHeartbeats 16000000
open Go.RowKit
set_option linter.unusedVariables false
set_option linter.unusedSimpArgs false
def SerAt (w : World) (b : Nat) (sz : Int) (s : Ser) : Prop := ∃ L, SMem w b sz s.ret s.pol s.mx s.line L ∧ Good sz (zs L) ∧ (zs L).flatten = s.z
theorem SerAt.keepN {w w' : World} {b : Nat} {sz : Int} {s : Ser} (h : SerAt w b sz s) (g : w.grownBy w' none) : SerAt w' b sz s := by
  obtain ⟨L, h1, h2⟩ := h; exact ⟨L, h1.keepN g, h2⟩
theorem SerAt.keepB {w w' : World} {b : Nat} {sz : Int} {s : Ser} (h : SerAt w b sz s) (g : Below w.heap.size w w') : SerAt w' b sz s := h.keepN (gb_below g)
theorem SerAt.lt {w : World} {b : Nat} {sz : Int} {s : Ser} (h : SerAt w b sz s) : b < w.heap.size := by obtain ⟨L, h1, _⟩ := h; exact h1.lt
theorem SMem.cell {w : World} {b : Nat} {sz ret pol mx line : Int} {L : List (Nat × List (Int × Int))} (h : SMem w b sz ret pol mx line L) : ∃ v, SCell w b sz ret pol mx line v := by obtain ⟨a, cap, hc, _⟩ := h; exact ⟨_, hc⟩
theorem SerAt.cell {w : World} {b : Nat} {sz : Int} {s : Ser} (h : SerAt w b sz s) : ∃ v, SCell w b sz s.ret s.pol s.mx s.line v := by obtain ⟨L, h1, _⟩ := h; exact h1.cell
theorem SerAt.all64 {w : World} {b : Nat} {sz : Int} {s : Ser} (h : SerAt w b sz s) : All64 s.z := by
  obtain ⟨L, ⟨a, cap, hs, hp, hk⟩, _, e⟩ := h; rw [← e]; exact hk.all64
def insS (s : Ser) (T V p : Int) : Ser := if (newV s.z T V p).2 = 0 then ⟨s.ret, s.pol, s.mx, s.line, insL s.z T (newV s.z T V p).1⟩ else s
def PutP (b : Nat) (sz er : Int) (s' : Ser) (w : World) (e : Ending) (w' : World) : Prop := e = .returned (.int .i64 er) ∧ SerAt w' b sz s' ∧ w.grownBy w' (some b)
theorem put_none (b : Nat) (sz : Int) (s : Ser) (T V p : Int) (w : World) (h : SerAt w b sz s) (hs : 128 ≤ sz) (hs2 : sz ≤ 4096) (h0 : s.z = []) (hT0 : 0 ≤ T) (hT1 : T < 1099511627776) (hV : in64 V) :
    Calls Tryz.prog 201 #[.pointer (some ⟨b, 0, none⟩), .agg #[.int .i64 T, .int .i64 V], .int .i64 p] w (PutP b sz (newV s.z T V p).2 (insS s T V p) w) := by
  have hE : newV s.z T V p = (V, 0) := by rw [h0]; simp [newV, bef, upt, cnt]
  have HI := hid (show insS s T V p = ⟨s.ret, s.pol, s.mx, s.line, [(T, V)]⟩ from by
    unfold insS; rw [hE, if_pos rfl, h0]; simp [insL, bef, upt, cnt])
  rw [hE, HI.out]
  obtain ⟨L, ⟨a, cap, hc, hp, hk⟩, hg, hf⟩ := h
  have hL : L = [] := by
    cases L with
    | nil => rfl
    | cons x l =>
      exfalso
      rw [h0] at hf
      have := (hg.1 x.2 (by simp [zs])).1
      simp [zs] at hf
      exact this hf.1
  subst hL
  have hblt := hc.lt
  have HC := hid hc
  have B0 := (Below.refl w.heap.size w).alloc (Nat.le_refl _) (.cells #[.int .i64 T, .int .i64 V] 27)
  have hn0 := heap_new w (.cells #[.int .i64 T, .int .i64 V] 27)
  have s0 : w.heap.size < (w.alloc (.cells #[.int .i64 T, .int .i64 V] 27)).heap.size := by simp
  clear hE h0 hp hk hf hc hg
  have cw : w.cell? ⟨b, 5, none⟩ = some (.slice a 0 cap) := by rw [cell_of HC.out]; rfl
  go_enter Tryz.func201, Tryz.ntmps201
  go_wp2_with fail
  generalize w.alloc (.cells #[.int .i64 T, .int .i64 V] 27) = W0 at *
  have HCW : Hid (∀ W : World, Below w.heap.size w W → W.heap[b]? = some (.cells #[.int .i64 sz, .int .i64 s.ret, .int .i64 s.pol, .int .i64 s.mx, .int .i64 s.line, .slice a 0 cap] 118 (0, 0))) := hid (fun W hW => (hW.block b hblt).trans HC.out)
  have c0 : W0.cell? ⟨b, 0, none⟩ = some (.int .i64 sz) := by rw [cell_of (HCW.out _ B0)]; rfl
  have t0 : W0.cell? ⟨w.heap.size, 0, none⟩ = some (.int .i64 T) := by rw [cell_of hn0]; rfl
  have t1 : W0.cell? ⟨w.heap.size, 1, none⟩ = some (.int .i64 V) := by rw [cell_of hn0]; rfl
  clear cw
  have B0D : Below w.heap.size w W0.drew := B0.drew
  go_region_with
    (first
      | (go_at_call 229
         (with_reducible refine (alone_any sz T V _ hs hs2 hT0 hT1 hV).mono ?_)
         rintro e W2 ⟨o2, rfl, ho2, k2, b2⟩
         have b2' : Below W0.drew.heap.size W0.drew W2 := b2
         have B2 := hid (B0D.trans (b2'.mono B0D.size))
         have H2 := hid (HCW.out W2 B2.out)
         have c2 : W2.cell? ⟨b, 5, none⟩ = some (.slice a 0 cap) := by rw [cell_of H2.out]; rfl
         have f2 := frozen_of (o := 5) H2.out
         have hb2 : b < W2.heap.size := heap_lt H2.out
         have K2 := hid k2
         clear b2 b2' k2))
  all_goals
    have H3 := hid (heap_old (o := .cells #[ptr o2] 119) H2.out)
    have HK3 := hid ((Chs.one K2.out).keepN (World.grownBy_alloc W2 (.cells #[ptr o2] 119) none))
    have G3 := hid (gb_set (b := b) (gb_alloc (gb_below (row := some b) B2.out) (.cells #[ptr o2] 119)) 5 (.slice (some ⟨W2.heap.size, 0, none⟩) 1 1))
    have HS3 := hid (SMem.set (w := W2.alloc (.cells #[ptr o2] 119)) (L := [(o2, [(T, V)])]) (n := 1) (cap := 1) H3.out rfl (Ptrs.one W2 o2) HK3.out)
    have HG := hid (show Good sz [[(T, V)]] from ⟨fun z hz => by simp at hz; subst hz; exact ⟨by simp, fit_one hs _ (by simp)⟩, trivial⟩)
    clear c2 f2 c0 t0 t1 hn0
    unfold ptr at H3 HK3 G3 HS3
    rw [World.setCell_alloc_past _ _ _ _ hb2] at G3 HS3
    go_wp2
    go_ret
    exact ⟨rfl, ⟨[(o2, [(T, V)])], HS3.out, HG.out, rfl⟩, G3.out⟩
def WithQ (b : Nat) (sz : Int) (z : List (Int × Int)) (T vv er : Int) (w : World) (e : Ending) (w' : World) : Prop :=
  ∃ v, e = .returned (.tuple #[v, .int .i64 er]) ∧ w.grownBy w' (some b) ∧ (er = 0 → ∃ L, PRow w' w.heap.size v (bl L) ∧ Chs w' sz L ∧ (zs L).flatten = insL z T vv ∧ (∀ x ∈ zs L, Fit sz x) ∧ L.length ≤ z.length + 1)
theorem with_q (sz : Int) (hs : 128 ≤ sz) (hs2 : sz ≤ 4096) (T V p vv er : Int) (hT0 : 0 ≤ T) (hT1 : T < 1099511627776) (hV : in64 V) (hp : 1 ≤ p ∧ p ≤ 6) (b : Nat) (z : List (Int × Int)) (w : World) (hE : newV z T V p = (vv, er)) (hl : z.length ≤ 262144) (h : PCk w b sz z) (hr : Rising z) (hf : Fit sz z) :
    Calls Tryz.prog 262 #[.pointer (some ⟨b, 0, none⟩), .agg #[.int .i64 T, .int .i64 V], .int .i64 p] w (WithQ b sz z T vv er w) := by
  refine (with_any sz hs hs2 T V p hT0 hT1 hV hp z.length b z w (Nat.le_refl _) hl h hr hf).mono ?_
  intro e w' hw
  unfold WithP at hw
  rw [hE] at hw
  rcases hw with ⟨h1, ⟨v, rfl⟩, g⟩ | ⟨h1, v, L, rfl, r, k, hz, hfit, _, _, hlen, g⟩
  · exact ⟨v, rfl, g, fun h => absurd h h1⟩
  · exact ⟨v, by rw [show er = 0 from h1], g, fun _ => ⟨L, r, k, hz, hfit, hlen⟩⟩
theorem replace_at (b : Nat) (sz ret pol mx line : Int) (A B C P : List (Nat × List (Int × Int))) (i j : Int) (ap : Option Addr) (np cp : Nat) (Z : List (List (Int × Int))) (z : List (Int × Int)) (w : World) (hi : (A.length : Int) = i) (hj : ((A.length + B.length : Nat) : Int) = j) (hnp : P.length = np) (hZ : replL sz (zs A) (zs P) (zs C) = Z)
    (hz : z = (zs A).flatten ++ (zs P).flatten ++ (zs C).flatten) (h : SMem w b sz ret pol mx line (A ++ B ++ C)) (hp : Ptrs w ap np cp (bl P)) (hcp : Chs w sz P) (hs : 128 ≤ sz) (hs2 : sz ≤ 4096) (hr : Rising z) (hn : z.length ≤ 262144) (hl : (A ++ B ++ C).length ≤ 262144) (hlp : np ≤ 200000) :
    Calls Tryz.prog 144 #[.pointer (some ⟨b, 0, none⟩), .int .i64 i, .int .i64 j, .slice ap np cp] w (ReplP b sz ret pol mx line Z w) := by
  subst hi hj hnp hZ hz
  exact replace_any b sz ret pol mx line A B C P ap cp w h hp hcp hs hs2 hr hn hl hlp
theorem put_some (b : Nat) (sz : Int) (s : Ser) (T V p : Int) (w : World) (h : SerAt w b sz s) (hs : 128 ≤ sz) (hs2 : sz ≤ 4096) (hr : Rising s.z) (h0 : s.z ≠ []) (hn : s.z.length ≤ 100000) (hT0 : 0 ≤ T) (hT1 : T < 1099511627776) (hV : in64 V) (hp : 1 ≤ p ∧ p ≤ 6) :
    Calls Tryz.prog 201 #[.pointer (some ⟨b, 0, none⟩), .agg #[.int .i64 T, .int .i64 V], .int .i64 p] w (PutP b sz (newV s.z T V p).2 (insS s T V p) w) := by
  obtain ⟨L, hM, hg, hf⟩ := h
  have HM := hid hM
  have hSer : SerAt w b sz s := ⟨L, hM, hg, hf⟩
  have HSer := hid hSer
  obtain ⟨a, cap, hc, hpt, hk⟩ := hM
  have hne := good_ne hg
  have hrz : Rising (zs L).flatten := by rw [hf]; exact hr
  have hLn : (zs L).length ≤ s.z.length := by rw [← hf]; exact flat_ge hne
  have hL0 : 0 < (zs L).length := by
    cases hz : zs L with
    | nil => rw [hz] at hf; exact absurd hf.symm h0
    | cons x l => simp
  obtain ⟨hk1, hk2, hk3⟩ := put_place hrz hne hL0 T
  obtain ⟨hv, hi⟩ := put_flat hrz hne hL0 T V p
  rw [hf] at hv hi
  have HV := hid hv
  have HI := hid hi
  rw [zs_len] at hLn hL0 hk1
  have hq := hk.get (i := begL (zs L) T - 1) hk1
  have hch : (zs L).getD (begL (zs L) T - 1) [] ∈ zs L := by rw [chunk_get (by rw [zs_len]; exact hk1)]; exact List.getElem_mem _
  have hchr : Rising ((zs L).getD (begL (zs L) T - 1) []) := flat_rising hrz hch
  have hchf : Fit sz ((zs L).getD (begL (zs L) T - 1) []) := (hg.1 _ hch).2
  have hchl : ((zs L).getD (begL (zs L) T - 1) []).length ≤ 100000 := by have := flat_len_get (zs L) (begL (zs L) T - 1); rw [hf] at this; omega
  obtain ⟨rp, ro, rfl, hrp, x0⟩ := hpt.at_ (begL (zs L) T - 1) (by rw [← bl_len]; rw [bl_len]; exact hk1)
  have hbeg := begL_le (zs L) T
  rw [zs_len] at hbeg
  have HL := hid (split_at (Z := zs L) (k := begL (zs L) T - 1) (by rw [zs_len]; exact hk1))
  have hblt := hc.lt
  have HC := hid hc
  have HPT := hid hpt
  have HK := hid hk
  have HF := hid hf
  have HG := hid hg
  have HRZ := hid hrz
  have HNE := hid hne
  have B0 := (Below.refl w.heap.size w).alloc (Nat.le_refl _) (.cells #[.int .i64 T, .int .i64 V] 27)
  have hn0 := heap_new w (.cells #[.int .i64 T, .int .i64 V] 27)
  have s0 : w.heap.size < (w.alloc (.cells #[.int .i64 T, .int .i64 V] 27)).heap.size := by simp
  have hlz : (zs L).flatten.length ≤ 1048576 := by rw [hf]; omega
  have HR0 := hid hr
  clear hk1 hk2 hk3 hv hi hc hpt hk hf hg hrz hne hSer h0 hr
  unfold ptr at x0
  obtain ⟨k, hkk⟩ : ∃ k, begL (zs L) T - 1 = k := ⟨_, rfl⟩
  rw [hkk] at hq hch hchr hchf hchl x0 HV HI HL
  obtain ⟨bg, hbg⟩ : ∃ bg, begL (zs L) T = bg := ⟨_, rfl⟩
  rw [hbg] at hkk hbeg
  have HKK := hid hkk
  have HBG := hid hbg
  have hkL : k < L.length := by omega
  obtain ⟨y, hy⟩ : ∃ y, (zs L).getD k [] = y := ⟨_, rfl⟩
  obtain ⟨q, hqq⟩ : ∃ q, (bl L).getD k 0 = q := ⟨_, rfl⟩
  rw [hy] at hq hch hchr hchf hchl HV HI HL
  rw [hqq] at hq x0
  have HQ := hid hq
  have HCF := hid hchf
  have HCR := hid hchr
  have HCM := hid hch
  clear hkk hbg hy hqq hq hchf hchr hch
  obtain ⟨vv, er, hNV⟩ : ∃ vv er, newV y T V p = (vv, er) := ⟨_, _, rfl⟩
  have HNV := hid hNV
  have HRES : Hid ((er ≠ 0 → (newV s.z T V p).2 = er ∧ insS s T V p = s) ∧ (er = 0 → (newV s.z T V p).2 = 0 ∧ insS s T V p = ⟨s.ret, s.pol, s.mx, s.line, insL s.z T vv⟩)) := hid (by
    have h1 : newV s.z T V p = (vv, er) := HV.out.trans hNV
    refine ⟨fun h => ⟨by rw [h1], by unfold insS; rw [h1, if_neg h]⟩, fun h => ⟨by rw [h1]; exact h, by unfold insS; rw [h1, if_pos h]⟩⟩)
  clear hNV
  have HCW : Hid (∀ W : World, Below w.heap.size w W → W.cell? ⟨b, 5, none⟩ = some (.slice (some ⟨rp, ro, none⟩) L.length cap)) := hid (fun W hW => by rw [hW.cell hblt, cell_of HC.out]; rfl)
  have HXW : Hid (∀ W : World, Below w.heap.size w W → W.cell? ⟨rp, ro + k, none⟩ = some (.pointer (some ⟨q, 0, none⟩))) := hid (fun W hW => by rw [hW.cell hrp]; exact x0)
  have cw : w.cell? ⟨b, 5, none⟩ = some (.slice (some ⟨rp, ro, none⟩) L.length cap) := HCW.out w (Below.refl _ _)
  clear x0
  obtain ⟨NL, hNL⟩ : ∃ NL, L.length = NL := ⟨_, rfl⟩
  rw [hNL] at cw HCW HC HPT hkL hLn hL0 hbeg
  have HNL := hid hNL
  clear hNL
  have hNL0 : ((NL : Int) == 0) = false := by rw [beq_eq_false_iff_ne]; omega
  go_enter Tryz.func201, Tryz.ntmps201
  go_wp2_with fail
  generalize w.alloc (.cells #[.int .i64 T, .int .i64 V] 27) = W0 at *
  have HTW : Hid (∀ W : World, Below W0.heap.size W0 W → W.cell? ⟨w.heap.size, 0, none⟩ = some (.int .i64 T) ∧ W.cell? ⟨w.heap.size, 1, none⟩ = some (.int .i64 V)) := hid (fun W hW => ⟨by rw [hW.cell s0, cell_of hn0]; rfl, by rw [hW.cell s0, cell_of hn0]; rfl⟩)
  have HBW : Hid (∀ W : World, Below W0.heap.size W0 W → Below w.heap.size w W) := hid (fun W hW => B0.trans (hW.mono B0.size))
  clear cw hn0
  have t0 := (HTW.out W0 (Below.refl _ _)).1
  have c0 := HCW.out W0 B0
  go_cut [7] (fun s7 wx => s7 = .int .i64 (k : Int) ∧ Below W0.heap.size W0 wx)
  case first =>
    have hkk := HKK.out
    have hd : ((bg : Int) - 1 ≤ 0 ∧ (k : Int) = 0) ∨ (¬ ((bg : Int) - 1 ≤ 0) ∧ (k : Int) = (bg : Int) - 1) := by omega
    have B0D : Below w.heap.size w W0.drew := B0.drew
    have HPD := hid (HPT.out.keepB B0D)
    have HKD := hid (HK.out.keepB B0D)
    clear hkk
    have hwr : IntKind.i64.wrap ((bg : Int) - 1) = (bg : Int) - 1 := IntWalk.i64_in _ ⟨by omega, by omega⟩
    rcases hd with ⟨hd, hkv⟩ | ⟨hd, hkv⟩
    all_goals
      have HKV := hid hkv
      clear hkv
      go_region_held3 (fun w' => w'.cell? ⟨b, 5, none⟩ = some (.slice (some ⟨rp, ro, none⟩) NL cap) ∧ w'.cell? ⟨w.heap.size, 0, none⟩ = some (.int .i64 T))
        (first
          | (exact ⟨HCW.out _ (HBW.out _ B6.out), (HTW.out _ B6.out).1⟩)
          | (exact ⟨HCW.out _ B0D, (HTW.out _ (drew_below ⟨1, rfl⟩)).1⟩)
          | go_keep)
        (first
          | (go_at_call 135
             (with_reducible refine (begun_any (some ⟨rp, ro, none⟩) NL cap L sz T _ HPD.out HKD.out (by omega) hlz HRZ.out HNE.out (by omega)).mono ?_)
             rintro e W6 ⟨rfl, b6⟩
             rw [HBG.out]
             have B6 : Hid (Below W0.heap.size W0 W6) := hid ((drew_below (w := W0) (w' := W0.drew) ⟨1, rfl⟩).trans b6)
             clear b6))
      go_wp2_with fail
      go_meet
      exact ⟨by rw [HKV.out], B6.out⟩
  case rest =>
    obtain ⟨rfl, B1⟩ := hcut
    generalize wc = W1 at *
    have B1w := HBW.out _ B1
    have c1 := HCW.out _ B1w
    have x1 := HXW.out _ B1w
    have t1 := HTW.out _ B1
    have B1D : Below W0.heap.size W0 W1.drew := B1.drew
    have HQD : Hid (PCk W1.drew q sz y) := hid (CAt.keepB HQ.out (HBW.out _ B1D))
    have hk0 : (0 : Int) ≤ (k : Int) := by omega
    have hk1 : (k : Int) < (NL : Int) := by omega
    go_wp2_with fail
    go_region_held3 (fun w' => (w'.cell? ⟨b, 5, none⟩ = some (.slice (some ⟨rp, ro, none⟩) NL cap) ∧ w'.cell? ⟨rp, ro + k, none⟩ = some (.pointer (some ⟨q, 0, none⟩))) ∧ (w'.cell? ⟨w.heap.size, 0, none⟩ = some (.int .i64 T) ∧ w'.cell? ⟨w.heap.size, 1, none⟩ = some (.int .i64 V)))
      (first
        | (exact ⟨⟨HCW.out _ (HBW.out _ B7.out), HXW.out _ (HBW.out _ B7.out)⟩, HTW.out _ B7.out⟩)
        | (exact ⟨⟨HCW.out _ (HBW.out _ B6.out), HXW.out _ (HBW.out _ B6.out)⟩, HTW.out _ B6.out⟩)
        | (exact ⟨⟨HCW.out _ (HBW.out _ B1D), HXW.out _ (HBW.out _ B1D)⟩, HTW.out _ B1D⟩)
        | go_keep)
      (first
        | (go_at_call 128
           (with_reducible refine (copy_ok q sz y _ HQD.out (by omega) (by omega)).mono ?_)
           rintro e W6 ⟨o6, rfl, ho6, k6, b6⟩
           have B6 : Hid (Below W0.heap.size W0 W6) := hid (B1D.trans (b6.mono B1D.size))
           have K6 := hid k6
           have HO6 : Hid (W0.heap.size ≤ o6) := hid (Nat.le_trans B1D.size ho6)
           clear b6 k6 ho6)
        | (go_at_call 262
           (with_reducible refine (with_q sz hs hs2 T V p vv er hT0 hT1 hV hp o6 y _ HNV.out (by omega) K6.out HCR.out HCF.out).mono ?_)
           rintro e W7 ⟨v7, rfl, g7, h7⟩
           have B7 : Hid (Below W0.heap.size W0 W7) := hid (bel_gb B6.out B6.out.size HO6.out g7)
           have H7 := hid h7
           clear h7 g7))
    by_cases her : er = 0
    · have HR := hid (HRES.out.2 her)
      subst her
      obtain ⟨P, r7, ch7, hz7, hfit7, hl7⟩ := H7.out rfl
      obtain ⟨a7, cap7, rfl, P7⟩ := r7.shape
      rw [bl_len] at P7 ⊢
      obtain ⟨np, hnp⟩ : ∃ np, P.length = np := ⟨_, rfl⟩
      rw [hnp] at P7 hl7 ⊢
      have HNP := hid hnp
      have HP7 := hid P7
      have HC7 := hid ch7
      have HZ7 := hid hz7
      have HF7 := hid hfit7
      have HM7 := hid (HM.out.keepB (HBW.out _ B7.out))
      clear r7 P7 ch7 hz7 hfit7 hnp H7
      have hsp : L = L.take k ++ [L[k]'(by rw [HNL.out]; exact hkL)] ++ L.drop (k + 1) := by
        conv => lhs; rw [← List.take_append_drop k L, List.drop_eq_getElem_cons (by rw [HNL.out]; exact hkL)]
        simp
      have HEQ := hid (show insL s.z T vv = (zs (L.take k)).flatten ++ (zs P).flatten ++ (zs (L.drop (k + 1))).flatten from by rw [HI.out, HZ7.out, zs_take, zs_drop])
      have HLN := hid (show (insL s.z T vv).length ≤ 100001 from by rw [insL_length _ _ _ HR0.out]; omega)
      have HGA := hid (show Good sz (zs (L.take k)) from by rw [zs_take]; exact good_left (y := (zs L).drop k) (by rw [List.take_append_drop]; exact HG.out))
      have HGC := hid (show Good sz (zs (L.drop (k + 1))) from by rw [zs_drop]; exact good_right (x := (zs L).take (k + 1)) (by rw [List.take_append_drop]; exact HG.out))
      have HLA := hid (show (L.take k).length = k from by rw [List.length_take, HNL.out]; omega)
      have HM8 : Hid (SMem W7 b sz s.ret s.pol s.mx s.line (L.take k ++ [L[k]'(by rw [HNL.out]; exact hkL)] ++ L.drop (k + 1))) := hid (by rw [← hsp]; exact HM7.out)
      have HLS := hid (show (L.take k ++ [L[k]'(by rw [HNL.out]; exact hkL)] ++ L.drop (k + 1)).length ≤ 262144 from by rw [← hsp, HNL.out]; omega)
      have HMD : Hid ((L.take k).length + [L[k]'(by rw [HNL.out]; exact hkL)].length = k + 1) := hid (by rw [HLA.out]; rfl)
      generalize [L[k]'(by rw [HNL.out]; exact hkL)] = MD at *
      have HRI := hid (insL_rising HR0.out T vv)
      go_wp2_with fail
      refine (replace_at b sz s.ret s.pol s.mx s.line (L.take k) MD (L.drop (k + 1)) P _ _ a7 np cap7 _ _ W7 (by rw [HLA.out]) (by rw [HMD.out]; push_cast; rfl) HNP.out rfl HEQ.out HM8.out HP7.out HC7.out hs hs2 HRI.out (by have := HLN.out; omega) HLS.out (by omega)).mono ?_
      rintro e W8 ⟨⟨v8, rfl⟩, ⟨L8, M8, z8⟩, g8⟩
      have HS8 := hid (show SerAt W8 b sz ⟨s.ret, s.pol, s.mx, s.line, insL s.z T vv⟩ from ⟨L8, M8, by rw [z8]; exact repl_good hs HGA.out HGC.out HF7.out, by rw [z8, repl_flat]; exact HEQ.out.symm⟩)
      have G8 := hid (gb_trans (gb_below (row := some b) (HBW.out _ B7.out)) g8)
      clear M8 z8 g8
      go_wp2
      go_ret
      exact ⟨by rw [HR.out.1]; rfl, by rw [HR.out.2]; exact HS8.out, G8.out⟩
    · have heb : (er != 0) = true := by simpa using her
      have heb2 : (er == 0) = false := by simpa using her
      have HR := hid (HRES.out.1 her)
      clear her
      go_wp2
      go_ret
      exact ⟨by rw [HR.out.1]; rfl, by rw [HR.out.2]; exact HSer.out.keepB (HBW.out _ B7.out), gb_below (HBW.out _ B7.out)⟩
theorem put_any (b : Nat) (sz : Int) (s : Ser) (T V p : Int) (w : World) (h : SerAt w b sz s) (hs : 128 ≤ sz) (hs2 : sz ≤ 4096) (hr : Rising s.z) (hn : s.z.length ≤ 100000) (hT0 : 0 ≤ T) (hT1 : T < 1099511627776) (hV : in64 V) (hp : 1 ≤ p ∧ p ≤ 6) :
    Calls Tryz.prog 201 #[.pointer (some ⟨b, 0, none⟩), .agg #[.int .i64 T, .int .i64 V], .int .i64 p] w (PutP b sz (newV s.z T V p).2 (insS s T V p) w) := by
  by_cases h0 : s.z = []
  · exact put_none b sz s T V p w h hs hs2 h0 hT0 hT1 hV
  · exact put_some b sz s T V p w h hs hs2 hr h0 hn hT0 hT1 hV hp
structure Ts (F : Nat → Prop) (w w' : World) : Prop where
  tu : Tu F w w'
  cells : ∀ (i : Nat) (c : Array Value) (t : TypeId) (f : Nat × Nat), t ≠ 118 → t ≠ 32 → w.heap[i]? = some (.cells c t f) → w'.heap[i]? = some (.cells c t f)
theorem Ts.refl (F : Nat → Prop) (w : World) : Ts F w w := ⟨.refl F w, fun _ _ _ _ _ _ h => h⟩
theorem Ts.of {F : Nat → Prop} {w w' : World} (h : Below w.heap.size w w') : Ts F w w' := ⟨.of h, fun i c t f _ _ e => (h.block i (heap_lt e)).trans e⟩
theorem Ts.size {F : Nat → Prop} {w w' : World} (h : Ts F w w') : w.heap.size ≤ w'.heap.size := h.tu.size
theorem Ts.block {F : Nat → Prop} {w w' : World} (h : Ts F w w') {i : Nat} (hi : i < w.heap.size) (hf : ¬ F i) : w'.heap[i]? = w.heap[i]? := h.tu.block i hi hf
theorem Ts.trans {F G : Nat → Prop} {a b c : World} (h : Ts F a b) (k : Ts G b c) (hG : ∀ i, i < a.heap.size → G i → F i) : Ts F a c :=
  ⟨h.tu.trans k.tu hG, fun i x t f h1 h2 e => k.cells i x t f h1 h2 (h.cells i x t f h1 h2 e)⟩
theorem Ts.mono {F G : Nat → Prop} {a b : World} (h : Ts F a b) (hG : ∀ i, i < a.heap.size → F i → G i) : Ts G a b := ⟨h.tu.mono hG, h.cells⟩
theorem Ts.thenB {F : Nat → Prop} {a b c : World} (h : Ts F a b) (k : Below b.heap.size b c) : Ts F a c := h.trans (G := fun _ => False) (.of k) (fun _ _ g => g.elim)
theorem Ts.afterB {F : Nat → Prop} {a b c : World} (k : Below a.heap.size a b) (h : Ts F b c) : Ts F a c := (Ts.of (F := F) k).trans h (fun _ _ g => g)
theorem Ts.trn {F : Nat → Prop} {w w' : World} (t : Trn F w w') : Ts F w w' := ⟨⟨t.os, t.tape, t.output, t.size, t.block⟩, fun i c ty f _ _ e => t.cells i c ty f e⟩
theorem Ts.kind {F : Nat → Prop} {w w' : World} (t : Tu F w w') (hk : ∀ i, i < w.heap.size → F i → KindU w i) : Ts F w w' := ⟨t, fun i c ty f h1 h2 e => by
  by_cases hf : F i
  · rcases hk i (heap_lt e) hf with ⟨es, cl, h⟩ | ⟨cs, g, h⟩
    · rw [h] at e; cases e
    · rw [h] at e; cases e; exact absurd rfl h2
  · exact (t.block i (heap_lt e) hf).trans e⟩
theorem SerAt.cellS {w : World} {b : Nat} {sz : Int} {s : Ser} (h : SerAt w b sz s) : ∃ cs, w.heap[b]? = some (.cells cs 118 (0, 0)) := by
  obtain ⟨L, ⟨a, cap, hc, _⟩, _⟩ := h
  exact ⟨_, hc⟩
theorem Ts.ser {w w' : World} {b : Nat} {sz : Int} {s : Ser} (h : SerAt w b sz s) (g : w.grownBy w' (some b)) : Ts (fun i => i = b) w w' := ⟨.gb g rfl, fun i c ty f h1 h2 e => by
  by_cases hb : i = b
  · subst hb
    obtain ⟨cs, hs⟩ := h.cellS
    rw [hs] at e; cases e; exact absurd rfl h1
  · exact (g.block i (heap_lt e) (by simpa using hb)).trans e⟩
theorem Ts.gr {w w' : World} {x bi bf : Nat} {F F' : Nat → Prop} {L L' : List Ru} (h : GrAt w x bi bf F L) (t : GrTurn w w' x bi bf F F' L') : Ts F w w' := .kind t.tu (fun i _ f => h.kind i f)
theorem Ts.ix {w w' : World} {x bl bn : Nat} {ρ ρ' : Rho} {E' : List Ent} (t : IxTurn w w' x bl bn ρ ρ' E') : Ts (FA ρ) w w' := .trn t.trn
theorem Ts.map {w w' : World} {b : Nat} {L L' : List (Tx × Value)} (h : MapAt w b L) (g : w.grownBy w' (some b)) : Ts (fun i => i = b) w w' := .trn (.map g rfl h.isMap)
theorem Ts.below {F : Nat → Prop} {B : Nat} {w0 w w' : World} (hb : Below B w0 w) (hB : B ≤ w.heap.size) (h : Ts F w w') (hF : ∀ i, i < B → ¬ F i) : Below B w0 w' := h.tu.below hb hB hF
theorem Ts.samp {F : Nat → Prop} {w w' : World} (t : Ts F w w') {a : Option Addr} {len cap : Nat} {z : List (Int × Int)} (h : Lst w a len cap z) : Lst w' a len cap z := by
  obtain ⟨⟨a1, a2, a3, a4, a5⟩, h2⟩ := h
  rcases h2 with h0 | ⟨x, cs, f, rfl, hx⟩
  · exact ⟨⟨a1, a2, a3, a4, .inl h0⟩, .inl h0⟩
  · have e := t.cells _ _ _ _ (by decide) (by decide) hx
    refine ⟨⟨a1, a2, a3, a4, ?_⟩, .inr ⟨x, cs, f, rfl, e⟩⟩
    rcases a5 with h0 | ⟨b, off, e5, hb, hc⟩
    · exact .inl h0
    · simp only [Option.some.injEq] at e5
      subst e5
      refine .inr ⟨b, off, rfl, Nat.lt_of_lt_of_le hb t.size, fun i hi => ?_⟩
      have hcell : ∀ p : Addr, p.block = b → w'.cell? p = w.cell? p := fun p hp => by
        refine World.cell?_of_block ?_
        rw [hp]; exact e.trans hx.symm
      rw [hcell _ rfl, hcell _ rfl]; exact hc i hi
theorem Ts.ptrs {F : Nat → Prop} {w w' : World} (t : Ts F w w') {a : Option Addr} {len cap : Nat} {l : List Nat} (h : Ptrs w a len cap l) : Ptrs w' a len cap l := by
  obtain ⟨h1, h2, h3, h4⟩ := h
  refine ⟨h1, h2, h3, ?_⟩
  rcases h4 with h0 | ⟨b, off, cs, f, e, hb, hc⟩
  · exact .inl h0
  · exact .inr ⟨b, off, cs, f, e, t.cells _ _ _ _ (by decide) (by decide) hb, hc⟩
theorem Ts.chs {F : Nat → Prop} {w w' : World} (t : Ts F w w') {sz : Int} {L : List (Nat × List (Int × Int))} (h : Chs w sz L) : Chs w' sz L := fun x hx => by
  obtain ⟨a, cap, hc, hl⟩ := h x hx
  exact ⟨a, cap, t.cells _ _ _ _ (by decide) (by decide) hc, t.samp hl⟩
theorem SerAt.ts {F : Nat → Prop} {w w' : World} {b : Nat} {sz : Int} {s : Ser} (h : SerAt w b sz s) (t : Ts F w w') (hb : ¬ F b) : SerAt w' b sz s := by
  obtain ⟨L, ⟨a, cap, hc, hp, hk⟩, h2⟩ := h
  exact ⟨L, ⟨a, cap, (t.block hc.lt hb).trans hc, t.ptrs hp, t.chs hk⟩, h2⟩
theorem Ts.lbTy {F : Nat → Prop} {w w' : World} (t : Ts F w w') {a : Option Addr} {l : List Lb} (h : LbTy w a l) : LbTy w' a l := by
  rcases h with h | ⟨b, off, cs, f, e, k⟩
  · exact .inl h
  · exact .inr ⟨b, off, cs, f, e, t.cells _ _ _ _ (by decide) (by decide) k⟩
theorem Ts.lbAt {F : Nat → Prop} {w w' : World} (t : Ts F w w') {a : Option Addr} {n c : Nat} {l : List Lb} (h : LbAt w a n c l) (y : LbTy w a l) : LbAt w' a n c l := by
  obtain ⟨h1, h2, h3, h5⟩ := h
  refine ⟨h1, h2, h3, ?_⟩
  rcases h5 with h0 | ⟨b, off, rfl, hlt, hc⟩
  · exact .inl h0
  · rcases y with rfl | ⟨b', off', cs, f, e, k⟩
    · exact .inl (by rw [← h1]; rfl)
    · cases e
      refine .inr ⟨b, off, rfl, Nat.lt_of_lt_of_le hlt t.size, fun i hi => ?_⟩
      have hcell : ∀ p : Addr, p.block = b → w'.cell? p = w.cell? p := fun p hp => by
        refine World.cell?_of_block ?_
        rw [hp]; exact (t.cells _ _ _ _ (by decide) (by decide) k).trans k.symm
      rw [hcell _ rfl, hcell _ rfl]; exact hc i hi
theorem Ts.lbV {F : Nat → Prop} {w w' : World} (t : Ts F w w') {v : Value} {l : List Lb} (h : LbV w v l) : LbV w' v l := by
  obtain ⟨a, c, e, k, y⟩ := h
  exact ⟨a, c, e, t.lbAt k y, t.lbTy y⟩
theorem IxAt.ts {F : Nat → Prop} {w w' : World} {x bl bn : Nat} {ρ : Rho} {E : List Ent} (h : IxAt w x bl bn ρ E) (t : Ts F w w') (hF : ∀ i, i < w.heap.size → FA ρ i → ¬ F i) : IxAt w' x bl bn ρ E := by
  refine ⟨t.cells _ _ _ _ (by decide) (by decide) h.cell, h.rl, h.rn, ?_, ?_, fun i r e => ?_, h.good⟩
  · obtain ⟨T, h1, h2, h3⟩ := h.labs
    exact ⟨T, h1.same (t.block h1.lt (hF bl h1.lt (by unfold FA; rw [h.rl]; simp))), h2, fun p hp => t.lbV (h3 p hp)⟩
  · exact h.nams.same (t.block h.nams.lt (hF bn h.nams.lt (by unfold FA; rw [h.rn]; simp))) (.refl _ _) (fun c hc f => t.block hc (hF c hc f.a)) (fun _ _ _ => Iff.rfl)
  · obtain ⟨es, c, hb⟩ := h.ok i r e
    exact ⟨es, c, (t.block (heap_lt hb) (hF i (heap_lt hb) (by unfold FA; rw [e]; simp))).trans hb⟩
theorem GrAt.ts {G : Nat → Prop} {w w' : World} {x bi bf : Nat} {F : Nat → Prop} {L : List Ru} (h : GrAt w x bi bf F L) (t : Ts G w w') (hG : ∀ i, F i → ¬ G i) : GrAt w' x bi bf F L := by
  refine ⟨⟨t.cells _ _ _ _ (by decide) (by decide) h.cell, h.mid.nx, h.mid.fi, h.mid.ff, h.mid.ne, fun i f => (h.kind i f).same (t.block (h.lt i f) (hG i f)), h.into.tu t.tu (hG bi h.mid.fi), h.from_.tu t.tu (hG bf h.mid.ff) hG⟩, h.good, h.full.same (t.block h.mid.from_.lt (hG bf h.mid.ff))⟩
theorem sNone_nil (w : World) : Calls Tryz.prog 68 #[.pointer none] w fun e w' => e = .returned (.bool true) ∧ w = w' := by
  go_enter Tryz.func68, Tryz.ntmps68
  go_wp2
  go_ret
  exact ⟨rfl, rfl⟩
theorem sNone_no (b : Nat) (sz ret pol mx line : Int) (v : Value) (w : World) (hc : SCell w b sz ret pol mx line v) (h : 1 ≤ sz) :
    Calls Tryz.prog 68 #[.pointer (some ⟨b, 0, none⟩)] w fun e w' => e = .returned (.bool false) ∧ w = w' := by
  have c0 : w.cell? ⟨b, 0, none⟩ = some (.int .i64 sz) := by rw [cell_of hc]; rfl
  have hne : (sz == 0) = false := by rw [beq_eq_false_iff_ne]; omega
  clear hc
  go_enter Tryz.func68, Tryz.ntmps68
  go_wp2
  go_ret
  exact ⟨rfl, rfl⟩
theorem smax_cell (b : Nat) (sz ret pol mx line : Int) (v : Value) (w : World) (hc : SCell w b sz ret pol mx line v) (h : 1 ≤ sz) :
    Calls Tryz.prog 42 #[.pointer (some ⟨b, 0, none⟩)] w fun e w' => e = .returned (.int .i64 mx) ∧ w = w' := by
  have HC := hid hc
  have c1 : w.cell? ⟨b, 3, none⟩ = some (.int .i64 mx) := by rw [cell_of hc]; rfl
  clear hc
  go_enter Tryz.func42, Tryz.ntmps42
  go_wp2_with fail
  refine (sNone_no b sz ret pol mx line _ _ HC.out h).mono ?_
  rintro e w' ⟨rfl, rfl⟩
  go_wp2
  go_ret
  exact ⟨rfl, rfl⟩
theorem sret_cell (b : Nat) (sz ret pol mx line : Int) (v : Value) (w : World) (hc : SCell w b sz ret pol mx line v) (h : 1 ≤ sz) :
    Calls Tryz.prog 81 #[.pointer (some ⟨b, 0, none⟩)] w fun e w' => e = .returned (.int .i64 ret) ∧ w = w' := by
  have HC := hid hc
  have c1 : w.cell? ⟨b, 1, none⟩ = some (.int .i64 ret) := by rw [cell_of hc]; rfl
  clear hc
  go_enter Tryz.func81, Tryz.ntmps81
  go_wp2_with fail
  refine (sNone_no b sz ret pol mx line _ _ HC.out h).mono ?_
  rintro e w' ⟨rfl, rfl⟩
  go_wp2
  go_ret
  exact ⟨rfl, rfl⟩
theorem spol_cell (b : Nat) (sz ret pol mx line : Int) (v : Value) (w : World) (hc : SCell w b sz ret pol mx line v) (h : 1 ≤ sz) :
    Calls Tryz.prog 82 #[.pointer (some ⟨b, 0, none⟩)] w fun e w' => e = .returned (.int .i64 pol) ∧ w = w' := by
  have HC := hid hc
  have c1 : w.cell? ⟨b, 2, none⟩ = some (.int .i64 pol) := by rw [cell_of hc]; rfl
  clear hc
  go_enter Tryz.func82, Tryz.ntmps82
  go_wp2_with fail
  refine (sNone_no b sz ret pol mx line _ _ HC.out h).mono ?_
  rintro e w' ⟨rfl, rfl⟩
  go_wp2
  go_ret
  exact ⟨rfl, rfl⟩
theorem slist_cell (b : Nat) (sz ret pol mx line : Int) (a : Option Addr) (len cap : Nat) (w : World) (hc : SCell w b sz ret pol mx line (.slice a len cap)) (h : 1 ≤ sz) :
    Calls Tryz.prog 112 #[.pointer (some ⟨b, 0, none⟩)] w fun e w' => e = .returned (.slice a len cap) ∧ w = w' := by
  have HC := hid hc
  have c1 : w.cell? ⟨b, 5, none⟩ = some (.slice a len cap) := by rw [cell_of hc]; rfl
  clear hc
  go_enter Tryz.func112, Tryz.ntmps112
  go_wp2_with fail
  refine (sNone_no b sz ret pol mx line _ _ HC.out h).mono ?_
  rintro e w' ⟨rfl, rfl⟩
  go_wp2
  go_ret
  exact ⟨rfl, rfl⟩
theorem smax_ok (b : Nat) (sz : Int) (s : Ser) (w : World) (h : SerAt w b sz s) (hs : 1 ≤ sz) : Calls Tryz.prog 42 #[.pointer (some ⟨b, 0, none⟩)] w fun e w' => e = .returned (.int .i64 s.mx) ∧ w = w' := by
  obtain ⟨v, hv⟩ := h.cell
  exact smax_cell b sz _ _ _ _ v w hv hs
theorem sret_ok (b : Nat) (sz : Int) (s : Ser) (w : World) (h : SerAt w b sz s) (hs : 1 ≤ sz) : Calls Tryz.prog 81 #[.pointer (some ⟨b, 0, none⟩)] w fun e w' => e = .returned (.int .i64 s.ret) ∧ w = w' := by
  obtain ⟨v, hv⟩ := h.cell
  exact sret_cell b sz _ _ _ _ v w hv hs
theorem spol_ok (b : Nat) (sz : Int) (s : Ser) (w : World) (h : SerAt w b sz s) (hs : 1 ≤ sz) : Calls Tryz.prog 82 #[.pointer (some ⟨b, 0, none⟩)] w fun e w' => e = .returned (.int .i64 s.pol) ∧ w = w' := by
  obtain ⟨v, hv⟩ := h.cell
  exact spol_cell b sz _ _ _ _ v w hv hs
theorem sright_any (p : Int) (w : World) :
    Calls Tryz.prog 200 #[.int .i64 p] w fun e w' => e = .returned (.bool (decide (1 ≤ p ∧ p ≤ 6))) ∧ w = w' := by
  by_cases h : 1 ≤ p
  · by_cases h' : p ≤ 6
    all_goals
      go_enter Tryz.func200, Tryz.ntmps200
      go_wp2
      go_ret
      exact ⟨ret_bool (by simp; omega), rfl⟩
  · go_enter Tryz.func200, Tryz.ntmps200
    go_wp2
    go_ret
    exact ⟨ret_bool (by simp; omega), rfl⟩
theorem sright_is (p : Int) (r : Bool) (w : World) (h : decide (1 ≤ p ∧ p ≤ 6) = r) :
    Calls Tryz.prog 200 #[.int .i64 p] w fun e w' => e = .returned (.bool r) ∧ w = w' := by
  subst h; exact sright_any p w
theorem canKeep_any (ret p : Int) (r : Bool) (w : World) (h : decide (keepB ret p) = r) : Calls Tryz.prog 155 #[.int .i64 ret, .int .i64 p] w fun e w' => e = .returned (.bool r) ∧ w = w' := by
  obtain ⟨q, hq⟩ : ∃ q, decide (1 ≤ p ∧ p ≤ 6) = q := ⟨_, rfl⟩
  have HQ := hid hq
  have HR : Hid (∀ x : Bool, (x = true ↔ ((0 ≤ ret ∧ ret ≤ 1099511627776) ∧ q = true)) → x = r) := hid (fun x hx => by
    rw [← h, Bool.eq_iff_iff, hx, ← hq, decide_eq_true_iff, decide_eq_true_iff]; exact Iff.rfl)
  clear hq h
  by_cases h1 : 0 ≤ ret
  · by_cases h2 : ret ≤ 1099511627776
    · go_enter Tryz.func155, Tryz.ntmps155
      go_wp2_with fail
      refine (sright_is p q _ HQ.out).mono ?_
      rintro e w' ⟨rfl, rfl⟩
      go_wp2
      go_ret
      exact ⟨ret_bool (HR.out _ (by simp [h1, h2])), rfl⟩
    · go_enter Tryz.func155, Tryz.ntmps155
      go_wp2
      go_ret
      exact ⟨ret_bool (HR.out _ (by simp; omega)), rfl⟩
  · go_enter Tryz.func155, Tryz.ntmps155
    go_wp2
    go_ret
    exact ⟨ret_bool (HR.out _ (by simp; omega)), rfl⟩
def newSer (ret p : Int) : Ser := ⟨ret, p, -1, 0, []⟩
theorem Std.new {ret p : Int} (h : keepB ret p) : Std (newSer ret p) :=
  ⟨h.1.1, h.1.2, h.2.1, h.2.2, by show (-1 : Int) ≤ -1; omega, by show (-1 : Int) < _; omega, by show (0 : Int) ≤ 0; omega, by show (0 : Int) ≤ max 0 (-1); omega, .inr (by show (-1 : Int) - ret ≤ 0; have := h.1.1; omega), rising_nil, all64_nil, fun x hx => by simp [newSer] at hx, fun x hx => by simp [newSer] at hx⟩
def SNewP (sz ret p : Int) (w : World) (e : Ending) (w' : World) : Prop := e = .returned (.tuple #[.pointer (some ⟨w'.heap.size - 1, 0, none⟩), .int .i64 0]) ∧ SerAt w' (w'.heap.size - 1) sz (newSer ret p) ∧ w.heap.size ≤ w'.heap.size - 1 ∧ Below w.heap.size w w'
theorem snew_ok (sz ret p : Int) (w : World) (hs : 128 ≤ sz) (hs2 : sz ≤ 4096) (hk : keepB ret p) :
    Calls Tryz.prog 152 #[.int .i64 sz, .int .i64 ret, .int .i64 p] w (SNewP sz ret p w) := by
  have HK := hid (decide_eq_true hk)
  clear hk
  go_enter Tryz.func152, Tryz.ntmps152
  go_wp2_with fail
  refine (cnew_at sz w hs hs2).mono ?_
  rintro e W1 ⟨rfl, _, b1, _⟩
  go_wp2_with fail
  refine (canKeep_any ret p true _ HK.out).mono ?_
  rintro e w' ⟨rfl, rfl⟩
  have HN := hid (heap_new W1 (.cells #[.int .i64 sz, .int .i64 ret, .int .i64 p, .int .i64 (-1), .int .i64 0, .slice none 0 0] 118))
  have HB := hid (b1.alloc b1.size (.cells #[.int .i64 sz, .int .i64 ret, .int .i64 p, .int .i64 (-1), .int .i64 0, .slice none 0 0] 118))
  have HS := hid b1.size
  clear b1
  go_wp2
  go_ret2
  refine ⟨by simp, ⟨[], ⟨none, 0, ?_, Ptrs.nil _, fun x hx => by cases hx⟩, good_nil sz, rfl⟩, ?_, HB.out⟩
  · rw [World.size_alloc, Nat.add_sub_cancel]; exact HN.out
  · rw [World.size_alloc, Nat.add_sub_cancel]; exact HS.out
theorem snew_bad (sz ret p : Int) (w : World) (h : ¬ ((128 ≤ sz ∧ sz ≤ 4096) ∧ keepB ret p)) :
    Calls Tryz.prog 152 #[.int .i64 sz, .int .i64 ret, .int .i64 p] w fun e w' => e = .returned (.tuple #[.pointer none, .int .i64 1]) ∧ Below w.heap.size w w' := by
  by_cases hs : 128 ≤ sz ∧ sz ≤ 4096
  · have HK := hid (show decide (keepB ret p) = false from decide_eq_false (fun hk => h ⟨hs, hk⟩))
    clear h
    go_enter Tryz.func152, Tryz.ntmps152
    go_wp2_with fail
    refine (cnew_at sz w hs.1 hs.2).mono ?_
    rintro e W1 ⟨rfl, _, b1, _⟩
    go_wp2_with fail
    refine (canKeep_any ret p false _ HK.out).mono ?_
    rintro e w' ⟨rfl, rfl⟩
    go_wp2
    go_ret2
    exact ⟨rfl, b1⟩
  · go_enter Tryz.func152, Tryz.ntmps152
    go_wp2_with fail
    refine (cnew_bad sz w hs).mono ?_
    rintro e W1 ⟨rfl, rfl⟩
    go_wp2
    go_ret2
    exact ⟨rfl, Below.refl _ _⟩
end Go.Proofs.YtmifpfojhlmbkaaGreat
