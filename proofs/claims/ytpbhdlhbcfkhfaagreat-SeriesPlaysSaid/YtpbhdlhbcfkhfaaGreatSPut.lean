/-
  Contract of series.put: a sample more in a series.
-/
import Derived.Test.YtpbhdlhbcfkhfaaGreatSSer
import Derived.Test.YtpbhdlhbcfkhfaaGreatSFact
import Derived.Test.YtpbhdlhbcfkhfaaGreatSFind
import Derived.Test.YtpbhdlhbcfkhfaaGreatSWith
import Derived.IntWalk
namespace Go.Proofs.YtpbhdlhbcfkhfaaGreat
open Go.RowKit
set_option linter.unusedVariables false
set_option linter.unusedSimpArgs false

/-- A series in block b. -/
def SerAt (w : World) (b : Nat) (sz : Int) (s : Ser) : Prop := ∃ L, SMem w b sz s.ret s.pol s.mx s.line L ∧ Good sz (zs L) ∧ (zs L).flatten = s.z
theorem SerAt.keepN {w w' : World} {b : Nat} {sz : Int} {s : Ser} (h : SerAt w b sz s) (g : w.grownBy w' none) : SerAt w' b sz s := by
  obtain ⟨L, h1, h2⟩ := h; exact ⟨L, h1.keepN g, h2⟩
theorem SerAt.keepB {w w' : World} {b : Nat} {sz : Int} {s : Ser} (h : SerAt w b sz s) (g : Below w.heap.size w w') : SerAt w' b sz s := h.keepN (gb_below g)
theorem SerAt.lt {w : World} {b : Nat} {sz : Int} {s : Ser} (h : SerAt w b sz s) : b < w.heap.size := by obtain ⟨L, h1, _⟩ := h; exact h1.lt
theorem SMem.cell {w : World} {b : Nat} {sz ret pol mx line : Int} {L : List (Nat × List (Int × Int))} (h : SMem w b sz ret pol mx line L) : ∃ v, SCell w b sz ret pol mx line v := by obtain ⟨a, cap, hc, _⟩ := h; exact ⟨_, hc⟩
theorem SerAt.cell {w : World} {b : Nat} {sz : Int} {s : Ser} (h : SerAt w b sz s) : ∃ v, SCell w b sz s.ret s.pol s.mx s.line v := by obtain ⟨L, h1, _⟩ := h; exact h1.cell
/-- Another block turns, that holds neither samples nor pointers to chunks nor a chunk. -/
theorem SerAt.keep {w w' : World} {b r : Nat} {sz : Int} {s : Ser} (h : SerAt w b sz s) (g : w.grownBy w' (some r)) (hne : b ≠ r) {c : Array Value} {t : TypeId} {f : Nat × Nat} (hc : w.heap[r]? = some (.cells c t f)) (h1 : t ≠ 33) (h2 : t ≠ 46) (h3 : t ≠ 76) : SerAt w' b sz s := by
  obtain ⟨L, ⟨a, cap, hs, hp, hk⟩, h2'⟩ := h
  refine ⟨L, ⟨a, cap, hs.keep g (by simp; omega), hp.keep g (fun q hq => by cases hq; exact noPtr_of hc h2), fun x hx => ?_⟩, h2'⟩
  have hx' := hk x hx
  refine CAt.keep hx' g (fun e => ?_) (noSamp_of hc h1)
  obtain ⟨a', cap', hc', _⟩ := hx'
  rw [e, hc] at hc'
  simp at hc'
  exact h3 hc'.2.1
theorem SerAt.keepS {w w' : World} {b r : Nat} {sz sz' : Int} {s s' : Ser} (h : SerAt w b sz s) (g : w.grownBy w' (some r)) (hne : b ≠ r) (hc : SerAt w r sz' s') : SerAt w' b sz s := by
  obtain ⟨v, hv⟩ := hc.cell
  exact h.keep g hne hv (by decide) (by decide) (by decide)
theorem SerAt.all64 {w : World} {b : Nat} {sz : Int} {s : Ser} (h : SerAt w b sz s) : All64 s.z := by
  obtain ⟨L, ⟨a, cap, hs, hp, hk⟩, _, e⟩ := h; rw [← e]; exact hk.all64

def insS (s : Ser) (T V p : Int) : Ser := if (newV s.z T V p).2 = 0 then ⟨s.ret, s.pol, s.mx, s.line, insL s.z T (newV s.z T V p).1⟩ else s
def PutP (b : Nat) (sz er : Int) (s' : Ser) (w : World) (e : Ending) (w' : World) : Prop := e = .returned (.int .i64 er) ∧ SerAt w' b sz s' ∧ w.grownBy w' (some b)

set_option maxRecDepth 100000 in
set_option maxHeartbeats 2000000 in
theorem put_none (b : Nat) (sz : Int) (s : Ser) (T V p : Int) (w : World) (h : SerAt w b sz s) (hs : 128 ≤ sz) (hs2 : sz ≤ 4096) (h0 : s.z = []) (hT0 : 0 ≤ T) (hT1 : T < 1099511627776) (hV : in64 V) :
    Calls Tryz.prog 23 #[.pointer (some ⟨b, 0, none⟩), .agg #[.int .i64 T, .int .i64 V], .int .i64 p] w (PutP b sz (newV s.z T V p).2 (insS s T V p) w) := by
  have hE : newV s.z T V p = (V, 0) := by rw [h0]; simp [newV, bef, upt, cnt]
  have HI := Lib.hid (show insS s T V p = ⟨s.ret, s.pol, s.mx, s.line, [(T, V)]⟩ from by
    unfold insS; rw [hE, if_pos rfl, h0]; simp [insL, bef, upt, cnt])
  rw [hE, HI.out]
  obtain ⟨L, ⟨a, cap, hc, hp, hk⟩, hg, hf⟩ := h
  have hL : L = [] := by
    cases L with
    | nil => rfl
    | cons x l =>
      exfalso
      rw [h0] at hf
      have := (hg.1 x.2 (by simp [zs])).1
      simp [zs] at hf
      exact this hf.1
  subst hL
  have hblt := hc.lt
  have HC := Lib.hid hc
  have B0 := (Below.refl w.heap.size w).alloc (Nat.le_refl _) (.cells #[.int .i64 T, .int .i64 V] 33)
  have hn0 := heap_new w (.cells #[.int .i64 T, .int .i64 V] 33)
  have s0 : w.heap.size < (w.alloc (.cells #[.int .i64 T, .int .i64 V] 33)).heap.size := by simp
  clear hE h0 hp hk hf hc hg
  have cw : w.cell? ⟨b, 5, none⟩ = some (.slice a 0 cap) := by rw [cell_of HC.out]; rfl
  go_enter Tryz.func23, Tryz.ntmps23
  go_wp2_with fail
  generalize w.alloc (.cells #[.int .i64 T, .int .i64 V] 33) = W0 at *
  have HCW : Hid (∀ W : World, Below w.heap.size w W → W.heap[b]? = some (.cells #[.int .i64 sz, .int .i64 s.ret, .int .i64 s.pol, .int .i64 s.mx, .int .i64 s.line, .slice a 0 cap] 52 (0, 0))) := Lib.hid (fun W hW => (hW.block b hblt).trans HC.out)
  have c0 : W0.cell? ⟨b, 0, none⟩ = some (.int .i64 sz) := by rw [cell_of (HCW.out _ B0)]; rfl
  have t0 : W0.cell? ⟨w.heap.size, 0, none⟩ = some (.int .i64 T) := by rw [cell_of hn0]; rfl
  have t1 : W0.cell? ⟨w.heap.size, 1, none⟩ = some (.int .i64 V) := by rw [cell_of hn0]; rfl
  clear cw
  have B0D : Below w.heap.size w W0.drew := B0.drew
  go_region_with
    (first
      | (go_at_call 49
         (with_reducible refine (alone_any sz T V _ hs hs2 hT0 hT1 hV).mono ?_)
         rintro e W2 ⟨o2, rfl, ho2, k2, b2⟩
         have b2' : Below W0.drew.heap.size W0.drew W2 := b2
         have B2 := Lib.hid (B0D.trans (b2'.mono B0D.size))
         have H2 := Lib.hid (HCW.out W2 B2.out)
         have c2 : W2.cell? ⟨b, 5, none⟩ = some (.slice a 0 cap) := by rw [cell_of H2.out]; rfl
         have f2 := frozen_of (o := 5) H2.out
         have hb2 : b < W2.heap.size := heap_lt H2.out
         have K2 := Lib.hid k2
         clear b2 b2' k2))
  all_goals
    have H3 := Lib.hid (heap_old (o := .cells #[ptr o2] 46) H2.out)
    have HK3 := Lib.hid ((Chs.one K2.out).keepN (World.grownBy_alloc W2 (.cells #[ptr o2] 46) none))
    have G3 := Lib.hid (gb_set (b := b) (gb_alloc (gb_below (row := some b) B2.out) (.cells #[ptr o2] 46)) 5 (.slice (some ⟨W2.heap.size, 0, none⟩) 1 1))
    have HS3 := Lib.hid (SMem.set (w := W2.alloc (.cells #[ptr o2] 46)) (L := [(o2, [(T, V)])]) (n := 1) (cap := 1) H3.out rfl (Ptrs.one W2 o2) HK3.out)
    have HG := Lib.hid (show Good sz [[(T, V)]] from ⟨fun z hz => by simp at hz; subst hz; exact ⟨by simp, fit_one hs _ (by simp)⟩, trivial⟩)
    clear c2 f2 c0 t0 t1 hn0
    unfold ptr at H3 HK3 G3 HS3
    rw [World.setCell_alloc_past _ _ _ _ hb2] at G3 HS3
    go_wp2
    go_ret
    exact ⟨rfl, ⟨[(o2, [(T, V)])], HS3.out, HG.out, rfl⟩, G3.out⟩

/-- What 'with' answers, as one way. -/
def WithQ (b : Nat) (sz : Int) (z : List (Int × Int)) (T vv er : Int) (w : World) (e : Ending) (w' : World) : Prop :=
  ∃ v, e = .returned (.tuple #[v, .int .i64 er]) ∧ w.grownBy w' (some b) ∧ (er = 0 → ∃ L, PRow w' w.heap.size v (bl L) ∧ Chs w' sz L ∧ (zs L).flatten = insL z T vv ∧ (∀ x ∈ zs L, Fit sz x) ∧ L.length ≤ z.length + 1)
theorem with_q (sz : Int) (hs : 128 ≤ sz) (hs2 : sz ≤ 4096) (T V p vv er : Int) (hT0 : 0 ≤ T) (hT1 : T < 1099511627776) (hV : in64 V) (hp : 1 ≤ p ∧ p ≤ 6) (b : Nat) (z : List (Int × Int)) (w : World) (hE : newV z T V p = (vv, er)) (hl : z.length ≤ 262144) (h : PCk w b sz z) (hr : Rising z) (hf : Fit sz z) :
    Calls Tryz.prog 51 #[.pointer (some ⟨b, 0, none⟩), .agg #[.int .i64 T, .int .i64 V], .int .i64 p] w (WithQ b sz z T vv er w) := by
  refine (with_any sz hs hs2 T V p hT0 hT1 hV hp z.length b z w (Nat.le_refl _) hl h hr hf).mono ?_
  intro e w' hw
  unfold WithP at hw
  rw [hE] at hw
  rcases hw with ⟨h1, ⟨v, rfl⟩, g⟩ | ⟨h1, v, L, rfl, r, k, hz, hfit, _, _, hlen, g⟩
  · exact ⟨v, rfl, g, fun h => absurd h h1⟩
  · exact ⟨v, by rw [show er = 0 from h1], g, fun _ => ⟨L, r, k, hz, hfit, hlen⟩⟩

theorem replace_at (b : Nat) (sz ret pol mx line : Int) (A B C P : List (Nat × List (Int × Int))) (i j : Int) (ap : Option Addr) (np cp : Nat) (Z : List (List (Int × Int))) (z : List (Int × Int)) (w : World) (hi : (A.length : Int) = i) (hj : ((A.length + B.length : Nat) : Int) = j) (hnp : P.length = np) (hZ : replL sz (zs A) (zs P) (zs C) = Z)
    (hz : z = (zs A).flatten ++ (zs P).flatten ++ (zs C).flatten) (h : SMem w b sz ret pol mx line (A ++ B ++ C)) (hp : Ptrs w ap np cp (bl P)) (hcp : Chs w sz P) (hs : 128 ≤ sz) (hs2 : sz ≤ 4096) (hr : Rising z) (hn : z.length ≤ 262144) (hl : (A ++ B ++ C).length ≤ 262144) (hlp : np ≤ 200000) :
    Calls Tryz.prog 34 #[.pointer (some ⟨b, 0, none⟩), .int .i64 i, .int .i64 j, .slice ap np cp] w (ReplP b sz ret pol mx line Z w) := by
  subst hi hj hnp hZ hz
  exact replace_any b sz ret pol mx line A B C P ap cp w h hp hcp hs hs2 hr hn hl hlp

set_option maxRecDepth 100000 in
set_option maxHeartbeats 2000000 in
theorem put_some (b : Nat) (sz : Int) (s : Ser) (T V p : Int) (w : World) (h : SerAt w b sz s) (hs : 128 ≤ sz) (hs2 : sz ≤ 4096) (hr : Rising s.z) (h0 : s.z ≠ []) (hn : s.z.length ≤ 100000) (hT0 : 0 ≤ T) (hT1 : T < 1099511627776) (hV : in64 V) (hp : 1 ≤ p ∧ p ≤ 6) :
    Calls Tryz.prog 23 #[.pointer (some ⟨b, 0, none⟩), .agg #[.int .i64 T, .int .i64 V], .int .i64 p] w (PutP b sz (newV s.z T V p).2 (insS s T V p) w) := by
  obtain ⟨L, hM, hg, hf⟩ := h
  have HM := Lib.hid hM
  have hSer : SerAt w b sz s := ⟨L, hM, hg, hf⟩
  have HSer := Lib.hid hSer
  obtain ⟨a, cap, hc, hpt, hk⟩ := hM
  have hne := good_ne hg
  have hrz : Rising (zs L).flatten := by rw [hf]; exact hr
  have hLn : (zs L).length ≤ s.z.length := by rw [← hf]; exact flat_ge hne
  have hL0 : 0 < (zs L).length := by
    cases hz : zs L with
    | nil => rw [hz] at hf; exact absurd hf.symm h0
    | cons x l => simp
  obtain ⟨hk1, hk2, hk3⟩ := put_place hrz hne hL0 T
  obtain ⟨hv, hi⟩ := put_flat hrz hne hL0 T V p
  rw [hf] at hv hi
  have HV := Lib.hid hv
  have HI := Lib.hid hi
  rw [zs_len] at hLn hL0 hk1
  have hq := hk.get (i := begL (zs L) T - 1) hk1
  have hch : (zs L).getD (begL (zs L) T - 1) [] ∈ zs L := by rw [chunk_get (by rw [zs_len]; exact hk1)]; exact List.getElem_mem _
  have hchr : Rising ((zs L).getD (begL (zs L) T - 1) []) := flat_rising hrz hch
  have hchf : Fit sz ((zs L).getD (begL (zs L) T - 1) []) := (hg.1 _ hch).2
  have hchl : ((zs L).getD (begL (zs L) T - 1) []).length ≤ 100000 := by have := flat_len_get (zs L) (begL (zs L) T - 1); rw [hf] at this; omega
  obtain ⟨rp, ro, rfl, hrp, x0⟩ := hpt.at_ (begL (zs L) T - 1) (by rw [← bl_len]; rw [bl_len]; exact hk1)
  have hbeg := begL_le (zs L) T
  rw [zs_len] at hbeg
  have HL := Lib.hid (split_at (Z := zs L) (k := begL (zs L) T - 1) (by rw [zs_len]; exact hk1))
  have hblt := hc.lt
  have HC := Lib.hid hc
  have HPT := Lib.hid hpt
  have HK := Lib.hid hk
  have HF := Lib.hid hf
  have HG := Lib.hid hg
  have HRZ := Lib.hid hrz
  have HNE := Lib.hid hne
  have B0 := (Below.refl w.heap.size w).alloc (Nat.le_refl _) (.cells #[.int .i64 T, .int .i64 V] 33)
  have hn0 := heap_new w (.cells #[.int .i64 T, .int .i64 V] 33)
  have s0 : w.heap.size < (w.alloc (.cells #[.int .i64 T, .int .i64 V] 33)).heap.size := by simp
  have hlz : (zs L).flatten.length ≤ 1048576 := by rw [hf]; omega
  have HR0 := Lib.hid hr
  clear hk1 hk2 hk3 hv hi hc hpt hk hf hg hrz hne hSer h0 hr
  unfold ptr at x0
  obtain ⟨k, hkk⟩ : ∃ k, begL (zs L) T - 1 = k := ⟨_, rfl⟩
  rw [hkk] at hq hch hchr hchf hchl x0 HV HI HL
  obtain ⟨bg, hbg⟩ : ∃ bg, begL (zs L) T = bg := ⟨_, rfl⟩
  rw [hbg] at hkk hbeg
  have HKK := Lib.hid hkk
  have HBG := Lib.hid hbg
  have hkL : k < L.length := by omega
  obtain ⟨y, hy⟩ : ∃ y, (zs L).getD k [] = y := ⟨_, rfl⟩
  obtain ⟨q, hqq⟩ : ∃ q, (bl L).getD k 0 = q := ⟨_, rfl⟩
  rw [hy] at hq hch hchr hchf hchl HV HI HL
  rw [hqq] at hq x0
  have HQ := Lib.hid hq
  have HCF := Lib.hid hchf
  have HCR := Lib.hid hchr
  have HCM := Lib.hid hch
  clear hkk hbg hy hqq hq hchf hchr hch
  obtain ⟨vv, er, hNV⟩ : ∃ vv er, newV y T V p = (vv, er) := ⟨_, _, rfl⟩
  have HNV := Lib.hid hNV
  have HRES : Hid ((er ≠ 0 → (newV s.z T V p).2 = er ∧ insS s T V p = s) ∧ (er = 0 → (newV s.z T V p).2 = 0 ∧ insS s T V p = ⟨s.ret, s.pol, s.mx, s.line, insL s.z T vv⟩)) := Lib.hid (by
    have h1 : newV s.z T V p = (vv, er) := HV.out.trans hNV
    refine ⟨fun h => ⟨by rw [h1], by unfold insS; rw [h1, if_neg h]⟩, fun h => ⟨by rw [h1]; exact h, by unfold insS; rw [h1, if_pos h]⟩⟩)
  clear hNV
  have HCW : Hid (∀ W : World, Below w.heap.size w W → W.cell? ⟨b, 5, none⟩ = some (.slice (some ⟨rp, ro, none⟩) L.length cap)) := Lib.hid (fun W hW => by rw [hW.cell hblt, cell_of HC.out]; rfl)
  have HXW : Hid (∀ W : World, Below w.heap.size w W → W.cell? ⟨rp, ro + k, none⟩ = some (.pointer (some ⟨q, 0, none⟩))) := Lib.hid (fun W hW => by rw [hW.cell hrp]; exact x0)
  have cw : w.cell? ⟨b, 5, none⟩ = some (.slice (some ⟨rp, ro, none⟩) L.length cap) := HCW.out w (Below.refl _ _)
  clear x0
  obtain ⟨NL, hNL⟩ : ∃ NL, L.length = NL := ⟨_, rfl⟩
  rw [hNL] at cw HCW HC HPT hkL hLn hL0 hbeg
  have HNL := Lib.hid hNL
  clear hNL
  have hNL0 : ((NL : Int) == 0) = false := by rw [beq_eq_false_iff_ne]; omega
  go_enter Tryz.func23, Tryz.ntmps23
  go_wp2_with fail
  generalize w.alloc (.cells #[.int .i64 T, .int .i64 V] 33) = W0 at *
  have HTW : Hid (∀ W : World, Below W0.heap.size W0 W → W.cell? ⟨w.heap.size, 0, none⟩ = some (.int .i64 T) ∧ W.cell? ⟨w.heap.size, 1, none⟩ = some (.int .i64 V)) := Lib.hid (fun W hW => ⟨by rw [hW.cell s0, cell_of hn0]; rfl, by rw [hW.cell s0, cell_of hn0]; rfl⟩)
  have HBW : Hid (∀ W : World, Below W0.heap.size W0 W → Below w.heap.size w W) := Lib.hid (fun W hW => B0.trans (hW.mono B0.size))
  clear cw hn0
  have t0 := (HTW.out W0 (Below.refl _ _)).1
  have c0 := HCW.out W0 B0
  go_cut [7] (fun s7 wx => s7 = .int .i64 (k : Int) ∧ Below W0.heap.size W0 wx)
  case first =>
    have hkk := HKK.out
    have hd : ((bg : Int) - 1 ≤ 0 ∧ (k : Int) = 0) ∨ (¬ ((bg : Int) - 1 ≤ 0) ∧ (k : Int) = (bg : Int) - 1) := by omega
    have B0D : Below w.heap.size w W0.drew := B0.drew
    have HPD := Lib.hid (HPT.out.keepB B0D)
    have HKD := Lib.hid (HK.out.keepB B0D)
    clear hkk
    have hwr : IntKind.i64.wrap ((bg : Int) - 1) = (bg : Int) - 1 := IntWalk.i64_in _ ⟨by omega, by omega⟩
    rcases hd with ⟨hd, hkv⟩ | ⟨hd, hkv⟩
    all_goals
      have HKV := Lib.hid hkv
      clear hkv
      go_region_held3 (fun w' => w'.cell? ⟨b, 5, none⟩ = some (.slice (some ⟨rp, ro, none⟩) NL cap) ∧ w'.cell? ⟨w.heap.size, 0, none⟩ = some (.int .i64 T))
        (first
          | (exact ⟨HCW.out _ (HBW.out _ B6.out), (HTW.out _ B6.out).1⟩)
          | (exact ⟨HCW.out _ B0D, (HTW.out _ (drew_below ⟨1, rfl⟩)).1⟩)
          | go_keep)
        (first
          | (go_at_call 50
             (with_reducible refine (begun_any (some ⟨rp, ro, none⟩) NL cap L sz T _ HPD.out HKD.out (by omega) hlz HRZ.out HNE.out (by omega)).mono ?_)
             rintro e W6 ⟨rfl, b6⟩
             rw [HBG.out]
             have B6 : Hid (Below W0.heap.size W0 W6) := Lib.hid ((drew_below (w := W0) (w' := W0.drew) ⟨1, rfl⟩).trans b6)
             clear b6))
      go_wp2_with fail
      go_meet
      exact ⟨by rw [HKV.out], B6.out⟩
  case rest =>
    obtain ⟨rfl, B1⟩ := hcut
    generalize wc = W1 at *
    have B1w := HBW.out _ B1
    have c1 := HCW.out _ B1w
    have x1 := HXW.out _ B1w
    have t1 := HTW.out _ B1
    have B1D : Below W0.heap.size W0 W1.drew := B1.drew
    have HQD : Hid (PCk W1.drew q sz y) := Lib.hid (CAt.keepB HQ.out (HBW.out _ B1D))
    have hk0 : (0 : Int) ≤ (k : Int) := by omega
    have hk1 : (k : Int) < (NL : Int) := by omega
    go_wp2_with fail
    go_region_held3 (fun w' => (w'.cell? ⟨b, 5, none⟩ = some (.slice (some ⟨rp, ro, none⟩) NL cap) ∧ w'.cell? ⟨rp, ro + k, none⟩ = some (.pointer (some ⟨q, 0, none⟩))) ∧ (w'.cell? ⟨w.heap.size, 0, none⟩ = some (.int .i64 T) ∧ w'.cell? ⟨w.heap.size, 1, none⟩ = some (.int .i64 V)))
      (first
        | (exact ⟨⟨HCW.out _ (HBW.out _ B7.out), HXW.out _ (HBW.out _ B7.out)⟩, HTW.out _ B7.out⟩)
        | (exact ⟨⟨HCW.out _ (HBW.out _ B6.out), HXW.out _ (HBW.out _ B6.out)⟩, HTW.out _ B6.out⟩)
        | (exact ⟨⟨HCW.out _ (HBW.out _ B1D), HXW.out _ (HBW.out _ B1D)⟩, HTW.out _ B1D⟩)
        | go_keep)
      (first
        | (go_at_call 31
           (with_reducible refine (copy_ok q sz y _ HQD.out (by omega) (by omega)).mono ?_)
           rintro e W6 ⟨o6, rfl, ho6, k6, b6⟩
           have B6 : Hid (Below W0.heap.size W0 W6) := Lib.hid (B1D.trans (b6.mono B1D.size))
           have K6 := Lib.hid k6
           have HO6 : Hid (W0.heap.size ≤ o6) := Lib.hid (Nat.le_trans B1D.size ho6)
           clear b6 k6 ho6)
        | (go_at_call 51
           (with_reducible refine (with_q sz hs hs2 T V p vv er hT0 hT1 hV hp o6 y _ HNV.out (by omega) K6.out HCR.out HCF.out).mono ?_)
           rintro e W7 ⟨v7, rfl, g7, h7⟩
           have B7 : Hid (Below W0.heap.size W0 W7) := Lib.hid (bel_gb B6.out B6.out.size HO6.out g7)
           have H7 := Lib.hid h7
           clear h7 g7))
    by_cases her : er = 0
    · have HR := Lib.hid (HRES.out.2 her)
      subst her
      obtain ⟨P, r7, ch7, hz7, hfit7, hl7⟩ := H7.out rfl
      obtain ⟨a7, cap7, rfl, P7⟩ := r7.shape
      rw [bl_len] at P7 ⊢
      obtain ⟨np, hnp⟩ : ∃ np, P.length = np := ⟨_, rfl⟩
      rw [hnp] at P7 hl7 ⊢
      have HNP := Lib.hid hnp
      have HP7 := Lib.hid P7
      have HC7 := Lib.hid ch7
      have HZ7 := Lib.hid hz7
      have HF7 := Lib.hid hfit7
      have HM7 := Lib.hid (HM.out.keepB (HBW.out _ B7.out))
      clear r7 P7 ch7 hz7 hfit7 hnp H7
      have hsp : L = L.take k ++ [L[k]'(by rw [HNL.out]; exact hkL)] ++ L.drop (k + 1) := by
        conv => lhs; rw [← List.take_append_drop k L, List.drop_eq_getElem_cons (by rw [HNL.out]; exact hkL)]
        simp
      have HEQ := Lib.hid (show insL s.z T vv = (zs (L.take k)).flatten ++ (zs P).flatten ++ (zs (L.drop (k + 1))).flatten from by rw [HI.out, HZ7.out, zs_take, zs_drop])
      have HLN := Lib.hid (show (insL s.z T vv).length ≤ 100001 from by rw [insL_length _ _ _ HR0.out]; omega)
      have HGA := Lib.hid (show Good sz (zs (L.take k)) from by rw [zs_take]; exact good_left (y := (zs L).drop k) (by rw [List.take_append_drop]; exact HG.out))
      have HGC := Lib.hid (show Good sz (zs (L.drop (k + 1))) from by rw [zs_drop]; exact good_right (x := (zs L).take (k + 1)) (by rw [List.take_append_drop]; exact HG.out))
      have HLA := Lib.hid (show (L.take k).length = k from by rw [List.length_take, HNL.out]; omega)
      have HM8 : Hid (SMem W7 b sz s.ret s.pol s.mx s.line (L.take k ++ [L[k]'(by rw [HNL.out]; exact hkL)] ++ L.drop (k + 1))) := Lib.hid (by rw [← hsp]; exact HM7.out)
      have HLS := Lib.hid (show (L.take k ++ [L[k]'(by rw [HNL.out]; exact hkL)] ++ L.drop (k + 1)).length ≤ 262144 from by rw [← hsp, HNL.out]; omega)
      have HMD : Hid ((L.take k).length + [L[k]'(by rw [HNL.out]; exact hkL)].length = k + 1) := Lib.hid (by rw [HLA.out]; rfl)
      generalize [L[k]'(by rw [HNL.out]; exact hkL)] = MD at *
      have HRI := Lib.hid (insL_rising HR0.out T vv)
      go_wp2_with fail
      refine (replace_at b sz s.ret s.pol s.mx s.line (L.take k) MD (L.drop (k + 1)) P _ _ a7 np cap7 _ _ W7 (by rw [HLA.out]) (by rw [HMD.out]; push_cast; rfl) HNP.out rfl HEQ.out HM8.out HP7.out HC7.out hs hs2 HRI.out (by have := HLN.out; omega) HLS.out (by omega)).mono ?_
      rintro e W8 ⟨⟨v8, rfl⟩, ⟨L8, M8, z8⟩, g8⟩
      have HS8 := Lib.hid (show SerAt W8 b sz ⟨s.ret, s.pol, s.mx, s.line, insL s.z T vv⟩ from ⟨L8, M8, by rw [z8]; exact repl_good hs HGA.out HGC.out HF7.out, by rw [z8, repl_flat]; exact HEQ.out.symm⟩)
      have G8 := Lib.hid (gb_trans (gb_below (row := some b) (HBW.out _ B7.out)) g8)
      clear M8 z8 g8
      go_wp2
      go_ret
      exact ⟨by rw [HR.out.1]; rfl, by rw [HR.out.2]; exact HS8.out, G8.out⟩
    · have heb : (er != 0) = true := by simpa using her
      have heb2 : (er == 0) = false := by simpa using her
      have HR := Lib.hid (HRES.out.1 her)
      clear her
      go_wp2
      go_ret
      exact ⟨by rw [HR.out.1]; rfl, by rw [HR.out.2]; exact HSer.out.keepB (HBW.out _ B7.out), gb_below (HBW.out _ B7.out)⟩

theorem put_any (b : Nat) (sz : Int) (s : Ser) (T V p : Int) (w : World) (h : SerAt w b sz s) (hs : 128 ≤ sz) (hs2 : sz ≤ 4096) (hr : Rising s.z) (hn : s.z.length ≤ 100000) (hT0 : 0 ≤ T) (hT1 : T < 1099511627776) (hV : in64 V) (hp : 1 ≤ p ∧ p ≤ 6) :
    Calls Tryz.prog 23 #[.pointer (some ⟨b, 0, none⟩), .agg #[.int .i64 T, .int .i64 V], .int .i64 p] w (PutP b sz (newV s.z T V p).2 (insS s T V p) w) := by
  by_cases h0 : s.z = []
  · exact put_none b sz s T V p w h hs hs2 h0 hT0 hT1 hV
  · exact put_some b sz s T V p w h hs hs2 hr h0 hn hT0 hT1 hV hp

end Go.Proofs.YtpbhdlhbcfkhfaaGreat
