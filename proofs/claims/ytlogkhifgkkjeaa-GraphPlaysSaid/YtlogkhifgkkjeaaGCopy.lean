/-
  Contracts of maps.Copy of rules into a map that has none, and of the graph's Copy.
-/
import Derived.Test.YtlogkhifgkkjeaaGSearch
import Derived.StillTailTactics
import Derived.Deep.RegionHeld3
import Derived.Laws.IdiomRangeMap
namespace Go.Proofs.Ytlogkhifgkkjeaa
open Go.RowKit
set_option linter.unusedVariables false
set_option linter.unusedSimpArgs false

set_option maxRecDepth 100000 in
set_option maxHeartbeats 4000000 in
theorem mcopy_any (w : World) (bd bz : Nat) (LI : List (Tx × Value)) (hd : MapAt w bd []) (hs : MapAt w bz LI) (hne : bd ≠ bz) (hv : ∀ p ∈ LI, ∃ r, p.2 = ruV r) :
    Calls Try.prog 36 #[mp bd, mp bz] w fun e w' => e = .returned (.tuple #[]) ∧ (∃ LD, MapAt w' bd LD ∧ ∀ k, look LD k = look LI k) ∧ w.grownBy w' (some bd) := by
  have HS := Lib.hid hs
  have HD := Lib.hid hd
  have HV := Lib.hid hv
  have HN := Lib.hid hs.nodup
  have hdl := hd.lt
  have hsl := hs.lt
  clear hd hs hv
  go_enter Try.func36, Try.ntmps36
  go_wp2_with (first
    | (at_range; refine wpList_range_m _ rfl _ 60 rfl 9 31 Try.underlying60 bz LI rfl HS.out ?_; intro w1 hr1 g1 hs1))
  go_frame
  have R1 := Lib.hid hr1
  have G1 := Lib.hid (gb_none g1 (some bd))
  have D1 := Lib.hid (HD.out.gb g1 (by simp))
  have hsz1 : w.heap.size < w1.heap.size := by omega
  clear hr1 g1 hs1
  go_loopw [4] (fun _ wr => ∃ (left LD : List (Tx × Value)), Hid (MapAt wr bd LD) ∧ Hid (RngAt wr bz w.heap.size LI left) ∧ Hid ((keysL left).Nodup ∧ (∀ p ∈ left, look LI p.1 = some p.2) ∧ ∀ k, look LD k = if k ∈ keysL left then none else look LI k) ∧ Hid (w.grownBy wr (some bd))) (fun _ wr => wr.rangeLeft bz w.heap.size)
  case atStart => exact ⟨LI, [], D1, R1, Lib.hid ⟨HN.out, fun p hp => mem_look HN.out hp, fun k => by
    by_cases hk : k ∈ keysL LI
    · rw [if_pos hk]; rfl
    · rw [if_neg hk, look_none.2 hk]; rfl⟩, G1⟩
  case round =>
    obtain ⟨left, LD, D, R, I, G⟩ := hrel
    clear D1 R1 G1
    go_wp2_with (first
      | (at_next; refine wpList_next_m _ rfl _ rfl bz w.heap.size LI left rfl R.out ?_ ?_)
      | go_in)
    · intro h0
      subst h0
      go_wp2
      go_end0
      exact ⟨rfl, ⟨LD, D.out, fun k => by rw [I.out.2.2 k, if_neg (by simp [keysL])]⟩, G.out⟩
    · intro k v left' w2 hp hr2 g2 hs2 hen
      obtain ⟨i1, i2, i3⟩ := I.out
      have hkv : look LI k = some v := i2 (k, v) (hp.mem_iff.2 (by simp))
      obtain ⟨r, hr⟩ := HV.out (k, v) (look_mem hkv)
      simp only at hr
      have hnd : (keysL ((k, v) :: left')).Nodup := ((hp.map Prod.fst).nodup_iff).1 i1
      obtain ⟨n1, n2⟩ := List.nodup_cons.1 (show (k :: keysL left').Nodup from hnd)
      have I2 := Lib.hid (show (keysL left').Nodup ∧ (∀ p ∈ left', look LI p.1 = some p.2) ∧ ∀ j, look (ups LD k v) j = if j ∈ keysL left' then none else look LI j from by
        refine ⟨n2, fun p hp' => i2 p (hp.mem_iff.2 (List.mem_cons_of_mem _ hp')), fun j => ?_⟩
        by_cases hj : j = k
        · subst hj; rw [look_ups_same, if_neg n1, hkv]
        · rw [look_ups_ne _ hj, i3 j]
          have : j ∈ keysL left ↔ j ∈ keysL left' := by
            have h1 := (hp.map Prod.fst).mem_iff (a := j)
            show j ∈ left.map Prod.fst ↔ j ∈ left'.map Prod.fst
            rw [h1]; simp [hj]
          simp only [this])
      subst hr
      have hw2 : w.heap.size ≠ bd := by omega
      have D2 := Lib.hid (D.out.gb g2 (by simpa using fun e => hw2 e.symm))
      have G2 := Lib.hid (show w.grownBy w2 (some bd) from ⟨g2.os.trans G.out.os, g2.tape.trans G.out.tape, g2.output.trans G.out.output, Nat.le_trans G.out.size g2.size, fun i hi hr => (g2.block i (Nat.lt_of_lt_of_le hi G.out.size) (by simp; omega)).trans (G.out.block i hi hr)⟩)
      have hlen : left'.length < left.length := by rw [hp.length_eq]; simp
      have R2 := Lib.hid hr2
      have B3 := (Below.refl w2.heap.size w2).alloc (Nat.le_refl _) (.cells #[.string (bs r.src), .string (bs r.dst), .int .i64 r.kind, .int .i64 r.size, .int .i64 r.align] 31)
      have D3 := Lib.hid (D2.out.keep B3)
      have R3 := Lib.hid (R2.out.keep B3)
      have G3 := Lib.hid (gb_trans G2.out (gb_below (row := some bd) B3))
      have X3 := BoxU.new 31 w2 r
      clear hp hr2 g2 hs2 i1 i2 i3 hkv hnd n1 n2 D2 R2 G2 B3 I D G
      unfold ruV at hen
      have x0 := X3.x0
      have x1 := X3.x1
      have x2 := X3.x2
      have x3 := X3.x3
      have x4 := X3.x4
      clear X3
      go_wp2_with (first
        | (at_mapUpdate; refine wpList_mapUpdate_m _ rfl _ _ _ 60 rfl 9 31 Try.underlying60 Try.underlying9 bd _ rfl D3.out k _ rfl rfl (ruV r) rfl ?_; intro w4 hm4 g4 hs4))
      have R4 := Lib.hid (R3.out.same (g4.block bz R3.out.map.lt (by simpa using fun e => hne e.symm)) (g4.block _ R3.out.lt (by simpa using hw2)))
      have G4 := Lib.hid (gb_trans G3.out g4)
      have D4 := Lib.hid hm4
      clear hm4 g4 hs4 D3 R3 G3 x0 x1 x2 x3 x4
      go_wp2
      go_roundw
      case rel => exact ⟨_, _, _, _, _, _, _, _, _, _, ⟨left', _, D4, R4, I2, G4⟩, rfl⟩
      case measure => rw [R4.out.left_eq, R.out.left_eq]; exact hlen

/-- Behind the keys that are left. -/
def outK (L : List Ru) (ks : List Tx) (k : Tx) : List Ru := if k ∈ ks then [] else ofL L k
set_option maxRecDepth 100000 in
set_option maxHeartbeats 4000000 in
theorem gcopy_ok (w : World) (x bi bf : Nat) (F : Nat → Prop) (L : List Ru) (h : GrAt w x bi bf F L) (hL : L.length ≤ 1000) :
    Calls Try.prog 19 #[.pointer (some ⟨x, 0, none⟩)] w fun e w' => ∃ y ci cf F2, e = .returned (.pointer (some ⟨y, 0, none⟩)) ∧ GrAt w' y ci cf F2 L ∧ Below w.heap.size w w' ∧ w.heap.size ≤ y ∧ ∀ i, F2 i → w.heap.size ≤ i := by
  have HG := Lib.hid h
  obtain ⟨LI, i1, i2⟩ := h.into
  obtain ⟨LF, K, f1, f2, f3⟩ := h.from_
  have HI1 := Lib.hid i1
  have HI2 := Lib.hid i2
  have HF1 := Lib.hid f1
  have HF2 := Lib.hid f2
  have HF3 := Lib.hid f3
  have HFK := Lib.hid (fun k (hk : k ∈ keysL LF) => h.full LF f1 k hk)
  have HFN := Lib.hid f1.nodup
  have HFO := Lib.hid (show ∀ k, outK L (keysL LF) k = [] from fun k => by
    unfold outK
    by_cases hk : k ∈ keysL LF
    · rw [if_pos hk]
    · rw [if_neg hk]; exact f3.miss k (by rw [← f2, look_none]; exact hk))
  clear h i1 i2 f1 f2 f3
  go_enter Try.func19, Try.ntmps19
  go_wp2_with fail
  refine (gisNone_no w x bi bf HG.out.cell).mono ?_
  rintro e w' ⟨rfl, rfl⟩
  go_wp2_with fail
  refine (gnew_any w).mono ?_
  rintro e w1 ⟨y, ci, cf, F1, rfl, g1, b1, hy, hf1⟩
  have G1 := Lib.hid g1
  have B1 := Lib.hid b1
  have HF1' := Lib.hid hf1
  clear g1 b1 hf1
  go_wp2_with fail
  refine wp_region_still_tail 8 (by kernel_rfl) (by kernel_rfl) ?_
  simp only [List.take_succ_cons, List.take_zero, List.drop_succ_cons, List.drop_zero]
  change wpStill _ _ w1.drew (fun a' => wpList _ _ _ _ a' w1.drew) _ _
  have G2 := Lib.hid (G1.out.keep (Below.refl _ w1).drew)
  have B2 := Lib.hid B1.out.drew
  generalize w1.drew = W2 at *
  clear G1 B1
  have d0 := G2.out.cell.c0
  have c0 := (HG.out.cell.keep B2.out).c0
  repeat still_step
  refine wpStill_nil ?_
  obtain ⟨LJ, j1, j2⟩ := G2.out.into
  have hLJ : LJ = [] := keysL_nil (fun k hk => by
    have h1 := j2 k
    rw [show intoL [] k = none from rfl] at h1
    exact look_none.1 h1 hk)
  subst hLJ
  have hcl := HF1'.out ci G2.out.mid.fi
  have HMC := Lib.hid (mcopy_any W2 ci bi LI j1 (HI1.out.keep B2.out) (fun e => by have := HG.out.into.lt; omega) (fun p hp => by
    have h1 := mem_look HI1.out.nodup (show (p.1, p.2) ∈ LI from hp)
    rw [HI2.out] at h1
    cases e : intoL L p.1 with
    | none => rw [e] at h1; cases h1
    | some r => rw [e] at h1; simp only [Option.map_some, Option.some.injEq] at h1; exact ⟨r, h1.symm⟩))
  clear j1 j2
  go_wp2_with fail
  refine HMC.out.mono ?_
  rintro e w3 ⟨rfl, ⟨LD, hd1, hd2⟩, g3⟩
  have M3 := Lib.hid (show MidAt w3 y ci cf F1 (intoL L) (outK L (keysL LF)) from by
    have h1 := G2.out.mid.turnI g3 (J := intoL L) ⟨LD, hd1, fun k => by rw [hd2, HI2.out]⟩
    have e : outK L (keysL LF) = ofL [] := funext fun k => by rw [HFO.out]; rfl
    rw [e]; exact h1)
  have B3 := Lib.hid (show Below w.heap.size w w3 from bel_gb B2.out B2.out.size hcl g3)
  have S3 := Lib.hid (show ∀ LD, MapAt w3 cf LD → ∀ k, k ∈ keysL LD → k ∈ keysL LF from fun LD m k hk => by
    have h1 := G2.out.full LD (m.same (g3.block cf G2.out.mid.from_.lt (by simpa using fun e => G2.out.mid.ne e.symm)).symm) k hk
    exact absurd rfl h1)
  clear hd1 hd2 g3 HMC G2 B2 d0 c0
  have c1 := (HG.out.cell.keep B3.out).c1
  have HFr := Lib.hid (HF1.out.keep B3.out)
  go_wp2_with (first
    | (at_range; refine wpList_range_m _ rfl _ 61 rfl 9 51 Try.underlying61 bf LF rfl HFr.out ?_; intro w4 hr4 g4 hs4))
  go_frame
  have R4 := Lib.hid hr4
  have bb4 := gb_below_none g4
  have B4 := Lib.hid (B3.out.trans (bb4.mono B3.out.size))
  have M4 := Lib.hid (M3.out.keep bb4)
  have S4 := Lib.hid (show ∀ LD, MapAt w4 cf LD → ∀ k, k ∈ keysL LD → k ∈ keysL LF from fun LD m => S3.out LD (m.same (bb4.block cf M3.out.from_.lt).symm))
  have hcf := HF1'.out cf M3.out.ff
  have hrs : w.heap.size ≤ w3.heap.size := B3.out.size
  have hcf3 := M3.out.from_.lt
  have hci3 := M3.out.into.lt
  have hy3 := M3.out.xlt
  have HF13 := Lib.hid M3.out.lt
  clear hr4 g4 hs4 bb4 M3 B3 S3 c1 HFr
  generalize w3.heap.size = rr at *
  go_loopw [4] (fun _ wr => ∃ (left : List (Tx × Value)) (F2 : Nat → Prop), Hid (MidAt wr y ci cf F2 (intoL L) (outK L (keysL left))) ∧ Hid (RngAt wr bf rr LF left) ∧ Hid ((keysL left).Nodup ∧ (∀ p ∈ left, look LF p.1 = some p.2)) ∧ Hid (∀ i, F2 i → w.heap.size ≤ i ∧ i ≠ rr) ∧ Hid (Below w.heap.size w wr) ∧ Hid (∀ LD, MapAt wr cf LD → ∀ k, k ∈ keysL LD → k ∈ keysL LF)) (fun _ wr => wr.rangeLeft bf rr)
  case atStart => exact ⟨LF, F1, M4, R4, Lib.hid ⟨HFN.out, fun p hp => mem_look HFN.out hp⟩, Lib.hid (fun i hi => ⟨HF1'.out i hi, fun e => by have := HF13.out i hi; omega⟩), B4, S4⟩
  case round =>
    obtain ⟨left, F2, M, R, I, HF, B, S⟩ := hrel
    clear M4 R4 B4 S4
    go_wp2_with (first
      | (at_next; refine wpList_next_m _ rfl _ rfl bf rr LF left rfl R.out ?_ ?_)
      | go_in)
    · intro h0
      subst h0
      have eO : outK L (keysL ([] : List (Tx × Value))) = ofL L := funext fun k => by unfold outK; rw [if_neg (by simp [keysL])]
      rw [eO] at M
      go_wp2
      go_ret
      exact ⟨y, ci, cf, F2, rfl, ⟨M.out, HG.out.good, fun LD m k hk => HFK.out k (S.out LD m k hk)⟩, B.out, hy, fun i hi => (HF.out i hi).1⟩
    · intro k v left' w5 hp hr5 g5 hs5 hen
      obtain ⟨i1, i2⟩ := I.out
      have hkv : look LF k = some v := i2 (k, v) (hp.mem_iff.2 (by simp))
      have hKk : K k = some v := by rw [← HF2.out]; exact hkv
      obtain ⟨a, cap, ev, hat, _⟩ := (HF3.out.hit k v hKk).shape
      have hnd : (keysL ((k, v) :: left')).Nodup := ((hp.map Prod.fst).nodup_iff).1 i1
      obtain ⟨n1, n2⟩ := List.nodup_cons.1 (show (k :: keysL left').Nodup from hnd)
      have I2 := Lib.hid (show (keysL left').Nodup ∧ (∀ p ∈ left', look LF p.1 = some p.2) from ⟨n2, fun p hp' => i2 p (hp.mem_iff.2 (List.mem_cons_of_mem _ hp'))⟩)
      have hkF : k ∈ keysL LF := List.mem_map.2 ⟨_, look_mem hkv, rfl⟩
      have HO := Lib.hid (show ∀ j, outK L (keysL left') j = if j = k then ofL L k else outK L (keysL left) j from fun j => by
        unfold outK
        by_cases hj : j = k
        · subst hj; rw [if_neg n1, if_pos rfl]
        · rw [if_neg hj]
          have : j ∈ keysL left ↔ j ∈ keysL left' := by
            have h1 := (hp.map Prod.fst).mem_iff (a := j)
            show j ∈ left.map Prod.fst ↔ j ∈ left'.map Prod.fst
            rw [h1]; simp [hj]
          simp only [this])
      have hlen : left'.length < left.length := by rw [hp.length_eq]; simp
      have hOl : (ofL L k).length ≤ 1000 := Nat.le_trans (ofL_le _ _) hL
      subst ev
      -- the iterator has turned
      have t5 : Tu (fun i => i = rr) wr w5 := .gb g5 rfl
      have M5 := Lib.hid (M.out.tu t5 (fun e => by omega) (fun i hi e => (HF.out i hi).2 e))
      have B5 := Lib.hid (bel_gb B.out B.out.size hrs g5)
      have S5 := Lib.hid (show ∀ LD, MapAt w5 cf LD → ∀ k, k ∈ keysL LD → k ∈ keysL LF from fun LD m => S.out LD (m.same (t5.block cf M.out.from_.lt (fun e => by omega)).symm))
      have R5 := Lib.hid hr5
      have HA := Lib.hid hat
      clear hp hr5 g5 hs5 i1 i2 hkv hKk hat hnd n1 n2 t5 M B S I
      obtain ⟨LD5, K5, d1, d2, d3⟩ := M5.out.from_
      have HD1 := Lib.hid d1
      have HD2 := Lib.hid d2
      have HD3 := Lib.hid d3
      have hS5 := Lib.hid (S5.out LD5 d1)
      have HCL := Lib.hid (gclone_any a (ofL L k).length cap (ofL L k) w5.drew (HA.out.keep B5.out.drew) hOl)
      generalize (ofL L k).length = n at *
      have hyl := M5.out.xlt
      have hyc : y ≠ cf := fun e => M5.out.nx (e ▸ M5.out.ff)
      have e1 := M5.out.cell.c1
      have HB5d := Lib.hid (show Below w5.heap.size w5 w5.drew from (Below.refl _ w5).drew)
      have HCd := Lib.hid (M5.out.cell.keep HB5d.out)
      clear d1 d2 d3 S5 HA
      go_wp2_with fail
      go_region_held3 (fun w' => w'.cell? ⟨y, 1, none⟩ = some (mp cf))
        (first
          | exact HE7.out
          | exact HE6.out
          | go_keep)
        (first
          | (go_at_call 37
             (with_reducible refine HCL.out.mono ?_)
             rintro e W6 ⟨v', rfl, r6, b6⟩
             have HE6 := Lib.hid (show W6.cell? ⟨y, 1, none⟩ = some (mp cf) from (HCd.out.keep b6).c1)
             have HM6 := Lib.hid ((HD1.out.keep HB5d.out).keep b6)
             obtain ⟨w7, hrun7, hm7, g7, hs7⟩ := HM6.out.update (P := Try.prog) Try.underlying61 Try.underlying9 k v'
             have HE7 := Lib.hid (show w7.cell? ⟨y, 1, none⟩ = some (mp cf) from ((HCd.out.keep b6).tu (Tu.gb (F := fun i => i = cf) g7 rfl) hyc).c1))
          | fail)
      obtain ⟨m1, m2, m3⟩ := M5.out.putO HD2.out HD3.out HB5d.out (W5 := w5.drew) (s := k) (gb_below b6) (r6.mono (Nat.zero_le _)) (fun g hg => .inl (r6.base hg)) hm7 g7 HO.out
      have B6 := Lib.hid (B5.out.drew.trans (b6.mono B5.out.size))
      have B7 := Lib.hid (bel_gb B6.out B6.out.size hcf g7)
      have M7 := Lib.hid m1
      have hrl := R5.out.lt
      have hrb := R5.out.map.lt
      have hbfl := HG.out.from_.lt
      have HF7 := Lib.hid (show ∀ i, (F2 i ∨ v'.ownBlock = some i) → w.heap.size ≤ i ∧ i ≠ rr from fun i hi => by
        rcases hi with f | e
        · exact HF.out i f
        · have h1 := r6.base e
          have h2 := B5.out.size
          have h3 : w5.heap.size ≤ i := h1
          exact ⟨by omega, by omega⟩)
      have R7 := Lib.hid (R5.out.same (w' := w7) ((g7.block bf (Nat.lt_of_lt_of_le hrb b6.size) (by simp; omega)).trans (b6.block bf hrb)) ((g7.block rr (Nat.lt_of_lt_of_le hrl b6.size) (by simp; omega)).trans (b6.block rr hrl)))
      have S7 := Lib.hid (show ∀ LD, MapAt w7 cf LD → ∀ j, j ∈ keysL LD → j ∈ keysL LF from fun LD m j hj => by
        rw [m.uniq hm7, keys_ups] at hj
        rcases hj with e | e
        · rw [e]; exact hkF
        · exact hS5.out j e)
      clear m1 m2 m3 r6 b6 HE6 HE7 HM6 hrun7 hm7 g7 hs7 HCL HCd HB5d e1 HD1 HD2 HD3 M5 B5 B6
      go_wp2
      go_roundw
      case rel => exact ⟨left', _, M7, R7, I2, HF7, B7, S7⟩
      case measure => rw [R7.out.left_eq, R.out.left_eq]; exact hlen
theorem gcopy_nil (w : World) : Calls Try.prog 19 #[.pointer none] w fun e w' => e = .returned (.pointer none) ∧ w = w' := by
  go_enter Try.func19, Try.ntmps19
  go_wp2_with fail
  refine (gisNone_nil w).mono ?_
  rintro e w' ⟨rfl, rfl⟩
  go_wp2
  go_ret
  exact ⟨rfl, rfl⟩

end Go.Proofs.Ytlogkhifgkkjeaa
