/-
  Contracts of package sets' functions that make lists: put, merge, sorted, And, Or, Less, Add, Del.
-/
import Derived.Test.YtjpighkbfldloaaEOf
import Derived.Test.YtjpighkbfldloaaEHas
import Derived.Deep.RegionHeld3
namespace Go.Proofs.Ytjpighkbfldloaa
open Go.RowKit
set_option linter.unusedVariables false
set_option linter.unusedSimpArgs false

theorem TRow.mono {w : World} {base base' : Nat} {v : Value} {l : List Tx} (h : TRow w base v l) (hb : base' ≤ base) : TRow w base' v l := by
  refine ⟨h.1, ?_⟩
  rcases h.2 with e | ⟨g, cap, cur, rfl, hbg, r⟩
  · exact .inl e
  · exact .inr ⟨g, cap, cur, rfl, by omega, r⟩
theorem put1_len (b : Bool) (l : List Tx) : (put1 b l).length ≤ l.length := by unfold put1; split <;> simp

/-- What put leaves. -/
def PutP (W0 : World) (l : List Tx) (e : Ending) (w' : World) : Prop := ∃ v, e = .returned v ∧ TRow w' W0.heap.size v l ∧ Below W0.heap.size W0 w'
set_option maxHeartbeats 800000 in
theorem put8_any (W0 w : World) (v : Value) (l : List Tx) (b : Bool) (a : Option Addr) (n c : Nat) (m : List Tx) (hB : Below W0.heap.size W0 w) (hown : TRow w W0.heap.size v l) (hl : TxAt w a n c m) (hb : l.length + n ≤ 1048576) :
    Calls Try.prog 37 #[v, .bool b, .slice a n c] w (PutP W0 (l ++ put1 b m)) := by
  have HO := Lib.hid hown
  have HT := Lib.hid hl
  have HB := Lib.hid hB
  have hs := hB.size
  clear hown hl hB
  cases b
  · go_enter Try.func37, Try.ntmps37
    go_wp2
    go_ret
    refine ⟨v, rfl, ?_, HB.out⟩
    rw [show put1 false m = [] from rfl, List.append_nil]; exact HO.out
  · go_enter Try.func37, Try.ntmps37
    go_wp2_with (at_builtin; refine wpList_append_tx rfl _ _ rfl W0.heap.size v l rfl HO.out a n c m rfl HT.out hb hs ?_)
    intro v' w' h1 h2
    go_wp2
    go_ret
    exact ⟨v', rfl, h1, TRow.bel HB.out hs HO.out (Nat.le_refl _) h2⟩

theorem TxAt.cons {w : World} {a : Option Addr} {n c : Nat} {p : Tx} {l : List Tx} (h : TxAt w a n c (p :: l)) :
    ∃ b off m k, a = some ⟨b, off, none⟩ ∧ n = m + 1 ∧ c = k + 1 ∧ b < w.heap.size ∧ w.cell? ⟨b, off, none⟩ = some (.string (bs p)) ∧
      ∃ a', (∀ W : World, (Instr.slice 22 (.slice (some ⟨b, off, none⟩) (m + 1) (k + 1)) (some (.int .i64 1)) none none).run Try.prog W = .ok (.slice a' m k) W) ∧ TxAt w a' m k l := by
  have h1 := h.1
  have h2 := h.2.1
  have h3 := h.2.2.1
  rw [List.length_cons] at h1
  obtain ⟨b, off, rfl, hb, hc⟩ := h.at_ 0 (by omega)
  obtain ⟨a', hr, ht⟩ := h.from_ 1 (by omega)
  obtain ⟨k, rfl⟩ : ∃ k, c = k + 1 := ⟨c - 1, by omega⟩
  subst h1
  exact ⟨b, off, l.length, k, rfl, rfl, rfl, hb, hc, a', hr, ht⟩
theorem mrg_lt {f s b : Bool} {x y : Tx} {xs ys : List Tx} (h : cmpL x y < 0) : mrg f s b (x :: xs) (y :: ys) = put1 f [x] ++ mrg f s b xs (y :: ys) := by
  unfold cmpL at h
  rw [mrg]
  split at h
  · rename_i k; rw [if_pos k]
  · split at h <;> omega
theorem mrg_gt {f s b : Bool} {x y : Tx} {xs ys : List Tx} (h : 0 < cmpL x y) : mrg f s b (x :: xs) (y :: ys) = put1 s [y] ++ mrg f s b (x :: xs) ys := by
  unfold cmpL at h
  rw [mrg]
  split at h
  · omega
  · split at h
    · rename_i k1 k2; rw [if_neg k1, if_pos k2]
    · omega
theorem mrg_eq {f s b : Bool} {x y : Tx} {xs ys : List Tx} (h : cmpL x y = 0) : mrg f s b (x :: xs) (y :: ys) = put1 b [x] ++ mrg f s b xs ys := by
  unfold cmpL at h
  rw [mrg]
  split at h
  · omega
  · split at h
    · omega
    · rename_i k1 k2; rw [if_neg k1, if_neg k2]
theorem put8_one (W0 W2 : World) (v : Value) (o : List Tx) (f : Bool) (p : Tx) (hB : Below W0.heap.size W0 W2) (hown : TRow W2 W0.heap.size v o) (hb : o.length + 1 ≤ 1048576) :
    Calls Try.prog 37 #[v, .bool f, .slice (some ⟨W2.heap.size, 0, none⟩) 1 1] (W2.alloc (.cells #[.string (bs p)] 9)).drew (PutP W0 (o ++ put1 f [p])) := by
  have e1 : Below W2.heap.size W2 (W2.alloc (.cells #[.string (bs p)] 9)).drew := bel_gbn ((Below.refl _ _).alloc (Nat.le_refl _) _) (by simp) (Drew.gb (w := W2.alloc (.cells #[.string (bs p)] 9)) ⟨1, rfl⟩ none)
  refine put8_any W0 _ v o f _ 1 1 [p] (hB.trans (e1.mono hB.size)) (hown.keep e1) ?_ hb
  exact (TxAt.one W2 p).keep (Drew.bel ⟨1, rfl⟩)
def lenV (v : Value) : Nat := match v with | .slice _ n _ => n | _ => 0
theorem cmp_3 (x y : Tx) : cmpL x y = -1 ∨ cmpL x y = 1 ∨ cmpL x y = 0 := by
  unfold cmpL
  split
  · exact .inl rfl
  · split
    · exact .inr (.inl rfl)
    · exact .inr (.inr rfl)

set_option maxRecDepth 100000 in
set_option maxHeartbeats 8000000 in
theorem merge8_any (f s b : Bool) (a : Option Addr) (n c : Nat) (x : List Tx) (a2 : Option Addr) (n2 c2 : Nat) (y : List Tx) (w : World) (h : TxAt w a n c x) (h2 : TxAt w a2 n2 c2 y) (hl : n + n2 ≤ 1000000) :
    Calls Try.prog 31 #[.slice a n c, .slice a2 n2 c2, .agg #[.bool f, .bool s, .bool b]] w (MadeP w (mrg f s b x y)) := by
  have B0 : Below w.heap.size w (w.alloc (.cells #[.bool f, .bool s, .bool b] 38)) := (Below.refl _ _).alloc (Nat.le_refl _) _
  have HA := Lib.hid (h.keep B0)
  have HA2 := Lib.hid (h2.keep B0)
  have hnw : w.heap.size < (w.alloc (.cells #[.bool f, .bool s, .bool b] 38)).heap.size := by simp
  have HB0 := Lib.hid B0
  have HN0 := Lib.hid (heap_new w (.cells #[.bool f, .bool s, .bool b] 38))
  have HL := Lib.hid (show ([] : List Tx).length + n + n2 ≤ 1000000 from by simpa using hl)
  clear h h2 B0 hl
  go_enter Try.func31, Try.ntmps31
  go_wp2_with fail
  generalize w.alloc (.cells #[.bool f, .bool s, .bool b] 38) = W1 at *
  go_loopw [0, 1, 7] (fun va vb vl wr => ∃ (a : Option Addr) (n c : Nat) (x' : List Tx) (a2 : Option Addr) (n2 c2 : Nat) (y' o : List Tx) (v : Value), vl = v ∧ va = .slice a n c ∧ vb = .slice a2 n2 c2 ∧ Hid (TxAt W1 a n c x') ∧ Hid (TxAt W1 a2 n2 c2 y') ∧ Hid (TRow wr W1.heap.size v o) ∧ Hid (Below W1.heap.size W1 wr) ∧ Hid (o ++ mrg f s b x' y' = mrg f s b x y) ∧ Hid (o.length + n + n2 ≤ 1000000)) (fun va vb _ _ => lenV va + lenV vb)
  case atStart => exact ⟨a, n, c, x, a2, n2, c2, y, [], _, rfl, rfl, rfl, HA, HA2, Lib.hid (TRow.nil _ _), Lib.hid (Below.refl _ _), Lib.hid rfl, HL⟩
  case round =>
    obtain ⟨a, n, c, x', a2, n2, c2, y', o, v, rfl, rfl, rfl, HA, HA2, HO, HB, HM, HL⟩ := hrel
    have hs1 := HB.out.size
    have k0 : wr.cell? ⟨w.heap.size, 0, none⟩ = some (.bool f) := by rw [HB.out.cell hnw, cell_of HN0.out]; rfl
    have k1 : wr.cell? ⟨w.heap.size, 1, none⟩ = some (.bool s) := by rw [HB.out.cell hnw, cell_of HN0.out]; rfl
    have k2 : wr.cell? ⟨w.heap.size, 2, none⟩ = some (.bool b) := by rw [HB.out.cell hnw, cell_of HN0.out]; rfl
    have hwr : w.heap.size < wr.heap.size := by omega
    by_cases hz : n = 0 ∨ n2 = 0
    · -- the end
      have HF := Lib.hid (show o ++ put1 f x' ++ put1 s y' = mrg f s b x y from by
        rw [← HM.out]
        rcases hz with e | e
        · obtain rfl : x' = [] := List.eq_nil_of_length_eq_zero (by rw [HA.out.1]; exact e)
          rw [mrg]; simp [put1]
        · obtain rfl : y' = [] := List.eq_nil_of_length_eq_zero (by rw [HA2.out.1]; exact e)
          cases x' with
          | nil => rw [mrg]; simp [put1]
          | cons p xs => rw [mrg]; simp [put1])
      have hl1 : x'.length = n := HA.out.1
      have hl2 : y'.length = n2 := HA2.out.1
      have hz1 := put1_len f x'
      have HP := Lib.hid (put8_any W1 wr _ o f a n c x' HB.out HO.out (HA.out.keep HB.out) (by have := HL.out; omega))
      have HQ := Lib.hid (show ∀ (v3 : Value) (W3 : World), Below W1.heap.size W1 W3 → TRow W3 W1.heap.size v3 (o ++ put1 f x') → Calls Try.prog 37 #[v3, .bool s, .slice a2 n2 c2] W3 (PutP W1 (mrg f s b x y)) from fun v3 W3 b3 o3 => by
        rw [← HF.out]
        exact put8_any W1 W3 v3 _ s a2 n2 c2 y' b3 o3 (HA2.out.keep b3) (by have := HL.out; rw [List.length_append]; omega))
      have K1 : W1.cell? ⟨w.heap.size, 1, none⟩ = some (.bool s) := by rw [cell_of HN0.out]; rfl
      have hm1 := HA.out.2.2.1
      have hm2 := HA2.out.2.2.1
      clear k1 k2 hl1 hl2 hz1 HO HF HL HM
      by_cases hn0 : n = 0
      · subst hn0
        clear hz
        go_wp2_with fail
        refine HP.out.mono ?_
        rintro e W3 ⟨v3, rfl, O3, B3⟩
        have k1 : W3.cell? ⟨w.heap.size, 1, none⟩ = some (.bool s) := (B3.cell hnw).trans K1
        have HP2 := Lib.hid (HQ.out v3 W3 B3 O3)
        clear O3 B3 K1 k0
        go_wp2_with fail
        refine HP2.out.mono ?_
        rintro e W4 ⟨v4, rfl, O4, B4⟩
        go_wp2
        go_ret
        exact ⟨v4, rfl, O4.mono (Nat.le_of_lt hnw), HB0.out.trans (B4.mono (Nat.le_of_lt hnw))⟩
      · obtain rfl : n2 = 0 := by omega
        have hn1 : (0 : Int) < (n : Int) := by omega
        clear hz hn0
        go_wp2_with fail
        refine HP.out.mono ?_
        rintro e W3 ⟨v3, rfl, O3, B3⟩
        have k1 : W3.cell? ⟨w.heap.size, 1, none⟩ = some (.bool s) := (B3.cell hnw).trans K1
        have HP2 := Lib.hid (HQ.out v3 W3 B3 O3)
        clear O3 B3 K1 k0
        go_wp2_with fail
        refine HP2.out.mono ?_
        rintro e W4 ⟨v4, rfl, O4, B4⟩
        go_wp2
        go_ret
        exact ⟨v4, rfl, O4.mono (Nat.le_of_lt hnw), HB0.out.trans (B4.mono (Nat.le_of_lt hnw))⟩
    · obtain ⟨p, xs, rfl⟩ : ∃ p xs, x' = p :: xs := by
        cases x' with
        | nil => exact absurd (.inl HA.out.1.symm) hz
        | cons p xs => exact ⟨p, xs, rfl⟩
      obtain ⟨q, ys, rfl⟩ : ∃ q ys, y' = q :: ys := by
        cases y' with
        | nil => exact absurd (.inr HA2.out.1.symm) hz
        | cons q ys => exact ⟨q, ys, rfl⟩
      obtain ⟨pb, po, m, k, rfl, rfl, rfl, hpb, cp, a', ha', TA⟩ := HA.out.cons
      obtain ⟨qb, qo, m2, kk2, rfl, rfl, rfl, hqb, cq, a2', ha2', TA2⟩ := HA2.out.cons
      rw [← HB.out.cell hpb] at cp
      rw [← HB.out.cell hqb] at cq
      have hpw : pb < wr.heap.size := by omega
      have hqw : qb < wr.heap.size := by omega
      have hn1 : (0 : Int) < ((m + 1 : Nat) : Int) := by omega
      have hn2 : (0 : Int) < ((m2 + 1 : Nat) : Int) := by omega
      have hm1 := HA.out.2.2.1
      have hm2 := HA2.out.2.2.1
      have HCM := Lib.hid (fun W => cmp_any p q W)
      have HTA := Lib.hid TA
      have HTA2 := Lib.hid TA2
      clear hz TA TA2
      rcases cmp_3 p q with hc | hc | hc
      · rw [hc] at HCM
        have HN := Lib.hid (mrg_lt (f := f) (s := s) (b := b) (xs := xs) (ys := ys) (show cmpL p q < 0 by omega))
        have K0 : W1.cell? ⟨w.heap.size, 0, none⟩ = some (.bool f) := by rw [cell_of HN0.out]; rfl
        have CP : W1.cell? ⟨pb, po, none⟩ = some (.string (bs p)) := by rw [← HB.out.cell hpb]; exact cp
        clear hc
        go_wp2
        go_quiet ((go_at_call 36; with_reducible exact quietL (HCM.out _)))
        have hd : Drew wr (wr.drewN nq) := ⟨nq, rfl⟩
        replace k0 : (wr.drewN nq).cell? ⟨w.heap.size, 0, none⟩ = some (.bool f) := k0
        replace cp : (wr.drewN nq).cell? ⟨pb, po, none⟩ = some (.string (bs p)) := cp
        have HP := Lib.hid (put8_one W1 (wr.drewN nq) _ o f p (bel_gbn HB.out hs1 (hd.gb none)) (HO.out.keep hd.bel) (by have := HL.out; omega))
        have hw2 : wr.heap.size = (wr.drewN nq).heap.size := rfl
        clear HO HB hd
        generalize wr.drewN nq = W2 at *
        generalize bs p = sp at *
        go_wp2_with fail
        go_region_held3 (fun w' => w'.cell? ⟨w.heap.size, 0, none⟩ = some (.bool f) ∧ w'.cell? ⟨pb, po, none⟩ = some (.string sp))
          (first
            | exact ⟨(B3.out.cell hnw).trans K0, (B3.out.cell hpb).trans CP⟩
            | go_keep)
          (first
            | (go_at_call 37
               (with_reducible refine HP.out.mono ?_)
               rintro e W3 ⟨v3, rfl, O3, B3⟩
               replace O3 := Lib.hid O3
               replace B3 := Lib.hid B3))
        clear k0 k1 k2 cp cq K0 CP
        go_wp2
        go_roundw
        case rel => exact ⟨a', m, k, xs, _, _, _, q :: ys, _, v3, rfl, rfl, rfl, HTA, HA2, O3, B3, Lib.hid (by rw [List.append_assoc, ← HN.out]; exact HM.out), Lib.hid (by have h1 := put1_len f [p]; have h2 := HL.out; rw [List.length_append]; simp only [List.length_singleton] at h1; omega)⟩
        case measure => simp [lenV]
      · rw [hc] at HCM
        have HN := Lib.hid (mrg_gt (f := f) (s := s) (b := b) (xs := xs) (ys := ys) (show 0 < cmpL p q by omega))
        have K0 : W1.cell? ⟨w.heap.size, 1, none⟩ = some (.bool s) := by rw [cell_of HN0.out]; rfl
        have CP : W1.cell? ⟨qb, qo, none⟩ = some (.string (bs q)) := by rw [← HB.out.cell hqb]; exact cq
        clear hc
        go_wp2
        go_quiet ((go_at_call 36; with_reducible exact quietL (HCM.out _)))
        have hd : Drew wr (wr.drewN nq) := ⟨nq, rfl⟩
        replace k1 : (wr.drewN nq).cell? ⟨w.heap.size, 1, none⟩ = some (.bool s) := k1
        replace cq : (wr.drewN nq).cell? ⟨qb, qo, none⟩ = some (.string (bs q)) := cq
        have HP := Lib.hid (put8_one W1 (wr.drewN nq) _ o s q (bel_gbn HB.out hs1 (hd.gb none)) (HO.out.keep hd.bel) (by have := HL.out; omega))
        have hw2 : wr.heap.size = (wr.drewN nq).heap.size := rfl
        clear HO HB hd
        generalize wr.drewN nq = W2 at *
        generalize bs q = sp at *
        go_wp2_with fail
        go_region_held3 (fun w' => w'.cell? ⟨w.heap.size, 1, none⟩ = some (.bool s) ∧ w'.cell? ⟨qb, qo, none⟩ = some (.string sp))
          (first
            | exact ⟨(B3.out.cell hnw).trans K0, (B3.out.cell hqb).trans CP⟩
            | go_keep)
          (first
            | (go_at_call 37
               (with_reducible refine HP.out.mono ?_)
               rintro e W3 ⟨v3, rfl, O3, B3⟩
               replace O3 := Lib.hid O3
               replace B3 := Lib.hid B3))
        clear k0 k1 k2 cp cq K0 CP
        go_wp2
        go_roundw
        case rel => exact ⟨_, _, _, p :: xs, a2', m2, kk2, ys, _, v3, rfl, rfl, rfl, HA, HTA2, O3, B3, Lib.hid (by rw [List.append_assoc, ← HN.out]; exact HM.out), Lib.hid (by have h1 := put1_len s [q]; have h2 := HL.out; rw [List.length_append]; simp only [List.length_singleton] at h1; omega)⟩
        case measure => simp [lenV]
      · rw [hc] at HCM
        have HN := Lib.hid (mrg_eq (f := f) (s := s) (b := b) (xs := xs) (ys := ys) (show cmpL p q = 0 by omega))
        have K0 : W1.cell? ⟨w.heap.size, 2, none⟩ = some (.bool b) := by rw [cell_of HN0.out]; rfl
        have CP : W1.cell? ⟨pb, po, none⟩ = some (.string (bs p)) := by rw [← HB.out.cell hpb]; exact cp
        clear hc
        go_wp2
        go_quiet ((go_at_call 36; with_reducible exact quietL (HCM.out _)))
        have hd : Drew wr (wr.drewN nq) := ⟨nq, rfl⟩
        replace k2 : (wr.drewN nq).cell? ⟨w.heap.size, 2, none⟩ = some (.bool b) := k2
        replace cp : (wr.drewN nq).cell? ⟨pb, po, none⟩ = some (.string (bs p)) := cp
        have HP := Lib.hid (put8_one W1 (wr.drewN nq) _ o b p (bel_gbn HB.out hs1 (hd.gb none)) (HO.out.keep hd.bel) (by have := HL.out; omega))
        have hw2 : wr.heap.size = (wr.drewN nq).heap.size := rfl
        clear HO HB hd
        generalize wr.drewN nq = W2 at *
        generalize bs p = sp at *
        go_wp2_with fail
        go_region_held3 (fun w' => w'.cell? ⟨w.heap.size, 2, none⟩ = some (.bool b) ∧ w'.cell? ⟨pb, po, none⟩ = some (.string sp))
          (first
            | exact ⟨(B3.out.cell hnw).trans K0, (B3.out.cell hpb).trans CP⟩
            | go_keep)
          (first
            | (go_at_call 37
               (with_reducible refine HP.out.mono ?_)
               rintro e W3 ⟨v3, rfl, O3, B3⟩
               replace O3 := Lib.hid O3
               replace B3 := Lib.hid B3))
        clear k0 k1 k2 cp cq K0 CP
        go_wp2
        go_quiet (fail)
        go_wp2
        go_roundw
        case rel => exact ⟨a', m, k, xs, a2', m2, kk2, ys, _, v3, rfl, rfl, rfl, HTA, HTA2, O3, Lib.hid (bel_gbn B3.out B3.out.size (Drew.gb ⟨_, rfl⟩ none)), Lib.hid (by rw [List.append_assoc, ← HN.out]; exact HM.out), Lib.hid (by have h1 := put1_len b [p]; have h2 := HL.out; rw [List.length_append]; simp only [List.length_singleton] at h1; omega)⟩
        case measure => simp [lenV]; omega

end Go.Proofs.Ytjpighkbfldloaa
