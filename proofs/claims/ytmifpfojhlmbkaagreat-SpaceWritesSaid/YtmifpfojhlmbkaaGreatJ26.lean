/-
  Contracts.
-/
import Derived.Test.YtmifpfojhlmbkaaGreatJ0
import Derived.Test.YtmifpfojhlmbkaaGreatJ2
import Derived.Test.YtmifpfojhlmbkaaGreatJ4
import Derived.Test.YtmifpfojhlmbkaaGreatJ18
import Derived.Test.YtmifpfojhlmbkaaGreatJ25
namespace Go.Proofs.YtmifpfojhlmbkaaGreat
open Lib (hid)
set_option maxRecDepth 100000
set_option maxHeartbeats 16000000
set_option linter.unusedVariables false
set_option linter.unusedSimpArgs false
structure MadeR (r : Ru) (s d : Ser) : Prop where
  at_ : ∀ x ∈ d.z, clo r s.mx x.1 ∧ startB x.1 r.size r.align = x.1
  get : ∀ t, 0 ≤ t → t < 1099511627776 → clo r s.mx (startB t r.size r.align) → s.line ≤ startB t r.size r.align → d.line ≤ startB t r.size r.align → getL d.z (startB t r.size r.align) = expB r s (startB t r.size r.align)
  has : ∀ x ∈ s.z, clo r s.mx (startB x.1 r.size r.align) → d.line ≤ startB x.1 r.size r.align → ∃ v, (startB x.1 r.size r.align, v) ∈ d.z
theorem get_mem {z : List (Int × Int)} (hr : Rising z) {t v : Int} (h : getL z t = (v, 0)) : (t, v) ∈ z := by
  unfold getL at h
  split at h
  · rename_i hlt
    obtain ⟨a, b⟩ := (at_time hr t).1 hlt
    simp only [Prod.mk.injEq, and_true] at h
    have := at_mem a
    rw [b, h] at this
    exact this
  · simp at h
theorem start_bk {r : Ru} (hr : rightB r.size r.align) {t u : Int} (ht : 0 ≤ t ∧ t < 1099511627776) (hu : 0 ≤ u ∧ u < 1099511627776) :
    startB u r.size r.align = startB t r.size r.align ↔ startB t r.size r.align ≤ u ∧ u < endB (startB t r.size r.align) r.size r.align := by
  rw [(endB_is hr ht.1 (show t ≤ 1099511627776 by omega)).1]
  exact same_bucket hr ht.1 (by omega) hu.1 (by omega)
theorem was_in {r : Ru} (hr : rightB r.size r.align) {m t u : Int} (ht : 0 ≤ t ∧ t < 1099511627776) (hm1 : m < 1099511627776) (hn : ¬ clo r m (startB t r.size r.align)) (hu : startB t r.size r.align ≤ u) (hum : u ≤ m) (hu0 : 0 ≤ u) : startB m r.size r.align = startB t r.size r.align := by
  rw [start_bk hr ht ⟨by omega, hm1⟩]
  refine ⟨by omega, ?_⟩
  unfold clo at hn
  have e := (endB_is hr ht.1 (show t ≤ 1099511627776 by omega))
  rw [e.1] at hn ⊢
  refine Classical.byContradiction fun k => hn ?_
  have hnx := endB_next hr ht.1 (show t ≤ 1099511627776 by omega) (by omega)
  have h2 := startB_mono hr (show 0 ≤ endB t r.size r.align by omega) (show endB t r.size r.align ≤ m by omega) (show m ≤ 1099511627776 by omega)
  omega
theorem Std.time {s : Ser} (h : Std s) : ∀ x ∈ s.z, 0 ≤ x.1 ∧ x.1 < 1099511627776 := fun x hx => by
  have := h.pos x hx
  have := h.z1 x hx
  have := h.m1
  omega
theorem MadeR.write {r : Ru} {s d : Ser} {T V p : Int} (hr : rightU r) (hs : Std s) (hd : Std d) (h : MadeR r s d) (he : addE s T V p = 0) (hV : in64 V) (hn : s.z.length < 1000000) :
    MadeR r (addS5 s T V p) (remS r (addS5 s T V p) d (touchL s.mx T)) := by
  have hB := hr.2.2.2.2
  have hK := hr.2.2.2.1
  have hT : 0 ≤ T ∧ T < 1099511627776 := by
    unfold addE at he
    by_cases hb : badS s T p
    · rw [if_pos hb] at he; omega
    · unfold badS at hb; omega
  have hs' := hs.add T V p hV
  have hmx := mx_add he
  have hl := line_addS s T V p
  have hlen := add_len hs.rise T V p
  have ht : ∀ t ∈ touchL s.mx T, 0 ≤ t ∧ t < 1099511627776 := fun t ht => by
    have := hs.m1
    unfold touchL at ht
    split at ht
    · rcases List.mem_cons.1 ht with e | e
      · omega
      · have := List.mem_singleton.1 e; omega
    · have := List.mem_singleton.1 ht; omega
  have hTm : T ∈ touchL s.mx T := by unfold touchL; split <;> simp
  have hm0 := hs.m0
  have hm1 := hs.m1
  have hmo : ∀ x ∈ (addS5 s T V p).z, x.1 = T ∨ x ∈ s.z := fun x hx => mem_add hs.rise hx
  have hback : ∀ x ∈ s.z, x.1 ≠ T → (addS5 s T V p).line ≤ x.1 → x ∈ (addS5 s T V p).z := fun x hx hne hle => mem_add_back hs.rise hx hne hle
  generalize hS : addS5 s T V p = s' at *
  have hv := vBk_in (r := r) hs'.all (by omega)
  have hbs := starts_in (mx := s'.mx) hB ht
  obtain ⟨k1, k2, k3, k4, _⟩ := rem_spec hv (startsL r s'.mx (touchL s.mx T)) d (fun b hb => ⟨(hbs b hb).1, (hbs b hb).2.1⟩) hd
  have hds : (startsL r s'.mx (touchL s.mx T)).foldl (makeS r s') d = remS r s' d (touchL s.mx T) := rfl
  rw [hds] at k1 k2 k3 k4
  generalize remS r s' d (touchL s.mx T) = d' at *
  have hcl : ∀ b, clo r s.mx b → clo r s'.mx b := fun b k => clo_mono hB hm0 (by omega) (by have := hs'.m1; omega) k
  have hout : ∀ t, 0 ≤ t → t < 1099511627776 → clo r s'.mx (startB t r.size r.align) → startB t r.size r.align ∉ startsL r s'.mx (touchL s.mx T) →
      startB T r.size r.align ≠ startB t r.size r.align ∧ (clo r s.mx (startB t r.size r.align) ∨ ∀ x ∈ s.z, ¬ startB t r.size r.align ≤ x.1) := fun t t0 t1 hc hb => by
    have h1 : startB T r.size r.align ≠ startB t r.size r.align := fun e => hb (mem_starts.2 ⟨T, hTm, e, hc⟩)
    refine ⟨h1, ?_⟩
    by_cases hcs : clo r s.mx (startB t r.size r.align)
    · exact .inl hcs
    · refine .inr fun x hx hle => ?_
      have hx1 := hs.z1 x hx
      have hx0 := (hs.time x hx).1
      have e := was_in hB ⟨t0, t1⟩ hm1 hcs hle hx1 hx0
      have hgt : s.mx < T := Classical.byContradiction fun k => hcs (by rw [hmx, show max s.mx T = s.mx from by omega] at hc; exact hc)
      refine hb (mem_starts.2 ⟨s.mx, ?_, e, hc⟩)
      unfold touchL
      rw [if_pos ⟨by omega, hgt⟩]; simp
  refine ⟨fun x hx => ?_, fun t t0 t1 hc hsl hdl => ?_, fun x hx hc hdl => ?_⟩
  · rcases k4 x hx with q | ⟨q, _⟩
    · exact ⟨hcl _ (h.at_ x q).1, (h.at_ x q).2⟩
    · obtain ⟨t, h1, h2, h3⟩ := mem_starts.1 q
      exact ⟨h3, (hbs _ q).2.2⟩
  · rw [k3 _ hdl]
    by_cases hb : startB t r.size r.align ∈ startsL r s'.mx (touchL s.mx T)
    · rw [if_pos hb]
    · rw [if_neg hb]
      obtain ⟨h1, h2⟩ := hout t t0 t1 hc hb
      have hnT : ∀ x : Int × Int, startB t r.size r.align ≤ x.1 → x.1 < endB (startB t r.size r.align) r.size r.align → x.1 ≠ T := fun x a b e => h1 ((start_bk hB ⟨t0, t1⟩ hT).2 (by rw [← e]; exact ⟨a, b⟩))
      have hsame : (∀ x : Int × Int, startB t r.size r.align ≤ x.1 → x.1 < endB (startB t r.size r.align) r.size r.align → (x ∈ s'.z ↔ x ∈ s.z)) := fun x a b =>
        ⟨fun q => (hmo x q).resolve_left (hnT x a b), fun q => hback x q (hnT x a b) (by omega)⟩
      have hbk := bk_same (r := r) (b := startB t r.size r.align) hs.rise hs'.rise hsame
      rcases h2 with h2 | h2
      · rw [h.get t t0 t1 h2 (by omega) (by omega)]
        unfold expB isBk vBk
        rw [hbk]
      · have e0 : ∀ x, x ∉ inBk r s' (startB t r.size r.align) := fun x q => by
          rw [hbk, mem_bk] at q
          exact h2 x q.1 q.2.1
        unfold expB
        rw [bk_no hK e0]
        refine getL_no hd.rise (fun x q e => ?_)
        by_cases hcs : clo r s.mx (startB t r.size r.align)
        · have := (h.at_ x q).1
          have h3 := h.get t t0 t1 hcs (by omega) (by omega)
          rw [getL_mem hd.rise (show (startB t r.size r.align, x.2) ∈ d.z from by rw [← e]; exact q)] at h3
          unfold expB at h3
          have e1 : ∀ y, y ∉ inBk r s (startB t r.size r.align) := fun y k => e0 y (by rw [hbk]; exact k)
          rw [bk_no hK e1] at h3
          simp at h3
        · exact hcs (by rw [← e]; exact (h.at_ x q).1)
  · have hx' := hs'.time x hx
    have hin : x ∈ inBk r s' (startB x.1 r.size r.align) := by
      rw [mem_bk]
      have := (start_bk hB hx' hx').1 rfl
      exact ⟨hx, this.1, this.2⟩
    have hg := k3 _ hdl
    by_cases hb : startB x.1 r.size r.align ∈ startsL r s'.mx (touchL s.mx T)
    · rw [if_pos hb] at hg
      unfold expB at hg
      rw [bk_yes hK hin] at hg
      exact ⟨_, get_mem k1.rise hg⟩
    · rw [if_neg hb] at hg
      obtain ⟨h1, h2⟩ := hout x.1 hx'.1 hx'.2 hc hb
      have hxs : x ∈ s.z := (hmo x hx).resolve_left (fun e => h1 (by rw [e]))
      rcases h2 with h2 | h2
      · obtain ⟨v, hv'⟩ := h.has x hxs h2 (by omega)
        rw [getL_mem hd.rise hv'] at hg
        exact ⟨v, get_mem k1.rise hg⟩
      · exact absurd (mem_bk.1 hin).2.1 (h2 x hxs)
theorem MadeR.del {r : Ru} {s d : Ser} {x y : Int} (hr : rightU r) (hs : Std s) (hd : Std d) (h : MadeR r s d) (hn : s.z.length < 1000000) :
    MadeR r (delS s x y) (remS r (delS s x y) d (timesL (s.z.filter (inB x y)))) ∧ (remS r (delS s x y) d (timesL (s.z.filter (inB x y)))).z.length ≤ d.z.length ∧ Std (remS r (delS s x y) d (timesL (s.z.filter (inB x y)))) := by
  have hB := hr.2.2.2.2
  have hK := hr.2.2.2.1
  have hs' := hs.del x y
  have hmx : (delS s x y).mx = s.mx := rfl
  have hli : (delS s x y).line = s.line := rfl
  have hlen := del_len s x y
  have hmem : ∀ u, u ∈ (delS s x y).z ↔ u ∈ s.z ∧ (u.1 < x ∨ y < u.1) := fun u => dropL_mem hs.rise x y u
  have ht : ∀ t ∈ timesL (s.z.filter (inB x y)), 0 ≤ t ∧ t < 1099511627776 := fun t ht => by
    obtain ⟨u, hu, rfl⟩ := List.mem_map.1 ht
    exact hs.time u (List.mem_filter.1 hu).1
  have hgone : ∀ u ∈ s.z, ¬ (u.1 < x ∨ y < u.1) → u.1 ∈ timesL (s.z.filter (inB x y)) := fun u hu hk => by
    refine List.mem_map.2 ⟨u, List.mem_filter.2 ⟨hu, ?_⟩, rfl⟩
    unfold inB
    simp only [Bool.and_eq_true, decide_eq_true_eq]; omega
  generalize timesL (s.z.filter (inB x y)) = ts at *
  generalize delS s x y = s' at *
  have hv := vBk_in (r := r) hs'.all (by omega)
  have hbs := starts_in (mx := s'.mx) hB ht
  obtain ⟨k1, k2, k3, k4, _⟩ := rem_spec hv (startsL r s'.mx ts) d (fun b hb => ⟨(hbs b hb).1, (hbs b hb).2.1⟩) hd
  have hds : (startsL r s'.mx ts).foldl (makeS r s') d = remS r s' d ts := rfl
  rw [hds] at k1 k2 k3 k4
  generalize remS r s' d ts = d' at *
  have hold : ∀ u ∈ d'.z, ∃ v, (u.1, v) ∈ d.z := fun u hu => by
    rcases k4 u hu with q | ⟨q1, q2⟩
    · exact ⟨u.2, q⟩
    · obtain ⟨w, hw⟩ := bk_ex hK q2
      obtain ⟨a, b, c⟩ := mem_bk.1 hw
      obtain ⟨u0, u1, u2⟩ := hbs _ q1
      have hwt := hs'.time w a
      have e : startB w.1 r.size r.align = u.1 := by
        rw [← u2]
        exact (start_bk hB ⟨u0, u1⟩ hwt).2 (by rw [u2]; exact ⟨b, c⟩)
      obtain ⟨t, _, _, hc⟩ := mem_starts.1 q1
      have hdl := k1.z0 u hu
      have := h.has w ((hmem w).1 a).1 (by rw [e, ← hmx]; exact hc) (by rw [e]; omega)
      rw [e] at this; exact this
  refine ⟨⟨fun u hu => ?_, fun t t0 t1 hc hsl hdl => ?_, fun u hu hc hdl => ?_⟩, ?_, k1⟩
  · rcases k4 u hu with q | ⟨q, _⟩
    · rw [hmx]; exact h.at_ u q
    · obtain ⟨t, _, _, h3⟩ := mem_starts.1 q
      exact ⟨h3, (hbs _ q).2.2⟩
  · rw [k3 _ hdl]
    by_cases hb : startB t r.size r.align ∈ startsL r s'.mx ts
    · rw [if_pos hb]
    · rw [if_neg hb, h.get t t0 t1 (by rw [← hmx]; exact hc) (by omega) (by omega)]
      have hbk := bk_same (r := r) (b := startB t r.size r.align) hs.rise hs'.rise (fun u a b => by
        rw [hmem]
        refine ⟨fun q => q.1, fun q => ⟨q, Classical.byContradiction fun k => hb (mem_starts.2 ⟨u.1, hgone u q k, ?_, hc⟩)⟩⟩
        exact (start_bk hB ⟨t0, t1⟩ (hs.time u q)).2 ⟨a, b⟩)
      unfold expB isBk vBk
      rw [hbk]
  · have hu' := hs'.time u hu
    have hin : u ∈ inBk r s' (startB u.1 r.size r.align) := by
      rw [mem_bk]
      have := (start_bk hB hu' hu').1 rfl
      exact ⟨hu, this.1, this.2⟩
    have hg := k3 _ hdl
    by_cases hb : startB u.1 r.size r.align ∈ startsL r s'.mx ts
    · rw [if_pos hb] at hg
      unfold expB at hg
      rw [bk_yes hK hin] at hg
      exact ⟨_, get_mem k1.rise hg⟩
    · rw [if_neg hb] at hg
      obtain ⟨v, hv'⟩ := h.has u ((hmem u).1 hu).1 (by rw [← hmx]; exact hc) (by omega)
      rw [getL_mem hd.rise hv'] at hg
      exact ⟨v, get_mem k1.rise hg⟩
  · have hnd : (d'.z.map (·.1)).Nodup := by
      rw [List.Nodup, List.pairwise_map]
      exact ((rising_pw _).1 k1.rise).imp (fun h e => by omega)
    have := len_le_of (b := d.z.map (·.1)) hnd (fun t ht => by
      obtain ⟨u, hu, rfl⟩ := List.mem_map.1 ht
      obtain ⟨v, hv'⟩ := hold u hu
      exact List.mem_map.2 ⟨_, hv', rfl⟩)
    simpa using this
theorem MadeR.link {r : Ru} {s d : Ser} (hr : rightU r) (hs : Std s) (hd : Std d) (hn : s.z.length < 1000000) :
    MadeR r s (remS r s (delS d 0 1099511627776) (timesL s.z)) ∧ (remS r s (delS d 0 1099511627776) (timesL s.z)).z.length ≤ s.z.length ∧ Std (remS r s (delS d 0 1099511627776) (timesL s.z)) := by
  have hB := hr.2.2.2.2
  have hK := hr.2.2.2.1
  have hd0 := hd.del 0 1099511627776
  have hz : (delS d 0 1099511627776).z = [] := List.eq_nil_iff_forall_not_mem.2 fun u hu => by
    obtain ⟨a, b⟩ := (dropL_mem hd.rise _ _ _).1 hu
    have := hd.time u a
    omega
  have ht : ∀ t ∈ timesL s.z, 0 ≤ t ∧ t < 1099511627776 := fun t ht => by
    obtain ⟨u, hu, rfl⟩ := List.mem_map.1 ht
    exact hs.time u hu
  have htl : (timesL s.z).length = s.z.length := by unfold timesL; simp
  have hin : ∀ u ∈ s.z, u.1 ∈ timesL s.z := fun u hu => List.mem_map.2 ⟨u, hu, rfl⟩
  generalize timesL s.z = ts at *
  generalize delS d 0 1099511627776 = e0 at *
  have hv := vBk_in (r := r) hs.all (by omega)
  have hbs := starts_in (mx := s.mx) hB ht
  have hsl := starts_len r s.mx ts
  obtain ⟨k1, k2, k3, k4, k5⟩ := rem_spec hv (startsL r s.mx ts) e0 (fun b hb => ⟨(hbs b hb).1, (hbs b hb).2.1⟩) hd0
  have hds : (startsL r s.mx ts).foldl (makeS r s) e0 = remS r s e0 ts := rfl
  rw [hds] at k1 k2 k3 k4 k5
  generalize remS r s e0 ts = d' at *
  refine ⟨⟨fun u hu => ?_, fun t t0 t1 hc hsl hdl => ?_, fun u hu hc hdl => ?_⟩, by rw [hz] at k5; simp at k5; omega, k1⟩
  · rcases k4 u hu with q | ⟨q, _⟩
    · rw [hz] at q; cases q
    · obtain ⟨t, _, _, h3⟩ := mem_starts.1 q
      exact ⟨h3, (hbs _ q).2.2⟩
  · rw [k3 _ hdl]
    by_cases hb : startB t r.size r.align ∈ startsL r s.mx ts
    · rw [if_pos hb]
    · rw [if_neg hb, hz]
      have e : ∀ x, x ∉ inBk r s (startB t r.size r.align) := fun x q => by
        obtain ⟨a, b, c⟩ := mem_bk.1 q
        exact hb (mem_starts.2 ⟨x.1, hin x a, (start_bk hB ⟨t0, t1⟩ (hs.time x a)).2 ⟨b, c⟩, hc⟩)
      unfold expB
      rw [bk_no hK e]
      rfl
  · have hu' := hs.time u hu
    have hi : u ∈ inBk r s (startB u.1 r.size r.align) := by
      rw [mem_bk]
      have := (start_bk hB hu' hu').1 rfl
      exact ⟨hu, this.1, this.2⟩
    have hg := k3 _ hdl
    rw [if_pos (mem_starts.2 ⟨u.1, hin u hu, rfl, hc⟩)] at hg
    unfold expB at hg
    rw [bk_yes hK hi] at hg
    exact ⟨_, get_mem k1.rise hg⟩
theorem mem_alt {s : Ser} (h : Std s) (ret p : Int) (x : Int × Int) : x ∈ (altS s ret p).z ↔ x ∈ s.z ∧ (altS s ret p).line ≤ x.1 := by
  unfold altS
  split
  · rw [mem_trim (s := ⟨ret, p, s.mx, s.line, s.z⟩) h.rise]
    refine and_congr_right fun hx => ?_
    have := (h.time x hx).1
    omega
  · exact ⟨fun q => ⟨q, h.z0 x q⟩, fun q => q.1⟩
theorem line_alt12 (s : Ser) (ret p : Int) : s.line ≤ (altS s ret p).line := by
  unfold altS
  split
  · exact line_trimS ⟨ret, p, s.mx, s.line, s.z⟩
  · exact Int.le_refl _
theorem mx_alt (s : Ser) (ret p : Int) : (altS s ret p).mx = s.mx := by unfold altS; split <;> rfl
theorem MadeR.altS {r : Ru} {s d : Ser} (ret p : Int) (hr : rightU r) (hs : Std s) (hd : Std d) (h : MadeR r s d) : MadeR r (altS s ret p) d := by
  have hB := hr.2.2.2.2
  have hs' := hs.alt ret p
  have hm := mem_alt hs ret p
  have hl := line_alt12 s ret p
  have hx := mx_alt s ret p
  generalize Go.Proofs.YtmifpfojhlmbkaaGreat.altS s ret p = s' at *
  refine ⟨fun x q => by rw [hx]; exact h.at_ x q, fun t t0 t1 hc hsl hdl => ?_, fun x q hc hdl => h.has x ((hm x).1 q).1 (by rw [← hx]; exact hc) hdl⟩
  rw [h.get t t0 t1 (by rw [← hx]; exact hc) (by omega) hdl]
  have hbk := bk_same (r := r) (b := startB t r.size r.align) hs.rise hs'.rise (fun u a b => by
    rw [hm]; exact ⟨fun q => q.1, fun q => ⟨q, by omega⟩⟩)
  unfold expB isBk vBk
  rw [hbk]
theorem MadeR.altD {r : Ru} {s d : Ser} (ret p : Int) (hd : Std d) (h : MadeR r s d) : MadeR r s (Go.Proofs.YtmifpfojhlmbkaaGreat.altS d ret p) := by
  have hd' := hd.alt ret p
  have hm := mem_alt hd ret p
  have hl := line_alt12 d ret p
  generalize Go.Proofs.YtmifpfojhlmbkaaGreat.altS d ret p = d' at *
  refine ⟨fun x q => h.at_ x ((hm x).1 q).1, fun t t0 t1 hc hsl hdl => ?_, fun x q hc hdl => ?_⟩
  · rw [← h.get t t0 t1 hc hsl (by omega)]
    refine getL_same hd'.rise hd.rise (fun v => ?_)
    rw [hm]
    exact ⟨fun q => q.1, fun q => ⟨q, hdl⟩⟩
  · obtain ⟨v, hv⟩ := h.has x q hc (by omega)
    exact ⟨v, (hm _).2 ⟨hv, hdl⟩⟩
open Go.RowKit
def pt (b : Nat) : Value := .pointer (some ⟨b, 0, none⟩)
def heldV (sz : Int) (b : Nat) : Value := .agg #[.int .i64 sz, .pointer (some ⟨b, 0, none⟩)]
structure Mem where
  mb : Nat
  ix : Nat
  bl : Nat
  bn : Nat
  ρ : Rho
  gx : Nat
  bi : Nat
  bf : Nat
  F : Nat → Prop
  B : Tx → Nat
def Own (m : Mem) (E : List Ent) : Nat → Prop := fun i => i = m.mb ∨ FA m.ρ i ∨ m.F i ∨ ∃ k, k ∈ keysL E ∧ i = m.B k
def SpCell (w : World) (x : Nat) (m : Mem) : Prop := w.heap[x]? = some (.cells #[mp m.mb, pt m.ix, pt m.gx] 98 (0, 0))
theorem SpCell.c0 {w : World} {x : Nat} {m : Mem} (h : SpCell w x m) : w.cell? ⟨x, 0, none⟩ = some (mp m.mb) := by rw [cell_of h]; rfl
theorem SpCell.c1 {w : World} {x : Nat} {m : Mem} (h : SpCell w x m) : w.cell? ⟨x, 1, none⟩ = some (.pointer (some ⟨m.ix, 0, none⟩)) := by rw [cell_of h]; rfl
theorem SpCell.c2 {w : World} {x : Nat} {m : Mem} (h : SpCell w x m) : w.cell? ⟨x, 2, none⟩ = some (.pointer (some ⟨m.gx, 0, none⟩)) := by rw [cell_of h]; rfl
def HeldAt (w : World) (b : Nat) (E : List Ent) (Z : Tx → Int) (B : Tx → Nat) : Prop := ∃ L, MapAt w b L ∧ ∀ k, look L k = if k ∈ keysL E then some (heldV (Z k) (B k)) else none
theorem HeldAt.lt {w : World} {b : Nat} {E : List Ent} {Z : Tx → Int} {B : Tx → Nat} (h : HeldAt w b E Z B) : b < w.heap.size := by
  obtain ⟨L, h1, _⟩ := h; exact h1.lt
theorem HeldAt.isMap {w : World} {b : Nat} {E : List Ent} {Z : Tx → Int} {B : Tx → Nat} (h : HeldAt w b E Z B) : ∃ es c, w.heap[b]? = some (.map es c) := by
  obtain ⟨L, h1, _⟩ := h; exact h1.isMap
theorem HeldAt.same {w w' : World} {b : Nat} {E : List Ent} {Z : Tx → Int} {B : Tx → Nat} (h : HeldAt w b E Z B) (e : w'.heap[b]? = w.heap[b]?) : HeldAt w' b E Z B := by
  obtain ⟨L, h1, h2⟩ := h; exact ⟨L, h1.same e, h2⟩
structure SpAt (w : World) (x : Nat) (m : Mem) (P : Spc) : Prop where
  cell : SpCell w x m
  map : HeldAt w m.mb P.E P.Z m.B
  ix : IxAt w m.ix m.bl m.bn m.ρ P.E
  gr : GrAt w m.gx m.bi m.bf m.F P.G
  ser : ∀ k, P.has k → SerAt w (m.B k) (P.Z k) (P.S k)
  inj : ∀ k j, P.has k → P.has j → m.B k = m.B j → k = j
  ma : ¬ FA m.ρ m.mb
  mf : ¬ m.F m.mb
  fa : ∀ i, m.F i → ¬ FA m.ρ i
  ok : Ok12 P
theorem SpAt.bNe {w : World} {x : Nat} {m : Mem} {P : Spc} (h : SpAt w x m P) {k : Tx} (hk : P.has k) : m.B k ≠ m.mb ∧ ¬ FA m.ρ (m.B k) ∧ ¬ m.F (m.B k) := by
  obtain ⟨cs, hc⟩ := (h.ser k hk).cellS
  refine ⟨fun e => ?_, fun f => ?_, fun f => ?_⟩
  · obtain ⟨es, c, hm⟩ := h.map.isMap
    rw [← e, hc] at hm; cases hm
  · cases e : m.ρ (m.B k) with
    | none => exact f e
    | some r =>
      obtain ⟨es, c, hm⟩ := h.ix.ok _ r e
      rw [hc] at hm; cases hm
  · rcases h.gr.kind _ f with ⟨es, c, hm⟩ | ⟨cs', g, hm⟩
    · rw [hc] at hm; cases hm
    · rw [hc] at hm; cases hm
theorem SpAt.xlt {w : World} {x : Nat} {m : Mem} {P : Spc} (h : SpAt w x m P) : x < w.heap.size := heap_lt h.cell
theorem SpAt.lt {w : World} {x : Nat} {m : Mem} {P : Spc} (h : SpAt w x m P) {i : Nat} (hi : Own m P.E i) : i < w.heap.size := by
  rcases hi with rfl | f | f | ⟨k, hk, rfl⟩
  · exact h.map.lt
  · exact h.ix.lt f
  · exact h.gr.lt i f
  · exact (h.ser k hk).lt
theorem SpAt.ts {G : Nat → Prop} {w w' : World} {x : Nat} {m : Mem} {P : Spc} (h : SpAt w x m P) (t : Ts G w w') (hG : ∀ i, G i → ¬ Own m P.E i) : SpAt w' x m P where
  cell := t.cells _ _ _ _ (by decide) (by decide) h.cell
  map := h.map.same (t.block h.map.lt (fun g => hG _ g (.inl rfl)))
  ix := h.ix.ts t (fun i _ f g => hG i g (.inr (.inl f)))
  gr := h.gr.ts t (fun i f g => hG i g (.inr (.inr (.inl f))))
  ser := fun k hk => (h.ser k hk).ts t (fun g => hG _ g (.inr (.inr (.inr ⟨k, hk, rfl⟩))))
  inj := h.inj
  ma := h.ma
  mf := h.mf
  fa := h.fa
  ok := h.ok
theorem SpAt.keep {w w' : World} {x : Nat} {m : Mem} {P : Spc} (h : SpAt w x m P) (b : Below w.heap.size w w') : SpAt w' x m P := h.ts (G := fun _ => False) (.of b) (fun _ g => g.elim)
structure SpTurn (w w' : World) (x : Nat) (m m' : Mem) (E : List Ent) (P' : Spc) : Prop where
  sp : SpAt w' x m' P'
  ext : ∀ i, Own m' P'.E i → Own m E i ∨ w.heap.size ≤ i
  ts : Ts (Own m E) w w'
theorem SpTurn.refl {w : World} {x : Nat} {m : Mem} {P : Spc} (h : SpAt w x m P) : SpTurn w w x m m P.E P := ⟨h, fun _ f => .inl f, .refl _ _⟩
theorem SpTurn.below {w w' : World} {x : Nat} {m : Mem} {P : Spc} (h : SpAt w x m P) (b : Below w.heap.size w w') : SpTurn w w' x m m P.E P := ⟨h.keep b, fun _ f => .inl f, .of b⟩
theorem SpTurn.pre {w w1 w2 : World} {x : Nat} {m m' : Mem} {E : List Ent} {P' : Spc} (b : Below w.heap.size w w1) (h : SpTurn w1 w2 x m m' E P') : SpTurn w w2 x m m' E P' :=
  ⟨h.sp, fun i f => (h.ext i f).imp id (fun k => Nat.le_trans b.size k), h.ts.afterB b⟩
theorem SpTurn.thenB {w w1 w2 : World} {x : Nat} {m m' : Mem} {E : List Ent} {P' : Spc} (h : SpTurn w w1 x m m' E P') (b : Below w1.heap.size w1 w2) : SpTurn w w2 x m m' E P' :=
  ⟨h.sp.keep b, h.ext, h.ts.thenB b⟩
theorem SpTurn.trans {w w1 w2 : World} {x : Nat} {m m1 m2 : Mem} {E : List Ent} {P1 P2 : Spc} (h : SpTurn w w1 x m m1 E P1) (k : SpTurn w1 w2 x m1 m2 P1.E P2) : SpTurn w w2 x m m2 E P2 :=
  ⟨k.sp, fun i f => by
    rcases k.ext i f with q | q
    · exact h.ext i q
    · exact .inr (Nat.le_trans h.ts.size q), h.ts.trans k.ts (fun i hi g => (h.ext i g).resolve_right (by omega))⟩
theorem SpAt.serTurn {w w' : World} {x : Nat} {m : Mem} {P : Spc} {k : Tx} {s' : Ser} (h : SpAt w x m P) (hk : P.has k) (g : w.grownBy w' (some (m.B k))) (hs : SerAt w' (m.B k) (P.Z k) s') (hS : Std s') :
    SpTurn w w' x m m P.E { P with S := upd P.S k s' } := by
  obtain ⟨n1, n2, n3⟩ := h.bNe hk
  have t : Ts (fun i => i = m.B k) w w' := .ser (h.ser k hk) g
  refine ⟨⟨t.cells _ _ _ _ (by decide) (by decide) h.cell, h.map.same (t.block h.map.lt (fun e => n1 e.symm)), h.ix.ts t (fun i _ f e => n2 (e ▸ f)), h.gr.ts t (fun i f e => n3 (by have e' : i = m.B k := e; rw [← e']; exact f)), fun j hj => ?_, h.inj, h.ma, h.mf, h.fa, ⟨h.ok.gE, h.ok.gG, h.ok.ends, fun j hj => ?_, h.ok.siz⟩⟩, fun _ f => .inl f, t.mono (fun i _ e => .inr (.inr (.inr ⟨k, hk, e⟩)))⟩
  · by_cases e : j = k
    · subst e
      show SerAt w' (m.B j) (P.Z j) (upd P.S j s' j)
      rw [upd_k]; exact hs
    · show SerAt w' (m.B j) (P.Z j) (upd P.S k s' j)
      rw [upd_n _ _ e]
      exact (h.ser j hj).ts t (fun e' => e (h.inj j k hj hk e'))
  · by_cases e : j = k
    · subst e
      show Std (upd P.S j s' j)
      rw [upd_k]; exact hS
    · show Std (upd P.S k s' j)
      rw [upd_n _ _ e]; exact h.ok.std j hj
theorem SpAt.grTurn {w w' : World} {x : Nat} {m : Mem} {P : Spc} {F' : Nat → Prop} {G' : List Ru} (h : SpAt w x m P) (t : GrTurn w w' m.gx m.bi m.bf m.F F' G') (he : ∀ r ∈ G', P.has r.src ∧ P.has r.dst) :
    SpTurn w w' x m { m with F := F' } P.E { P with G := G' } := by
  have ts : Ts m.F w w' := .gr h.gr t
  have hF : ∀ i, F' i → ¬ FA m.ρ i := fun i f a => by
    rcases t.ext i f with q | q
    · exact h.fa i q a
    · have := h.ix.lt a; omega
  refine ⟨⟨ts.cells _ _ _ _ (by decide) (by decide) h.cell, h.map.same (ts.block h.map.lt h.mf), h.ix.ts ts (fun i _ a f => h.fa i f a), t.gr, fun j hj => (h.ser j hj).ts ts (h.bNe hj).2.2, h.inj, h.ma, fun f => ?_, hF, ⟨h.ok.gE, t.gr.good, he, h.ok.std, h.ok.siz⟩⟩, fun i f => ?_, ts.mono (fun i _ f => .inr (.inr (.inl f)))⟩
  · rcases t.ext _ f with q | q
    · exact h.mf q
    · exact absurd (show w.heap.size ≤ m.mb from q) (by have := h.map.lt; omega)
  · rcases f with e | f | f | f
    · exact .inl (.inl e)
    · exact .inl (.inr (.inl f))
    · rcases t.ext i f with q | q
      · exact .inl (.inr (.inr (.inl q)))
      · exact .inr q
    · exact .inl (.inr (.inr (.inr f)))
theorem SpAt.ixTurn {w w' : World} {x : Nat} {m : Mem} {P : Spc} {ρ' : Rho} {E' : List Ent} (h : SpAt w x m P) (t : IxTurn w w' m.ix m.bl m.bn m.ρ ρ' E') (he : ∀ k, k ∈ keysL E' ↔ k ∈ keysL P.E) :
    SpTurn w w' x m { m with ρ := ρ' } P.E { P with E := E' } := by
  have ts : Ts (FA m.ρ) w w' := .ix t
  have hext : ∀ i, FA ρ' i → FA m.ρ i ∨ w.heap.size ≤ i := fun i f => by
    by_cases hi : i < w.heap.size
    · left; unfold FA at f ⊢; rw [← t.ext i hi]; exact f
    · right; omega
  refine ⟨⟨ts.cells _ _ _ _ (by decide) (by decide) h.cell, ?_, t.ix, h.gr.ts ts (fun i f a => h.fa i f a), fun j hj => (h.ser j ((he j).1 hj)).ts ts (h.bNe ((he j).1 hj)).2.1, fun k j hk hj => h.inj k j ((he k).1 hk) ((he j).1 hj), fun f => ?_, h.mf, fun i f a => ?_, ⟨t.ix.good, h.ok.gG, fun r hr => ⟨(he _).2 (h.ok.ends r hr).1, (he _).2 (h.ok.ends r hr).2⟩, fun k hk => h.ok.std k ((he k).1 hk), fun k hk => h.ok.siz k ((he k).1 hk)⟩⟩, fun i f => ?_, ts.mono (fun i _ f => .inr (.inl f))⟩
  · obtain ⟨L, h1, h2⟩ := h.map
    refine ⟨L, h1.same (ts.block h1.lt h.ma), fun k => ?_⟩
    rw [h2]
    by_cases hk : k ∈ keysL P.E
    · rw [if_pos hk, if_pos ((he k).2 hk)]
    · rw [if_neg hk, if_neg (fun q => hk ((he k).1 q))]
  · rcases hext _ f with q | q
    · exact h.ma q
    · exact absurd (show w.heap.size ≤ m.mb from q) (by have := h.map.lt; omega)
  · rcases hext _ a with q | q
    · exact h.fa i f q
    · have := h.gr.lt i f; omega
  · rcases f with e | f | f | ⟨k, hk, e⟩
    · exact .inl (.inl e)
    · rcases hext i f with q | q
      · exact .inl (.inr (.inl q))
      · exact .inr q
    · exact .inl (.inr (.inr (.inl f)))
    · exact .inl (.inr (.inr (.inr ⟨k, (he k).1 hk, e⟩)))
theorem key_any (s : Tx) (w : World) : Calls Tryz.prog 153 #[.string (bs s)] w fun e w' => e = .returned (.bool (decide (keyB s))) ∧ w = w' := by
  have hs := bs_size s
  by_cases h1 : 1 ≤ s.length
  · have h1z : decide ((1 : Int) ≤ ((bs s).size : Int)) = true := decide_eq_true (by omega)
    go_enter Tryz.func153, Tryz.ntmps153
    go_wp2
    go_ret
    exact ⟨ret_bool (decide_eq_decide.2 (by unfold keyB; omega)), rfl⟩
  · have h1z : decide ((1 : Int) ≤ ((bs s).size : Int)) = false := decide_eq_false (by omega)
    go_enter Tryz.func153, Tryz.ntmps153
    go_wp2
    go_ret
    exact ⟨ret_bool (decide_eq_false (by unfold keyB; omega)).symm, rfl⟩
theorem iNone_no (w : World) (x bl bn : Nat) (h : IxCell w x bl bn) : Calls Tryz.prog 124 #[.pointer (some ⟨x, 0, none⟩)] w fun e w' => e = .returned (.bool false) ∧ w = w' := by
  have heq := fun (r : Option Nat) (W : World) => run_eql_map_nil W 168 _ _ r Tryz.underlying168
  have c0 := h.c0
  go_enter Tryz.func124, Tryz.ntmps124
  go_wp2
  go_ret
  exact ⟨rfl, rfl⟩
theorem new_any (w : World) : Calls Tryz.prog 51 #[] w fun e w' => ∃ x bl bn ρ, e = .returned (.pointer (some ⟨x, 0, none⟩)) ∧ IxAt w' x bl bn ρ [] ∧ Below w.heap.size w w' ∧ ∀ i, FA ρ i → w.heap.size ≤ i := by
  have hmm := @run_makeMap Tryz.prog
  have B1 := (Below.refl w.heap.size w).alloc (Nat.le_refl _) (.map #[] 0)
  have M1 := MapAt.new w
  have M2 := MapAt.new (w.alloc (.map #[] 0))
  have M1' := M1.keep ((Below.refl _ _).alloc (Nat.le_refl _) (.map #[] 0))
  have B2 := B1.alloc (by simp) (.map #[] 0)
  have B3 := B2.alloc (by simp; omega) (.cells #[mp w.heap.size, mp (w.heap.size + 1)] 172)
  have X3 := heap_new ((w.alloc (.map #[] 0)).alloc (.map #[] 0)) (.cells #[mp w.heap.size, mp (w.heap.size + 1)] 172)
  have B23 := (Below.refl _ ((w.alloc (.map #[] 0)).alloc (.map #[] 0))).alloc (Nat.le_refl _) (.cells #[mp w.heap.size, mp (w.heap.size + 1)] 172)
  have M1'' := M1'.keep B23
  have M2' := M2.keep B23
  have s1 : (w.alloc (.map #[] 0)).heap.size = w.heap.size + 1 := by simp
  have s2 : ((w.alloc (.map #[] 0)).alloc (.map #[] 0)).heap.size = w.heap.size + 1 + 1 := by simp
  rw [s1] at M2'
  rw [s2] at X3
  clear B1 B2 M1 M2 M1' B23
  go_enter Tryz.func51, Tryz.ntmps51
  go_wp2
  go_ret
  have fa : ∀ i r, (Rho.upd (Rho.upd (fun _ => none) w.heap.size .labs) (w.heap.size + 1) .nams) i = some r → i = w.heap.size ∨ i = w.heap.size + 1 := by
    intro i r e
    by_cases h1 : i = w.heap.size + 1
    · exact .inr h1
    · rw [upd_ne _ _ h1] at e
      by_cases h2 : i = w.heap.size
      · exact .inl h2
      · rw [upd_ne _ _ h2] at e; cases e
  refine ⟨w.heap.size + 1 + 1, w.heap.size, w.heap.size + 1, Rho.upd (Rho.upd (fun _ => none) w.heap.size .labs) (w.heap.size + 1) .nams, rfl, ⟨X3, ?_, upd_same .., ⟨[], M1'', List.Perm.refl _, by simp⟩, ⟨fun _ => none, [], M2', fun _ => rfl, fun _ _ e => (by cases e), fun _ _ _ e => ?_⟩, fun i r e => ?_, GoodE.nil⟩, B3, fun i hi => ?_⟩
  · rw [upd_ne _ _ (by omega)]; exact upd_same ..
  · obtain ⟨l, h1, _⟩ := e; cases h1
  · rcases fa i r e with rfl | rfl
    · exact M1''.isMap
    · exact M2'.isMap
  · cases e : (Rho.upd (Rho.upd (fun _ => none) w.heap.size .labs) (w.heap.size + 1) .nams) i with
    | none => exact absurd e hi
    | some r => rcases fa i r e with rfl | rfl <;> omega
theorem hNone_no (w : World) (x : Nat) (m : Mem) (h : SpCell w x m) : Calls Tryz.prog 53 #[.pointer (some ⟨x, 0, none⟩)] w fun e w' => e = .returned (.bool false) ∧ w = w' := by
  have heq := fun (r : Option Nat) (W : World) => run_eql_map_nil W 92 _ _ r Tryz.underlying92
  have c0 := h.c0
  go_enter Tryz.func53, Tryz.ntmps53
  go_wp2
  go_ret
  exact ⟨rfl, rfl⟩
theorem held_zero (o : Option Value) (n : Int) (b : Nat) (h : o = some (heldV n b) ∨ o = none) : ∃ (k : Int) (p : Option Addr), o.getD (.agg #[.int .i64 0, .pointer none]) = .agg #[.int .i64 k, .pointer p] := by
  rcases h with rfl | rfl
  · exact ⟨_, _, rfl⟩
  · exact ⟨_, _, rfl⟩
theorem hHas (w : World) (x : Nat) (m : Mem) (P : Spc) (key : Tx) (h : SpAt w x m P) :
    Calls Tryz.prog 92 #[.pointer (some ⟨x, 0, none⟩), .string (bs key)] w fun e w' => e = .returned (.bool (decide (P.has key))) ∧ Below w.heap.size w w' := by
  have c0 := h.cell.c0
  obtain ⟨L, h1, h2⟩ := h.map
  have H1 := hid h1
  obtain ⟨k, p, hu⟩ := held_zero (look L key) (P.Z key) (m.B key) (by rw [h2]; split <;> simp)
  have hok : (look L key).isSome = decide (P.has key) := by
    rw [h2]
    by_cases hk : key ∈ keysL P.E
    · rw [if_pos hk, decide_eq_true (show P.has key from hk)]; rfl
    · rw [if_neg hk, decide_eq_false (show ¬ P.has key from hk)]; rfl
  have HB := hid ((Below.refl w.heap.size w).alloc (Nat.le_refl _) (.cells #[.int .i64 k, .pointer p] 105))
  clear h h1 h2
  generalize decide (P.has key) = b at *
  go_enter Tryz.func92, Tryz.ntmps92
  go_wp2_with (first
    | (at_lookup; refine wpList_lookup_mok _ rfl _ _ 92 rfl 9 105 Tryz.underlying92 Tryz.underlying9 _ (Tryz.zeroValue105 _) m.mb _ rfl H1.out key _ rfl rfl _ hu _ hok ?_))
  go_ret
  exact ⟨rfl, HB.out⟩
theorem hFind_no (w : World) (x : Nat) (m : Mem) (P : Spc) (key : Tx) (h : SpAt w x m P) (hk : ¬ P.has key) :
    Calls Tryz.prog 64 #[.pointer (some ⟨x, 0, none⟩), .string (bs key)] w fun e w' => e = .returned (.tuple #[.pointer none, .int .i64 5]) ∧ Below w.heap.size w w' := by
  have HC := hid h.cell
  have HH := hid (hHas w x m P key h)
  rw [decide_eq_false hk] at HH
  clear h hk
  go_enter Tryz.func64, Tryz.ntmps64
  go_wp2_with fail
  refine (hNone_no w x m HC.out).mono ?_
  rintro e w' ⟨rfl, rfl⟩
  go_wp2_with fail
  refine HH.out.mono ?_
  rintro e w1 ⟨rfl, b1⟩
  have B1 := hid b1
  clear b1
  go_wp2
  go_ret2
  exact ⟨rfl, B1.out⟩
theorem hFind_ok (w : World) (x : Nat) (m : Mem) (P : Spc) (key : Tx) (h : SpAt w x m P) (hk : P.has key) :
    Calls Tryz.prog 64 #[.pointer (some ⟨x, 0, none⟩), .string (bs key)] w fun e w' => e = .returned (.tuple #[.pointer (some ⟨m.B key, 0, none⟩), .int .i64 0]) ∧ Below w.heap.size w w' := by
  have hf : ∀ (W : World) (n : Int) (b : Nat), (Instr.field 105 (.agg #[.int .i64 n, .pointer (some ⟨b, 0, none⟩)]) 1).run Tryz.prog W = .ok (.pointer (some ⟨b, 0, none⟩)) W := fun W n b => by kernel_rfl
  have HS := hid h
  have HH := hid (hHas w x m P key h)
  rw [decide_eq_true hk] at HH
  obtain ⟨L, h1, h2⟩ := h.map
  have hu : (look L key).getD (.agg #[.int .i64 0, .pointer none]) = .agg #[.int .i64 (P.Z key), .pointer (some ⟨m.B key, 0, none⟩)] := by rw [h2, if_pos (show key ∈ keysL P.E from hk)]; rfl
  have H1 := hid h1
  clear h h1 h2 hk
  go_enter Tryz.func64, Tryz.ntmps64
  go_wp2_with fail
  refine (hNone_no w x m HS.out.cell).mono ?_
  rintro e w' ⟨rfl, rfl⟩
  go_wp2_with fail
  refine HH.out.mono ?_
  rintro e w1 ⟨rfl, b1⟩
  have B1 := hid b1
  have c0 := (HS.out.keep b1).cell.c0
  have H2 := hid (H1.out.keep b1)
  clear b1
  go_wp2_with (first
    | (at_lookup; refine wpList_lookup_m _ rfl _ _ 92 rfl 9 105 Tryz.underlying92 Tryz.underlying9 _ (Tryz.zeroValue105 _) m.mb _ rfl H2.out key _ rfl rfl _ hu ?_))
  go_ret2
  exact ⟨rfl, B1.out⟩
end Go.Proofs.YtmifpfojhlmbkaaGreat
