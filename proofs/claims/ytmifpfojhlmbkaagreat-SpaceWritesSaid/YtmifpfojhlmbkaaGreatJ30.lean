/-
  Contracts.
-/
import Derived.Test.YtmifpfojhlmbkaaGreatJ9
import Derived.Test.YtmifpfojhlmbkaaGreatJ22
import Derived.Test.YtmifpfojhlmbkaaGreatJ24
import Derived.Test.YtmifpfojhlmbkaaGreatJ25
import Derived.Test.YtmifpfojhlmbkaaGreatJ26
import Derived.Test.YtmifpfojhlmbkaaGreatJ27
import Derived.Test.YtmifpfojhlmbkaaGreatJ29
import Derived.Deep.RegionHeld3
namespace Go.Proofs.YtmifpfojhlmbkaaGreat
open Lib (hid)
set_option maxRecDepth 100000
set_option maxHeartbeats 16000000
set_option linter.unusedVariables false
set_option linter.unusedSimpArgs false
theorem all64_appT {x y : List (Int × Int)} (hx : All64 x) (hy : All64 y) : All64 (x ++ y) := fun u hu => by
  rcases List.mem_append.1 hu with h | h
  · exact hx u h
  · exact hy u h
theorem gapL64 {size v b e : Int} (hs : 1 ≤ size) (hb : 0 ≤ b) (he : e ≤ 1099511627776) (hv : in64 v) : All64 (gapL size v b (cntG size b e)) := by
  intro u hu
  unfold gapL at hu
  obtain ⟨i, hi, rfl⟩ := List.mem_map.1 hu
  have h1 := (cntG_iff (b := b) (e := e) hs i).1 (List.mem_range.1 hi)
  have h2 : 0 ≤ (i : Int) * size := Int.mul_nonneg (by omega) (by omega)
  exact ⟨by unfold in64; simp only; omega, hv⟩
theorem gapAt64 {k size align : Int} {z : List (Int × Int)} (hz : All64 z) (h : okF k size align z) (j : Nat) (hj : j < z.length) : All64 (gapAt k size align z j) := by
  cases he : emptyV k (vOf z j) with
  | none => rw [gapAt_none he]; simp [All64]
  | some v =>
    by_cases hl : j + 1 < z.length
    · rw [gapAt_some he hl]
      have h1 := startB_fix h.1.2 (h.2 j hj).1
      have h2 := startB_fix h.1.2 (h.2 (j + 1) hl).1
      have h3 := endB_is h.1.2 h1.1 h1.2
      refine gapL64 h.1.2.1.1 (by omega) h2.2 ?_
      unfold emptyV at he
      split at he
      · cases he; unfold in64; omega
      · split at he
        · cases he; exact (all64_at hz j).2
        · cases he
    · rw [gapAt_last (by omega)]; simp [All64]
theorem fillP64 {k size align : Int} {z : List (Int × Int)} (hz : All64 z) (h : okF k size align z) (j : Nat) (hj : j ≤ z.length) : All64 (fillP k size align z j) := by
  induction j with
  | zero => simp [fillP, All64]
  | succ j ih =>
    rw [fillP_succ]
    refine all64_appT (all64_appT (ih (by omega)) ?_) (gapAt64 hz h j (by omega))
    intro u hu
    rw [List.mem_singleton] at hu
    subst hu
    exact all64_at hz j
theorem fillR64 {k size align : Int} {z : List (Int × Int)} (hz : All64 z) : All64 (fillR k size align z).1 := by
  unfold fillR
  split
  · split
    · simp [All64]
    · rename_i h _; exact fillP64 hz h _ (Nat.le_refl _)
  · simp [All64]
theorem fillR_len (k size align : Int) (z : List (Int × Int)) : (fillR k size align z).1.length ≤ 10000 := by
  unfold fillR
  split
  · split
    · simp
    · simp only; omega
  · simp
theorem buckT64 {k size align : Int} {z : List (Int × Int)} (h : All64 z) (hl : z.length < 4611686018427387904) : All64 (buckA k size align z) := by
  intro x hx
  unfold buckA at hx
  split at hx
  · unfold buckL at hx
    obtain ⟨g, hg, rfl⟩ := List.mem_map.1 hx
    obtain ⟨h1, h2⟩ := groups_mem hg
    obtain ⟨u, hu⟩ := List.exists_mem_of_ne_nil _ h1
    have hs := (h2 u hu).2
    have hin := startB_in (t := u.1) (size := size) (align := align)
    rw [hs] at hin
    refine ⟨by unfold in64; simp only; omega, ?_⟩
    refine valK_in (fun e => h1 ((valsOf_nil _).1 e)) (fun v hv => by
      obtain ⟨x, hx, rfl⟩ := List.mem_map.1 hv
      exact (h x (h2 x hx).1).2) ?_
    rw [valsOf_len]
    have : g.2.length ≤ z.length := by
      have hf := grp_flat (fun t => startB t size align) z
      have h3 : g.2.length ≤ (((grp (fun t => startB t size align) z).map (·.2)).flatten).length := by
        obtain ⟨s, t, e⟩ := List.append_of_mem (show g ∈ grp (fun t => startB t size align) z from hg)
        rw [e]
        simp
        omega
      rw [hf] at h3
      exact h3
    omega
  · cases hx
theorem buckT_few (k size align : Int) (z : List (Int × Int)) : (buckA k size align z).length ≤ z.length := by
  unfold buckA
  split
  · rw [buck_len]; exact groups_few _ _ _
  · simp
theorem filter64 {z : List (Int × Int)} (p : Int × Int → Bool) (h : All64 z) : All64 (z.filter p) := fun u hu => h u ((List.mem_filter.1 hu).1)
theorem madeR64 {q : Qry} {z : List (Int × Int)} (h : All64 z) (hl : z.length ≤ 10000) : All64 (madeR q z).1 := by
  unfold madeR
  split
  · exact h
  · split
    · exact fillR64 (buckT64 h (by omega))
    · exact buckT64 h (by omega)
theorem madeR_len {q : Qry} {z : List (Int × Int)} (hl : z.length ≤ 10000) : (madeR q z).1.length ≤ 10000 := by
  unfold madeR
  split
  · exact hl
  · split
    · exact fillR_len _ _ _ _
    · exact Nat.le_trans (buckT_few _ _ _ _) hl
theorem filter_snoc (p : Int × Int → Bool) (z : List (Int × Int)) (j : Nat) (h : j < z.length) : (z.take (j + 1)).filter p = if p (tOf z j, vOf z j) = true then (z.take j).filter p ++ [(tOf z j, vOf z j)] else (z.take j).filter p := by
  rw [List.take_succ_eq_append_getElem h, List.filter_append, pair_at z j h]
  cases hp : p (tOf z j, vOf z j) <;> simp [hp]
open Go.RowKit
theorem samp_lit {W : World} {b : Nat} {cs : Array Value} {z : List (Int × Int)} (h : W.heap[b]? = some (.cells cs 27 (0, 0))) (hz : cs.toList = smpCells z) (h64 : All64 z) (hl : z.length ≤ 9223372036854775807) : SampAt W (some ⟨b, 0, none⟩) z.length z.length z := by
  refine ⟨rfl, Nat.le_refl _, hl, h64, .inr ⟨b, 0, rfl, heap_lt h, fun i hi => ?_⟩⟩
  have h1 := smpCells_get z i hi
  rw [← hz, Array.getElem?_toList, Array.getElem?_toList] at h1
  rw [cell_of h, cell_of h, Nat.zero_add]
  exact h1
theorem row_samp {W : World} {base : Nat} {v : Value} {z : List (Int × Int)} (hz : All64 z) (hb : z.length ≤ 9223372036854775807) (hown : W.ownsRow base 27 2 v z.length (smpCells z)) : ∃ ad cp, v = .slice ad z.length cp ∧ SampAt W ad z.length cp z := by
  obtain ⟨ad, cp, e, h, _⟩ := owns_samps hz hb hown
  exact ⟨ad, cp, e, h⟩
def qcs (q : Qry) (a : Option Addr) (n c : Nat) : Array Value := #[.int .i64 q.fr, .int .i64 q.to, .bool q.back, .int .i64 q.cnt, .int .i64 q.kd, .int .i64 q.sz, .int .i64 q.al, .bool q.emp, .slice a n c, .bool q.vals, .int .i64 q.lo, .int .i64 q.hi]
def QC (W : World) (b : Nat) (q : Qry) (a : Option Addr) (n c : Nat) : Prop :=
  W.cell? ⟨b, 0, none⟩ = some (.int .i64 q.fr) ∧ W.cell? ⟨b, 1, none⟩ = some (.int .i64 q.to) ∧ W.cell? ⟨b, 2, none⟩ = some (.bool q.back) ∧ W.cell? ⟨b, 3, none⟩ = some (.int .i64 q.cnt) ∧
  W.cell? ⟨b, 4, none⟩ = some (.int .i64 q.kd) ∧ W.cell? ⟨b, 5, none⟩ = some (.int .i64 q.sz) ∧ W.cell? ⟨b, 6, none⟩ = some (.int .i64 q.al) ∧ W.cell? ⟨b, 7, none⟩ = some (.bool q.emp) ∧
  W.cell? ⟨b, 8, none⟩ = some (.slice a n c) ∧ W.cell? ⟨b, 9, none⟩ = some (.bool q.vals) ∧ W.cell? ⟨b, 10, none⟩ = some (.int .i64 q.lo) ∧ W.cell? ⟨b, 11, none⟩ = some (.int .i64 q.hi)
theorem qc_of {W : World} {b : Nat} {q : Qry} {a : Option Addr} {n c : Nat} {t : TypeId} (h : W.heap[b]? = some (.cells (qcs q a n c) t (0, 0))) : QC W b q a n c := by
  refine ⟨?_, ?_, ?_, ?_, ?_, ?_, ?_, ?_, ?_, ?_, ?_, ?_⟩ <;> (rw [cell_of h]; rfl)
theorem QC.keep {W W' : World} {B b : Nat} {q : Qry} {a : Option Addr} {n c : Nat} (h : QC W b q a n c) (k : Below B W W') (hb : b < B) : QC W' b q a n c := by
  have e : ∀ o, W'.cell? ⟨b, o, none⟩ = W.cell? ⟨b, o, none⟩ := fun o => k.cell hb
  unfold QC at h ⊢
  simp only [e]
  exact h
theorem pass_x (q : Qry) (a : Option Addr) (n c : Nat) (t v : Int) (w : World) (h : IntAt w a n c q.tm) :
    Calls Tryz.prog 222 #[.agg #[.int .i64 q.fr, .int .i64 q.to, .bool q.back, .int .i64 q.cnt, .int .i64 q.kd, .int .i64 q.sz, .int .i64 q.al, .bool q.emp, .slice a n c, .bool q.vals, .int .i64 q.lo, .int .i64 q.hi], .agg #[.int .i64 t, .int .i64 v]] w fun e w' => e = .returned (.bool (passB q (t, v))) ∧ Below w.heap.size w w' := pass_any q a n c (t, v) w h
theorem passing_any (q : Qry) (a : Option Addr) (n c : Nat) (sa : Option Addr) (len cap : Nat) (z : List (Int × Int)) (w : World) (h : SampAt w sa len cap z) (hi : IntAt w a n c q.tm) (hl : len ≤ 10000) :
    Calls Tryz.prog 149 #[.slice sa len cap, qv q a n c] w (RowA (z.filter (passB q)) w) := by
  have HL := hid h.1
  have hlc := h.2.1
  have HS := hid h
  have HI := hid hi
  have B0 := (Below.refl w.heap.size w).alloc (Nat.le_refl _) (.cells (qcs q a n c) 67)
  have hq0 := heap_new w (.cells (qcs q a n c) 67)
  have s0 : w.heap.size < (w.alloc (.cells (qcs q a n c) 67)).heap.size := by simp
  have HQ := hid (qc_of hq0)
  unfold qcs at B0 s0 HQ
  clear h hi hq0
  unfold qv
  go_enter Tryz.func149, Tryz.ntmps149
  go_wp2
  generalize w.alloc (.cells #[.int .i64 q.fr, .int .i64 q.to, .bool q.back, .int .i64 q.cnt, .int .i64 q.kd, .int .i64 q.sz, .int .i64 q.al, .bool q.emp, .slice a n c, .bool q.vals, .int .i64 q.lo, .int .i64 q.hi] 67) = W1 at *
  have HS1 := hid (HS.out.keep B0)
  have HI1 := hid (HI.out.keep B0)
  generalize hq : w.heap.size = qb at *
  have HQB := hid hq
  clear hq
  go_loopw [5, 10] (fun v i wr => ∃ (j m : Nat), j ≤ len ∧ m ≤ j ∧ i = .int .i64 (j : Int) ∧ Hid (((z.take j).filter (passB q)).length = m) ∧ wr.ownsRow W1.heap.size 27 2 v m (smpCells ((z.take j).filter (passB q))) ∧ Below W1.heap.size W1 wr) (fun _ i _ => len - (intOf i).toNat)
  case atStart => exact ⟨0, 0, Nat.zero_le _, Nat.le_refl _, rfl, hid (by simp), World.ownsRow_nil _ _ _ _, Below.refl _ _⟩
  case round =>
    obtain ⟨j, m, hj, hm, rfl, HM, hown, B⟩ := hrel
    by_cases hjn : j < len
    · obtain ⟨p, o, ha, hp, x0, x1⟩ := (HS1.out.keep B).at_ j hjn
      subst ha
      have HF := hid (filter_snoc (passB q) z j (by rw [HL.out]; exact hjn))
      generalize tOf z j = t at *
      generalize vOf z j = v at *
      have s1 := B.size
      have B2 := B.alloc s1 (.cells #[.int .i64 t, .int .i64 v] 27)
      have s2 := B2.size
      obtain ⟨c0, c1, c2, c3, c4, c5, c6, c7, c8, c9, c10, c11⟩ := HQ.out.keep B2 s0
      have hx := heap_new wr (.cells #[.int .i64 t, .int .i64 v] 27)
      have o2 := hown.alloc (.cells #[.int .i64 t, .int .i64 v] 27)
      have sx : wr.heap.size < (wr.alloc (.cells #[.int .i64 t, .int .i64 v] 27)).heap.size := by simp
      go_wp2_with fail
      clear c0 c1 c2 c3 c4 c5 c6 c7 c8 c9 c10 c11 x0 x1
      generalize wr.alloc (.cells #[.int .i64 t, .int .i64 v] 27) = W2 at *
      generalize hxb : wr.heap.size = xb at *
      refine (pass_x q a n c t v _ (HI1.out.keep B2)).mono ?_
      rintro e W3 ⟨rfl, b3⟩
      have B3 := B2.trans (b3.mono s2)
      have o3 := own_keepN o2 (gb_below b3)
      have hx3 := below_box b3 sx hx
      have s3 := B3.size
      have hxw : xb < W3.heap.size := heap_lt hx3
      have x0 : W3.cell? ⟨xb, 0, none⟩ = some (.int .i64 t) := by rw [cell_of hx3]; rfl
      have x1 : W3.cell? ⟨xb, 1, none⟩ = some (.int .i64 v) := by rw [cell_of hx3]; rfl
      clear b3 o2 hx hown B B2 hx3 sx s2 s1 hxb
      cases hps : passB q (t, v)
      · have HF1 := hid (show (z.take (j + 1)).filter (passB q) = (z.take j).filter (passB q) from by rw [HF.out, hps]; rfl)
        clear hps HF
        go_wp2
        go_roundw
        case rel => exact ⟨j + 1, m, by omega, by omega, by go_num, by rw [HF1.out]; exact HM, by rw [HF1.out]; exact o3, B3⟩
        case measure => simp [intOf]; omega
      · have HF1 := hid (show (z.take (j + 1)).filter (passB q) = (z.take j).filter (passB q) ++ [(t, v)] from by rw [HF.out, hps]; rfl)
        clear hps HF
        obtain ⟨i0, hi, hz0, hz1, hz2⟩ := info_parts info_samp
        go_wp2_with (at_builtin; refine wpList_append_own _ rfl _ _ 52 rfl W1.heap.size 27 i0 _ 2 16 Tryz.underlying52 hi hz0 hz1 hz2 rfl (by decide) _ _ _ rfl (o3.alloc _) ⟨W3.heap.size, 0, none⟩ 1 1 [.int .i64 t, .int .i64 v] rfl rfl (two_cells _ _ _ _) (smp_one _ _) (by unfold maxLen; omega) (by omega) (by simp; omega) ?_)
        intro v5 W5 o5 g5 _
        have B5 := (B3.alloc s3 (.cells #[.int .i64 t, .int .i64 v] 27)).grown g5 (by simp; omega) (fun k hk => (o3.lt k hk).1)
        clear g5 hi hz0 hz1 hz2 x0 x1 o3 B3
        go_wp2
        go_roundw
        case rel => exact ⟨j + 1, m + 1, by omega, by omega, by go_num, hid (by rw [HF1.out, List.length_append, HM.out]; rfl), by rw [HF1.out, smpCells_snoc]; exact o5, B5⟩
        case measure => simp [intOf]; omega
    · obtain rfl : j = len := by omega
      have HT := hid (show z.take j = z from List.take_of_length_le (by rw [HL.out]; exact Nat.le_refl _))
      rw [HT.out] at HM hown
      go_wp2
      go_ret
      refine ⟨_, rfl, ?_, ?_⟩
      · rw [HM.out, HQB.out]; exact own_mono hown (by omega)
      · rw [HQB.out]; exact B0.trans (B.mono (by omega))
def RowX (base : Nat) (r : List (Int × Int) × Int) (w : World) (e : Ending) (w' : World) : Prop :=
  ∃ v, e = .returned (.tuple #[v, .int .i64 r.2]) ∧ w'.ownsRow base 27 2 v r.1.length (smpCells r.1) ∧ Below w.heap.size w w'
theorem made_any (q : Qry) (a : Option Addr) (n c : Nat) (base : Nat) (v : Value) (m : Nat) (z : List (Int × Int)) (w : World) (hown : w.ownsRow base 27 2 v m (smpCells z)) (hz : z.length = m) (h64 : All64 z) (hl : m ≤ 10000) (hb : base ≤ w.heap.size) :
    Calls Tryz.prog 148 #[v, qv q a n c] w (RowX base (madeR q z) w) := by
  subst hz
  obtain ⟨ad, cp, rfl, hS, _⟩ := owns_samps h64 (by omega) hown
  have HS := hid hS
  have H64 := hid h64
  have HO := hid hown
  have B0 := (Below.refl w.heap.size w).alloc (Nat.le_refl _) (.cells (qcs q a n c) 67)
  have hq0 := heap_new w (.cells (qcs q a n c) 67)
  have s0 : w.heap.size < (w.alloc (.cells (qcs q a n c) 67)).heap.size := by simp
  have HQ := hid (qc_of hq0)
  unfold qcs at B0 s0 HQ
  clear hq0 hS h64 hown
  unfold qv
  by_cases hk : q.kd = 0
  · have E := hid (show madeR q z = (z, 0) from if_pos hk)
    have tk : (q.kd == 0) = true := beq_iff_eq.2 hk
    rw [E.out]
    have HO1 := hid (own_keepN HO.out (gb_below B0))
    clear hk E
    go_enter Tryz.func148, Tryz.ntmps148
    go_wp2
    go_ret2
    exact ⟨_, rfl, HO1.out, B0⟩
  · have tk : (q.kd == 0) = false := beq_eq_false_iff_ne.2 hk
    have HB64 := hid (buckT64 (k := q.kd) (size := q.sz) (align := q.al) H64.out (by omega))
    have HBL := hid (buckT_few q.kd q.sz q.al z)
    have hee : q.emp = false ∨ q.emp = true := by cases q.emp <;> simp
    rcases hee with he | he
    · have E := hid (show madeR q z = (buckA q.kd q.sz q.al z, 0) from by unfold madeR; rw [if_neg hk, he]; rfl)
      have HE := hid he
      rw [E.out]
      clear hk he E
      go_enter Tryz.func148, Tryz.ntmps148
      go_wp2_with fail
      have HS1 := hid (HS.out.keep B0)
      generalize w.alloc (.cells #[.int .i64 q.fr, .int .i64 q.to, .bool q.back, .int .i64 q.cnt, .int .i64 q.kd, .int .i64 q.sz, .int .i64 q.al, .bool q.emp, .slice a n c, .bool q.vals, .int .i64 q.lo, .int .i64 q.hi] 67) = W1 at *
      generalize hq : w.heap.size = qb at *
      refine (buckets_any q.kd q.sz q.al ad z.length cp z W1 HS1.out (by omega)).mono ?_
      rintro e W2 ⟨v2, rfl, o2, b2⟩
      have B2 := B0.trans (b2.mono (by omega))
      have c7 : W2.cell? ⟨qb, 7, none⟩ = some (.bool false) := by rw [b2.cell s0, ← HE.out]; exact HQ.out.2.2.2.2.2.2.2.1
      have o3 := own_mono o2 (show base ≤ W1.heap.size by omega)
      clear b2 o2
      go_wp2
      go_ret2
      exact ⟨_, rfl, o3, by rw [hq]; exact B2⟩
    · have E := hid (show madeR q z = fillR q.kd q.sz q.al (buckA q.kd q.sz q.al z) from by unfold madeR; rw [if_neg hk, he]; rfl)
      have HE := hid he
      rw [E.out]
      clear hk he E
      go_enter Tryz.func148, Tryz.ntmps148
      go_wp2_with fail
      have HS1 := hid (HS.out.keep B0)
      generalize w.alloc (.cells #[.int .i64 q.fr, .int .i64 q.to, .bool q.back, .int .i64 q.cnt, .int .i64 q.kd, .int .i64 q.sz, .int .i64 q.al, .bool q.emp, .slice a n c, .bool q.vals, .int .i64 q.lo, .int .i64 q.hi] 67) = W1 at *
      generalize hq : w.heap.size = qb at *
      refine (buckets_any q.kd q.sz q.al ad z.length cp z W1 HS1.out (by omega)).mono ?_
      rintro e W2 ⟨v2, rfl, o2, b2⟩
      have B2 := B0.trans (b2.mono (by omega))
      obtain ⟨_, _, _, _, c4, c5, c6, c7, _⟩ := HQ.out.keep b2 s0
      rw [HE.out] at c7
      obtain ⟨ad2, cp2, rfl, hS2⟩ := row_samp HB64.out (by have := HBL.out; omega) o2
      have HS2 := hid hS2
      have s2 := b2.size
      clear b2 o2 hS2
      go_wp2_with fail
      refine (fill_any q.kd q.sz q.al ad2 _ cp2 _ W2 HS2.out (by have := HBL.out; omega)).mono ?_
      rintro e W3 ⟨v3, rfl, o3, b3⟩
      have B3 := B2.trans (b3.mono (by omega))
      have o4 := own_mono o3 (show base ≤ W2.heap.size by omega)
      clear b3 o3
      go_wp2
      go_ret2
      exact ⟨_, rfl, o4, by rw [hq]; exact B3⟩
theorem right_x (q : Qry) (a : Option Addr) (n c : Nat) (w : World) (hn : q.tm.length = n) (hm : n ≤ 9223372036854775807) :
    Calls Tryz.prog 147 #[.agg #[.int .i64 q.fr, .int .i64 q.to, .bool q.back, .int .i64 q.cnt, .int .i64 q.kd, .int .i64 q.sz, .int .i64 q.al, .bool q.emp, .slice a n c, .bool q.vals, .int .i64 q.lo, .int .i64 q.hi]] w fun e w' => e = .returned (.int .i64 (errR q)) ∧ Below w.heap.size w w' := right_any q a n c w hn hm
theorem passing_x (q : Qry) (a : Option Addr) (n c : Nat) (sa : Option Addr) (len cap : Nat) (z : List (Int × Int)) (w : World) (h : SampAt w sa len cap z) (hi : IntAt w a n c q.tm) (hl : len ≤ 10000) :
    Calls Tryz.prog 149 #[.slice sa len cap, .agg #[.int .i64 q.fr, .int .i64 q.to, .bool q.back, .int .i64 q.cnt, .int .i64 q.kd, .int .i64 q.sz, .int .i64 q.al, .bool q.emp, .slice a n c, .bool q.vals, .int .i64 q.lo, .int .i64 q.hi]] w (RowA (z.filter (passB q)) w) := passing_any q a n c sa len cap z w h hi hl
theorem made_x (q : Qry) (a : Option Addr) (n c : Nat) (base : Nat) (v : Value) (m : Nat) (z : List (Int × Int)) (w : World) (hown : w.ownsRow base 27 2 v m (smpCells z)) (hz : z.length = m) (h64 : All64 z) (hl : m ≤ 10000) (hb : base ≤ w.heap.size) :
    Calls Tryz.prog 148 #[v, .agg #[.int .i64 q.fr, .int .i64 q.to, .bool q.back, .int .i64 q.cnt, .int .i64 q.kd, .int .i64 q.sz, .int .i64 q.al, .bool q.emp, .slice a n c, .bool q.vals, .int .i64 q.lo, .int .i64 q.hi]] w (RowX base (madeR q z) w) := made_any q a n c base v m z w hown hz h64 hl hb
theorem owns_lst7 {W : World} {base : Nat} {v : Value} {z : List (Int × Int)} (hz : All64 z) (hb : z.length ≤ 9223372036854775807) (hown : W.ownsRow base 27 2 v z.length (smpCells z)) :
    ∃ ad cp, v = .slice ad z.length cp ∧ Lst W ad z.length cp z ∧ (∀ x, ad = some x → x.off = 0 ∧ base ≤ x.block) := by
  obtain ⟨ad, cp, e, hs, hx⟩ := owns_samps hz hb hown
  refine ⟨ad, cp, e, ⟨hs, ?_⟩, hx⟩
  rcases hown.2 with ⟨rfl, h0⟩ | ⟨g, cp', cur, rfl, hgb, hgc, hl, _, hsz, htk⟩
  · exact .inl h0
  · cases e
    exact .inr ⟨_, _, _, rfl, hgc⟩
def TellP (r : List (Int × Int) × Int) (w : World) (e : Ending) (w' : World) : Prop :=
  ∃ a n c, e = .returned (.tuple #[.slice a n c, .int .i64 r.2]) ∧ Lst w' a n c r.1 ∧ Below w.heap.size w w'
theorem tell_any (q : Qry) (a : Option Addr) (n c : Nat) (sa : Option Addr) (len cap : Nat) (z : List (Int × Int)) (w : World) (h : SampAt w sa len cap z) (hi : IntAt w a n c q.tm) (hl : len ≤ 10000) :
    Calls Tryz.prog 80 #[.slice sa len cap, qv q a n c] w (TellP (tellR q z) w) := by
  have HL := hid h.1
  have HS := hid h
  have HI := hid hi
  have HN := hid (show q.tm.length = n ∧ n ≤ 9223372036854775807 from ⟨hi.1, hi.2.2.1⟩)
  have B0 := (Below.refl w.heap.size w).alloc (Nat.le_refl _) (.cells (qcs q a n c) 67)
  have hq0 := heap_new w (.cells (qcs q a n c) 67)
  have s0 : w.heap.size < (w.alloc (.cells (qcs q a n c) 67)).heap.size := by simp
  have HQ := hid (qc_of hq0)
  unfold qcs at B0 s0 HQ
  clear hq0 h hi
  unfold qv
  by_cases hr : rightQ q
  · have HE := hid (show errR q = 0 from if_pos hr)
    have ET := hid (show tellR q z = if (madeR q (z.filter (passB q))).2 = 0 then (cutR q.cnt (turnR q.back (madeR q (z.filter (passB q))).1), 0) else ([], (madeR q (z.filter (passB q))).2) from if_pos hr)
    have HC := hid hr.1
    clear hr
    go_enter Tryz.func80, Tryz.ntmps80
    go_wp2_with fail
    have HS1 := hid (HS.out.keep B0)
    have HI1 := hid (HI.out.keep B0)
    generalize w.alloc (.cells #[.int .i64 q.fr, .int .i64 q.to, .bool q.back, .int .i64 q.cnt, .int .i64 q.kd, .int .i64 q.sz, .int .i64 q.al, .bool q.emp, .slice a n c, .bool q.vals, .int .i64 q.lo, .int .i64 q.hi] 67) = W1 at *
    generalize hq : w.heap.size = qb at *
    have HQB := hid hq
    clear hq
    refine (right_x q a n c _ HN.out.1 HN.out.2).mono ?_
    rintro e W2 ⟨rfl, b2⟩
    rw [HE.out]
    have B2 := B0.trans (b2.mono (by omega))
    have HS2 := hid (HS1.out.keep b2)
    have HI2 := hid (HI1.out.keep b2)
    have HQ2 := hid (HQ.out.keep b2 s0)
    have s2 : qb < W2.heap.size := by have := b2.size; omega
    clear b2 B0 s0 HE
    go_wp2_with fail
    have HKQ := hid (show ∀ W, Below W2.heap.size W2 W → QC W qb q a n c from fun W hW => HQ2.out.keep hW s2)
    have HKI := hid (show ∀ W, Below W2.heap.size W2 W → IntAt W a n c q.tm from fun W hW => HI2.out.keep hW)
    have HKS := hid (show ∀ W, Below W2.heap.size W2 W → SampAt W sa len cap z from fun W hW => HS2.out.keep hW)
    have BD := hid ((Below.refl W2.heap.size W2).drew)
    have HFL := hid (show (z.filter (passB q)).length ≤ 10000 from Nat.le_trans (List.length_filter_le _ _) (by rw [HL.out]; exact hl))
    have HF64 := hid (filter64 (passB q) HS2.out.2.2.2.1)
    obtain ⟨c0, c1, c2, c3, c4, c5, c6, c7, c8, c9, c10, c11⟩ := HQ2.out
    go_region_held3 (fun w' => w'.cell? ⟨qb, 0, none⟩ = some (.int .i64 q.fr) ∧ w'.cell? ⟨qb, 1, none⟩ = some (.int .i64 q.to) ∧ w'.cell? ⟨qb, 2, none⟩ = some (.bool q.back) ∧ w'.cell? ⟨qb, 3, none⟩ = some (.int .i64 q.cnt) ∧ w'.cell? ⟨qb, 4, none⟩ = some (.int .i64 q.kd) ∧ w'.cell? ⟨qb, 5, none⟩ = some (.int .i64 q.sz) ∧ w'.cell? ⟨qb, 6, none⟩ = some (.int .i64 q.al) ∧ w'.cell? ⟨qb, 7, none⟩ = some (.bool q.emp) ∧ w'.cell? ⟨qb, 8, none⟩ = some (.slice a n c) ∧ w'.cell? ⟨qb, 9, none⟩ = some (.bool q.vals) ∧ w'.cell? ⟨qb, 10, none⟩ = some (.int .i64 q.lo) ∧ w'.cell? ⟨qb, 11, none⟩ = some (.int .i64 q.hi))
      (first
        | exact HKQ.out _ B4.out
        | exact HKQ.out _ B3.out
        | exact HKQ.out _ BD.out
        | go_keep
        | fail)
      (first
        | (go_at_call 149
           (with_reducible refine (passing_x q a n c sa len cap z _ (HKS.out _ BD.out) (HKI.out _ BD.out) hl).mono ?_)
           rintro e W3 ⟨v3, rfl, o3, b3⟩
           have B3 := hid (BD.out.trans (b3.mono BD.out.size))
           have O3 := hid o3
           clear o3 b3)
        | (go_at_call 148
           (with_reducible refine (made_x q a n c W2.heap.size v3 _ _ _ O3.out rfl HF64.out HFL.out B3.out.size).mono ?_)
           rintro e W4 ⟨v4, rfl, o4, b4⟩
           have B4 := hid (B3.out.trans (b4.mono B3.out.size))
           have O4 := hid o4
           clear o4 b4)
        | fail)
    all_goals
      rename_i hHeld
      clear hHeld c0 c1 c2 c3 c4 c5 c6 c7 c8 c9 c10 c11
      have HM64 := hid (madeR64 (q := q) HF64.out HFL.out)
      have HMl := hid (madeR_len (q := q) HFL.out)
      generalize madeR q (z.filter (passB q)) = M at *
      obtain ⟨F, er⟩ := M
      simp only at HM64 HMl O4 ET
      by_cases her : er = 0
      · subst her
        rw [if_pos rfl] at ET
        obtain ⟨c0, c1, c2, c3, c4, c5, c6, c7, c8, c9, c10, c11⟩ := HKQ.out _ B4.out
        have hbb : q.back = false ∨ q.back = true := by cases q.back <;> simp
        rcases hbb with hb | hb
        · have HFF64 := HM64
          have HFFl := HMl
          have O5 := O4
          have HB5 := B4
          have E := hid (show tellR q z = (cutR q.cnt F, 0) from by rw [ET.out, hb]; rfl)
          rw [hb] at c2
          clear hb ET
          obtain ⟨ad, cp, rfl, hS5, _⟩ := owns_lst7 HFF64.out (by have := HFFl.out; omega) O5.out
          have HS5 := hid hS5
          clear hS5
          have hcn := HC.out
          by_cases hc0 : q.cnt = 0
          · have tc : (q.cnt != 0) = false := by rw [bne_eq_false_iff_eq]; exact hc0
            have E2 := hid (show tellR q z = (F, 0) from by rw [E.out]; unfold cutR; rw [if_pos hc0])
            clear hc0 E hcn
            go_wp2
            go_ret2
            exact ⟨_, _, _, (by rw [E2.out]; rfl), (by rw [E2.out]; exact HS5.out), by rw [HQB.out]; exact B2.trans (HB5.out.mono (by omega))⟩
          · have tc : (q.cnt != 0) = true := by rw [bne_iff_ne]; exact hc0
            obtain ⟨k, hk⟩ : ∃ k : Nat, q.cnt = (k : Int) := ⟨q.cnt.toNat, by omega⟩
            have E2 := hid (show tellR q z = (F.take k, 0) from by rw [E.out]; unfold cutR; rw [if_neg hc0, hk]; rfl)
            by_cases hle : k ≤ F.length
            · obtain ⟨a1, hs1, L1⟩ := lst_to HS5.out k hle
              have HL1 := hid L1
              have hle' : q.cnt ≤ (F.length : Int) := by omega
              rw [← hk] at hs1
              clear hc0 E hcn L1 hk
              go_wp2
              go_ret2
              exact ⟨_, _, _, (by rw [E2.out]; rfl), (by rw [E2.out]; exact HL1.out), by rw [HQB.out]; exact B2.trans (HB5.out.mono (by omega))⟩
            · have hcap : F.length ≤ cp := HS5.out.1.2.1
              have HL1 := hid (show Lst W4 ad F.length cp (F.take k) from by rw [List.take_of_length_le (by omega)]; exact HS5.out)
              have hle' : ¬ q.cnt ≤ (F.length : Int) := by omega
              clear hc0 E hcn hk hle
              go_wp2
              go_ret2
              exact ⟨_, _, _, (by rw [E2.out]; rfl), (by rw [E2.out]; exact HL1.out), by rw [HQB.out]; exact B2.trans (HB5.out.mono (by omega))⟩
        · have HFF64 := hid (show All64 F.reverse from fun u hu => HM64.out u (List.mem_reverse.1 hu))
          have HFFl := hid (show F.reverse.length ≤ 10000 from by rw [List.length_reverse]; exact HMl.out)
          have E := hid (show tellR q z = (cutR q.cnt F.reverse, 0) from by rw [ET.out, hb]; rfl)
          rw [hb] at c2
          clear hb ET
          go_wp2_with fail
          refine (reverse_any W2.heap.size v4 F.length F W4 O4.out rfl (by have := HMl.out; omega)).mono ?_
          rintro e W5 ⟨rfl, o5, g5⟩
          have HB5 := hid (B4.out.grown g5 B4.out.size (fun k hk => (O4.out.lt k hk).1))
          have O5 := hid (show W5.ownsRow W2.heap.size 27 2 v4 F.reverse.length (smpCells F.reverse) from by rw [List.length_reverse]; exact o5)
          clear o5 g5 c0 c1 c2 c3 c4 c5 c6 c7 c8 c9 c10 c11
          obtain ⟨c0, c1, c2, c3, c4, c5, c6, c7, c8, c9, c10, c11⟩ := HKQ.out _ HB5.out
          generalize F.reverse = R at *
          obtain ⟨ad, cp, rfl, hS5, _⟩ := owns_lst7 HFF64.out (by have := HFFl.out; omega) O5.out
          have HS5 := hid hS5
          clear hS5
          have hcn := HC.out
          by_cases hc0 : q.cnt = 0
          · have tc : (q.cnt != 0) = false := by rw [bne_eq_false_iff_eq]; exact hc0
            have E2 := hid (show tellR q z = (R, 0) from by rw [E.out]; unfold cutR; rw [if_pos hc0])
            clear hc0 E hcn
            go_wp2
            go_ret2
            exact ⟨_, _, _, (by rw [E2.out]; rfl), (by rw [E2.out]; exact HS5.out), by rw [HQB.out]; exact B2.trans (HB5.out.mono (by omega))⟩
          · have tc : (q.cnt != 0) = true := by rw [bne_iff_ne]; exact hc0
            obtain ⟨k, hk⟩ : ∃ k : Nat, q.cnt = (k : Int) := ⟨q.cnt.toNat, by omega⟩
            have E2 := hid (show tellR q z = (R.take k, 0) from by rw [E.out]; unfold cutR; rw [if_neg hc0, hk]; rfl)
            by_cases hle : k ≤ R.length
            · obtain ⟨a1, hs1, L1⟩ := lst_to HS5.out k hle
              have HL1 := hid L1
              have hle' : q.cnt ≤ (R.length : Int) := by omega
              rw [← hk] at hs1
              clear hc0 E hcn L1 hk
              go_wp2
              go_ret2
              exact ⟨_, _, _, (by rw [E2.out]; rfl), (by rw [E2.out]; exact HL1.out), by rw [HQB.out]; exact B2.trans (HB5.out.mono (by omega))⟩
            · have hcap : R.length ≤ cp := HS5.out.1.2.1
              have HL1 := hid (show Lst W5 ad R.length cp (R.take k) from by rw [List.take_of_length_le (by omega)]; exact HS5.out)
              have hle' : ¬ q.cnt ≤ (R.length : Int) := by omega
              clear hc0 E hcn hk hle
              go_wp2
              go_ret2
              exact ⟨_, _, _, (by rw [E2.out]; rfl), (by rw [E2.out]; exact HL1.out), by rw [HQB.out]; exact B2.trans (HB5.out.mono (by omega))⟩
      · have E := hid (show tellR q z = ([], er) from by rw [ET.out, if_neg her])
        have te : (er != 0) = true := by rw [bne_iff_ne]; exact her
        clear her ET
        go_wp2
        go_ret2
        exact ⟨none, 0, 0, (by rw [E.out]; rfl), (by rw [E.out]; exact Lst.nil _), by rw [HQB.out]; exact B2.trans (B4.out.mono (by omega))⟩
  · have E := hid (show tellR q z = ([], 1) from if_neg hr)
    have HE := hid (show errR q = 1 from if_neg hr)
    rw [E.out]
    clear hr E
    go_enter Tryz.func80, Tryz.ntmps80
    go_wp2_with fail
    refine (right_x q a n c _ HN.out.1 HN.out.2).mono ?_
    rintro e W2 ⟨rfl, b2⟩
    rw [HE.out]
    have B2 := B0.trans (b2.mono (by omega))
    go_wp2
    go_ret2
    exact ⟨none, 0, 0, rfl, Lst.nil _, B2⟩
def tSp (P : Spc) (k : Tx) (q : Qry) : List (Int × Int) × Int := if P.has k then tellR q ((P.S k).z.filter (inB q.fr q.to)) else ([], 5)
theorem tell_x (q : Qry) (a : Option Addr) (n c : Nat) (sa : Option Addr) (len cap : Nat) (z : List (Int × Int)) (w : World) (h : SampAt w sa len cap z) (hi : IntAt w a n c q.tm) (hl : len ≤ 10000) :
    Calls Tryz.prog 80 #[.slice sa len cap, .agg #[.int .i64 q.fr, .int .i64 q.to, .bool q.back, .int .i64 q.cnt, .int .i64 q.kd, .int .i64 q.sz, .int .i64 q.al, .bool q.emp, .slice a n c, .bool q.vals, .int .i64 q.lo, .int .i64 q.hi]] w (TellP (tellR q z) w) := tell_any q a n c sa len cap z w h hi hl
theorem hTell (w : World) (x : Nat) (m : Mem) (P : Spc) (k : Tx) (q : Qry) (a : Option Addr) (n c : Nat) (h : SpAt w x m P) (hf : Few 10000 P) (hi : IntAt w a n c q.tm) :
    Calls Tryz.prog 31 #[.pointer (some ⟨x, 0, none⟩), .string (bs k), qv q a n c] w (TellP (tSp P k q) w) := by
  have B0 := (Below.refl w.heap.size w).alloc (Nat.le_refl _) (.cells (qcs q a n c) 67)
  have hq0 := heap_new w (.cells (qcs q a n c) 67)
  have s0 : w.heap.size < (w.alloc (.cells (qcs q a n c) 67)).heap.size := by simp
  have HQ := hid (qc_of hq0)
  have HI := hid hi
  unfold qcs at B0 s0 HQ
  unfold qv
  by_cases hk : P.has k
  · have HF := hid (fun W (b : Below w.heap.size w W) => hFind_ok W x m P k (h.keep b) hk)
    have hz := h.ok.siz k hk
    have hzl := hf.z k hk
    have HRG := hid (fun W (b : Below w.heap.size w W) => range_ser (m.B k) (P.Z k) (P.S k) q.fr q.to W ((h.keep b).ser k hk) hz.1 (h.ok.std k hk).rise (by omega))
    have hfl : ((P.S k).z.filter (inB q.fr q.to)).length ≤ 10000 := Nat.le_trans (List.length_filter_le _ _) hzl
    have ET : tSp P k q = tellR q ((P.S k).z.filter (inB q.fr q.to)) := if_pos hk
    rw [ET]
    clear ET hq0 h hi hk hf hz hzl
    generalize (P.S k).z.filter (inB q.fr q.to) = zf at *
    generalize m.B k = bk at *
    unfold LaidP at HRG
    go_enter Tryz.func31, Tryz.ntmps31
    go_wp2_with fail
    generalize w.alloc (.cells #[.int .i64 q.fr, .int .i64 q.to, .bool q.back, .int .i64 q.cnt, .int .i64 q.kd, .int .i64 q.sz, .int .i64 q.al, .bool q.emp, .slice a n c, .bool q.vals, .int .i64 q.lo, .int .i64 q.hi] 67) = W1 at *
    refine (HF.out _ B0).mono ?_
    rintro e W2 ⟨rfl, b2⟩
    have s2 : w.heap.size < W2.heap.size := by have := b2.size; omega
    have B2 := hid (B0.trans (b2.mono (by omega)))
    have HQ2 := hid (HQ.out.keep b2 s0)
    clear b2 B0 s0 HQ HF
    have HIK := hid (fun W (b : Below w.heap.size w W) => HI.out.keep b)
    generalize hq : w.heap.size = qb at *
    have HQB := hid hq
    clear hq
    have HKQ := hid (show ∀ W, Below W2.heap.size W2 W → QC W qb q a n c from fun W hW => HQ2.out.keep hW s2)
    have BD := hid ((Below.refl W2.heap.size W2).drew)
    have BDw := hid (B2.out.drew)
    have HRD := hid (HRG.out _ BDw.out)
    obtain ⟨c0, c1, c2, c3, c4, c5, c6, c7, c8, c9, c10, c11⟩ := HQ2.out
    go_wp2_with fail
    go_region_held3 (fun w' => w'.cell? ⟨qb, 0, none⟩ = some (.int .i64 q.fr) ∧ w'.cell? ⟨qb, 1, none⟩ = some (.int .i64 q.to) ∧ w'.cell? ⟨qb, 2, none⟩ = some (.bool q.back) ∧ w'.cell? ⟨qb, 3, none⟩ = some (.int .i64 q.cnt) ∧ w'.cell? ⟨qb, 4, none⟩ = some (.int .i64 q.kd) ∧ w'.cell? ⟨qb, 5, none⟩ = some (.int .i64 q.sz) ∧ w'.cell? ⟨qb, 6, none⟩ = some (.int .i64 q.al) ∧ w'.cell? ⟨qb, 7, none⟩ = some (.bool q.emp) ∧ w'.cell? ⟨qb, 8, none⟩ = some (.slice a n c) ∧ w'.cell? ⟨qb, 9, none⟩ = some (.bool q.vals) ∧ w'.cell? ⟨qb, 10, none⟩ = some (.int .i64 q.lo) ∧ w'.cell? ⟨qb, 11, none⟩ = some (.int .i64 q.hi))
      (first
        | exact HKQ.out _ B4.out
        | exact HKQ.out _ B3.out
        | exact HKQ.out _ BD.out
        | go_keep
        | fail)
      (first
        | (go_at_call 22
           (with_reducible refine HRD.out.mono ?_)
           rintro e W3 ⟨ra, rc, rfl, l3, b3⟩
           have B3 := hid (BD.out.trans (b3.mono BD.out.size))
           have B3w := hid (BDw.out.trans (b3.mono (Nat.le_of_lt s2)))
           have L3 := hid l3.1
           clear l3 b3)
        | (go_at_call 80
           (with_reducible refine (tell_x q a n c ra _ rc zf _ L3.out (HIK.out _ B3w.out) hfl).mono ?_)
           rintro e W4 ⟨oa, on, oc, rfl, o4, b4⟩
           have B4 := hid (B3.out.trans (b4.mono B3.out.size))
           have B4w := hid (B3w.out.trans (b4.mono (Nat.le_trans (Nat.le_of_lt s2) B3.out.size)))
           have O4 := hid o4
           clear o4 b4)
        | fail)
    all_goals
      rename_i hHeld
      clear hHeld c0 c1 c2 c3 c4 c5 c6 c7 c8 c9 c10 c11
      go_wp2
      go_ret2
      exact ⟨oa, on, oc, rfl, O4.out, by rw [HQB.out]; exact B4w.out⟩
  · have HF := hid (fun W (b : Below w.heap.size w W) => hFind_no W x m P k (h.keep b) hk)
    have ET : tSp P k q = ([], 5) := if_neg hk
    rw [ET]
    have HB0 := hid B0
    clear ET hq0 s0 HQ HI h hi hk hf B0
    go_enter Tryz.func31, Tryz.ntmps31
    go_wp2_with fail
    refine (HF.out _ HB0.out).mono ?_
    rintro e W1 ⟨rfl, b1⟩
    have B1 := hid (HB0.out.trans (b1.mono HB0.out.size))
    clear b1
    go_wp2
    go_ret2
    exact ⟨none, 0, 0, rfl, Lst.nil _, B1.out⟩
end Go.Proofs.YtmifpfojhlmbkaaGreat
