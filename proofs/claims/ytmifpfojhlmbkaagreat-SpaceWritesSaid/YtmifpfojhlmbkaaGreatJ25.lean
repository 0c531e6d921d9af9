/-
  Contracts.
-/
import Derived.Test.YtmifpfojhlmbkaaGreatJ0
import Derived.Test.YtmifpfojhlmbkaaGreatJ4
import Derived.Test.YtmifpfojhlmbkaaGreatJ5
import Derived.Test.YtmifpfojhlmbkaaGreatJ9
import Derived.Test.YtmifpfojhlmbkaaGreatJ15
import Derived.Test.YtmifpfojhlmbkaaGreatJ23
import Derived.Test.YtmifpfojhlmbkaaGreatJ24
namespace Go.Proofs.YtmifpfojhlmbkaaGreat
open Lib (hid)
set_option maxRecDepth 100000
set_option maxHeartbeats 16000000
set_option linter.unusedVariables false
set_option linter.unusedSimpArgs false
def valsOf (l : List (Int × Int)) : List Int := l.map (·.2)
theorem valsOf_nil (l : List (Int × Int)) : valsOf l = [] ↔ l = [] := by simp [valsOf]
theorem valsOf_len (l : List (Int × Int)) : (valsOf l).length = l.length := by simp [valsOf]
def groups (size align : Int) (l : List (Int × Int)) : List (Int × List (Int × Int)) := grp (fun t => startB t size align) l
def buckL (k size align : Int) (l : List (Int × Int)) : List (Int × Int) := (groups size align l).map fun g => (g.1, valK k (valsOf g.2))
def okT (l : List (Int × Int)) : Prop := ∀ u ∈ l, 0 ≤ u.1 ∧ u.1 ≤ 1099511627776
instance (l : List (Int × Int)) : Decidable (okT l) := inferInstanceAs (Decidable (∀ u ∈ l, _))
def buckA (k size align : Int) (l : List (Int × Int)) : List (Int × Int) := if (1 ≤ k ∧ k ≤ 7) ∧ rightB size align ∧ okT l then buckL k size align l else []
theorem buckA_ok {k size align : Int} {l : List (Int × Int)} (hk : 1 ≤ k ∧ k ≤ 7) (hr : rightB size align) (ht : okT l) : buckA k size align l = buckL k size align l := by unfold buckA; rw [if_pos ⟨hk, hr, ht⟩]
theorem buck_len (k size align : Int) (l : List (Int × Int)) : (buckL k size align l).length = (groups size align l).length := by simp [buckL]
theorem addG_len (f : Int → Int) (gs : List (Int × List (Int × Int))) (x : Int × Int) : (addG f gs x).length ≤ gs.length + 1 := by
  rcases addG_cases f gs x with ⟨_, e⟩ | ⟨ds, g, e1, _, e⟩
  · rw [e]; simp
  · rw [e, e1]; simp
theorem groups_few (size align : Int) (l : List (Int × Int)) : (groups size align l).length ≤ l.length := by
  refine snoc_cases (P := fun l => (groups size align l).length ≤ l.length) (by simp [groups, grp]) (fun l x ih => ?_) l
  unfold groups at *
  rw [grp_snoc, List.length_append, List.length_singleton]
  have := addG_len (fun t => startB t size align) (grp (fun t => startB t size align) l) x
  omega
theorem groups_mem {size align : Int} {l : List (Int × Int)} {g : Int × List (Int × Int)} (h : g ∈ groups size align l) : g.2 ≠ [] ∧ (∀ u ∈ g.2, u ∈ l ∧ startB u.1 size align = g.1) := by
  obtain ⟨h1, h2⟩ := grp_mem _ l g h
  refine ⟨h1, fun u hu => ⟨?_, h2 u hu⟩⟩
  rw [← grp_flat (fun t => startB t size align) l]
  exact List.mem_flatten.2 ⟨g.2, List.mem_map.2 ⟨g, h, rfl⟩, hu⟩
theorem grp_block {f : Int → Int} {p : List (Int × Int)} {b : Int} (hp : ∀ g ∈ (grp f p).getLast?, g.1 ≠ b) (m : List (Int × Int)) : m ≠ [] → (∀ u ∈ m, f u.1 = b) → grp f (p ++ m) = grp f p ++ [(b, m)] := by
  refine snoc_cases (P := fun m => m ≠ [] → (∀ u ∈ m, f u.1 = b) → grp f (p ++ m) = grp f p ++ [(b, m)]) (fun h => absurd rfl h) (fun m x ih _ hm => ?_) m
  have hx := hm x (by simp)
  rw [← List.append_assoc, grp_snoc]
  by_cases hne : m = []
  · subst hne
    rw [List.append_nil, addG_new (by rw [hx]; exact hp), hx]; rfl
  · rw [ih hne (fun u hu => hm u (by simp [hu])), addG_old hx.symm]
open Go.RowKit Go.Shelf
def FoldP (k : Int) (l : List Int) (w : World) (e : Ending) (w' : World) : Prop := e = .returned (tell (valK k l) (isK k l)) ∧ Below w.heap.size w w'
theorem vOf_vals (z : List (Int × Int)) (j : Nat) (h : j < z.length) : (valsOf z).take (j + 1) = (valsOf z).take j ++ [vOf z j] := by
  rw [List.take_succ_eq_append_getElem (by rw [valsOf_len]; exact h)]
  congr 2
  unfold valsOf vOf
  rw [List.getElem_map, List.getD_eq_getElem?_getD, List.getElem?_eq_getElem h]; rfl
theorem vals64 {z : List (Int × Int)} (h : All64 z) : ∀ x ∈ valsOf z, in64 x := by
  intro x hx
  obtain ⟨u, hu, rfl⟩ := List.mem_map.1 hx
  exact (h u hu).2
theorem vOf_in {z : List (Int × Int)} (h : All64 z) (j : Nat) : in64 (vOf z j) := by
  unfold vOf
  rw [List.getD_eq_getElem?_getD]
  by_cases hj : j < z.length
  · rw [List.getElem?_eq_getElem hj]; exact (h _ (List.getElem_mem hj)).2
  · rw [List.getElem?_eq_none (by omega)]; simp [in64]
theorem fold_any (k : Int) (a : Option Addr) (len cap : Nat) (z : List (Int × Int)) (w : World) (h : SampAt w a len cap z) (hl : len < 4611686018427387904) :
    Calls Tryz.prog 57 #[.int .i64 k, .slice a len cap] w (FoldP k (valsOf z) w) := by
  by_cases hk : kok k
  · have HK := hid hk
    have HL := hid h.1
    have HA := hid h.2.2.2.1
    have HS := hid h
    have HI := hid (show isK k (valsOf z) = decide (valsOf z ≠ []) from by unfold isK; rw [decide_eq_true (show 1 ≤ k ∧ k ≤ 7 from hk)]; rfl)
    clear h hk
    go_enter Tryz.func57, Tryz.ntmps57
    go_wp2_with fail
    refine (anew_ok k _ HK.out).mono ?_
    rintro e W1 ⟨c, rfl, hc, hst, b1⟩
    have HC := hid hc
    clear hc
    go_wp2
    go_loopw [19] (fun i wr => ∃ j : Nat, j ≤ len ∧ i = .int .i64 (j : Int) ∧ StP wr c k ((valsOf z).take j) ∧ Below w.heap.size w wr) (fun i _ => len - (intOf i).toNat)
    case atStart => exact ⟨0, Nat.zero_le _, rfl, hst, b1⟩
    case round =>
      clear hst b1
      obtain ⟨j, hj, rfl, hst, B⟩ := hrel
      by_cases hjn : j < len
      · obtain ⟨p, o, rfl, hp, x0, x1⟩ := (HS.out.keep B).at_ j hjn
        have HV := hid (vOf_in HA.out j)
        have HT := hid (vOf_vals z j (by rw [HL.out]; exact hjn))
        generalize tOf z j = t at *
        generalize vOf z j = v at *
        go_wp2_with fail
        have hst2 := hst.keepN (World.grownBy_alloc wr (.cells #[.int .i64 t, .int .i64 v] 27) none)
        have B2 := B.alloc B.size (.cells #[.int .i64 t, .int .i64 v] 27)
        generalize wr.alloc (.cells #[.int .i64 t, .int .i64 v] 27) = W2 at *
        have hlen : ((valsOf z).take j).length < 4611686018427387904 := by rw [List.length_take]; omega
        refine (add_st c k _ v _ HK.out hst2 HV.out hlen).mono ?_
        rintro e W3 ⟨rfl, hst3, g3⟩
        have B3 := bel_gb B2 B2.size HC.out g3
        rw [← HT.out] at hst3
        clear hst hst2 g3 x0 x1 B B2 hlen
        go_wp2
        go_roundw
        case rel => exact ⟨j + 1, by omega, by go_num, hst3, B3⟩
        case measure => simp [intOf]; omega
      · obtain rfl : j = len := by omega
        rw [List.take_of_length_le (by rw [valsOf_len, HL.out]; exact Nat.le_refl _)] at hst
        have hlen : (valsOf z).length < 4611686018427387904 := by rw [valsOf_len, HL.out]; exact hl
        go_wp2_with fail
        refine (value_st c k _ _ HK.out hst hlen).mono ?_
        rintro e W3 ⟨rfl, b3⟩
        have B3 := bel_gbn B B.size (gb_below b3)
        generalize hx : valK k (valsOf z) = x at *
        generalize hy : decide (valsOf z ≠ []) = y at *
        have HX := hid hx
        have HY := hid hy
        clear hx hy hst b3 B
        unfold tell
        go_wp2
        go_ret2
        exact ⟨by rw [HI.out, HX.out]; rfl, B3⟩
  · have HK := hid hk
    have E1 := hid (valK_no (k := k) (valsOf z) hk)
    have E2 := hid (show isK k (valsOf z) = false from by unfold isK; rw [decide_eq_false (show ¬ (1 ≤ k ∧ k ≤ 7) from hk)]; rfl)
    clear h hk
    go_enter Tryz.func57, Tryz.ntmps57
    go_wp2_with fail
    refine (anew_no k _ HK.out).mono ?_
    rintro e W1 ⟨rfl, rfl⟩
    go_wp2
    go_ret2
    exact ⟨by rw [E1.out, E2.out]; rfl, Below.refl _ _⟩
open Go.RowKit
theorem cancut_any (size align : Int) (w : World) :
    Calls Tryz.prog 118 #[.int .i64 size, .int .i64 align] w fun e w' => e = .returned (.bool (decide (rightB size align))) ∧ w = w' := by
  by_cases h1 : 0 ≤ align
  · by_cases h2 : align < size
    · by_cases h3 : size ≤ 1099511627776
      · have E := hid (show decide (rightB size align) = true from decide_eq_true ⟨⟨by omega, h3⟩, h1, h2⟩)
        go_enter Tryz.func118, Tryz.ntmps118
        go_wp2
        go_ret
        exact ⟨ret_bool E.out.symm, rfl⟩
      · have E := hid (show decide (rightB size align) = false from decide_eq_false (fun h => h3 h.1.2))
        go_enter Tryz.func118, Tryz.ntmps118
        go_wp2
        go_ret
        exact ⟨ret_bool E.out.symm, rfl⟩
    · have E := hid (show decide (rightB size align) = false from decide_eq_false (fun h => h2 h.2.2))
      go_enter Tryz.func118, Tryz.ntmps118
      go_wp2
      go_ret
      exact ⟨ret_bool E.out.symm, rfl⟩
  · have E := hid (show decide (rightB size align) = false from decide_eq_false (fun h => h1 h.2.1))
    go_enter Tryz.func118, Tryz.ntmps118
    go_wp2
    go_ret
    exact ⟨ret_bool E.out.symm, rfl⟩
def canT (t : Int) : Bool := decide (0 ≤ t ∧ t ≤ 1099511627776)
theorem canhold_any (t : Int) (w : World) :
    Calls Tryz.prog 119 #[.int .i64 t] w fun e w' => e = .returned (.bool (canT t)) ∧ w = w' := by
  by_cases h1 : 0 ≤ t
  · by_cases h2 : t ≤ 1099511627776
    · have E := hid (show canT t = true from decide_eq_true ⟨h1, h2⟩)
      go_enter Tryz.func119, Tryz.ntmps119
      go_wp2
      go_ret
      exact ⟨ret_bool E.out.symm, rfl⟩
    · have E := hid (show canT t = false from decide_eq_false (fun h => h2 h.2))
      go_enter Tryz.func119, Tryz.ntmps119
      go_wp2
      go_ret
      exact ⟨ret_bool E.out.symm, rfl⟩
  · have E := hid (show canT t = false from decide_eq_false (fun h => h1 h.1))
    go_enter Tryz.func119, Tryz.ntmps119
    go_wp2
    go_ret
    exact ⟨ret_bool E.out.symm, rfl⟩
theorem start_any (t size align : Int) (w : World) :
    Calls Tryz.prog 55 #[.int .i64 t, .int .i64 size, .int .i64 align] w fun e w' => e = .returned (.int .i64 (startB t size align)) ∧ w = w' := by
  by_cases hr : rightB size align
  · have HR := hid hr
    by_cases hc : 0 ≤ t ∧ t ≤ 1099511627776
    · have tc : canT t = true := decide_eq_true hc
      by_cases ha : t < align
      · have E := hid (startB_low (size := size) ha)
        go_enter Tryz.func55, Tryz.ntmps55
        go_wp2_with fail
        refine (cancut_any _ _ _).mono ?_
        rintro e w' ⟨rfl, rfl⟩
        rw [decide_eq_true HR.out]
        go_wp2_with fail
        refine (canhold_any _ _).mono ?_
        rintro e w' ⟨rfl, rfl⟩
        rw [tc]
        go_wp2
        go_ret
        exact ⟨ret_int E.out.symm, rfl⟩
      · have hs1 := hr.1.1
        have hs2 := hr.1.2
        have ha0 := hr.2.1
        have h3 := whole_le (t - align) size hs1
        have h4 := Int.mul_ediv_add_emod (t - align) size
        rw [Int.mul_comm] at h4
        have h5 := Int.emod_nonneg (t - align) (show size ≠ 0 by omega)
        have h6 := Int.emod_lt_of_pos (t - align) (show 0 < size by omega)
        have E := hid (show startB t size align = t - (t - align) % size from by rw [startB_of hr (by omega) hc.2]; omega)
        have hm : (t - align).tmod size = (t - align) % size := Int.tmod_eq_emod_of_nonneg (by omega)
        have hsz : size ≠ 0 := by omega
        have hm1 : 0 ≤ (t - align) % size := h5
        have hm2 : (t - align) % size < 1099511627776 := by omega
        clear h3 h4 h5 h6 hr
        generalize (t - align) % size = m at *
        obtain ⟨hc1, hc2⟩ := hc
        go_enter Tryz.func55, Tryz.ntmps55
        go_wp2_with fail
        refine (cancut_any _ _ _).mono ?_
        rintro e w' ⟨rfl, rfl⟩
        rw [decide_eq_true HR.out]
        go_wp2_with fail
        refine (canhold_any _ _).mono ?_
        rintro e w' ⟨rfl, rfl⟩
        rw [tc]
        go_wp2
        go_ret
        exact ⟨ret_int (by rw [E.out]; try omega), rfl⟩
    · have tc : canT t = false := decide_eq_false hc
      have E := hid (show startB t size align = 0 from by
        unfold startB
        rw [if_pos]
        have := hr.2.1
        by_cases h : t < align
        · exact .inr (.inl h)
        · exact .inr (.inr (by omega)))
      clear hc hr
      go_enter Tryz.func55, Tryz.ntmps55
      go_wp2_with fail
      refine (cancut_any _ _ _).mono ?_
      rintro e w' ⟨rfl, rfl⟩
      rw [decide_eq_true HR.out]
      go_wp2_with fail
      refine (canhold_any _ _).mono ?_
      rintro e w' ⟨rfl, rfl⟩
      rw [tc]
      go_wp2
      go_ret
      exact ⟨ret_int E.out.symm, rfl⟩
  · have E := hid (show startB t size align = 0 from by unfold startB; rw [if_pos (.inl hr)])
    have HR := hid hr
    clear hr
    go_enter Tryz.func55, Tryz.ntmps55
    go_wp2_with fail
    refine (cancut_any _ _ _).mono ?_
    rintro e w' ⟨rfl, rfl⟩
    rw [decide_eq_false HR.out]
    go_wp2
    go_ret
    exact ⟨ret_int E.out.symm, rfl⟩
theorem startB_in {t size align : Int} : 0 ≤ startB t size align ∧ startB t size align ≤ 1099511627776 := by
  unfold startB
  by_cases hr : rightB size align
  · by_cases h : t < align ∨ 1099511627776 < t
    · rw [if_pos (.inr h)]; omega
    · have ha := hr.2.1
      have hc := hr.1.1
      have h1 := whole_le (t - align) size hr.1.1
      have h2 := mul_nonneg' (x := t - align) (by omega) hr.1.1
      rw [if_neg]
      · omega
      · rintro (h3 | h3)
        · exact h3 hr
        · exact h h3
  · rw [if_pos (.inl hr)]; omega
theorem end_any (b size align : Int) (w : World) :
    Calls Tryz.prog 56 #[.int .i64 b, .int .i64 size, .int .i64 align] w fun e w' => e = .returned (.int .i64 (endB b size align)) ∧ w = w' := by
  by_cases hr : rightB size align
  · have HR := hid hr
    by_cases hc : 0 ≤ b ∧ b ≤ 1099511627776
    · have tc : canT b = true := decide_eq_true hc
      by_cases ha : b < align
      · have E := hid (show endB b size align = align from by rw [endB_of hr hc.1 hc.2, if_pos ha])
        clear hr
        go_enter Tryz.func56, Tryz.ntmps56
        go_wp2_with fail
        refine (cancut_any _ _ _).mono ?_
        rintro e w' ⟨rfl, rfl⟩
        rw [decide_eq_true HR.out]
        go_wp2_with fail
        refine (canhold_any _ _).mono ?_
        rintro e w' ⟨rfl, rfl⟩
        rw [tc]
        go_wp2
        go_ret
        exact ⟨ret_int E.out.symm, rfl⟩
      · have E := hid (show endB b size align = startB b size align + size from by rw [endB_of hr hc.1 hc.2, if_neg ha])
        have hs1 := hr.1.1
        have hs2 := hr.1.2
        have hsb := startB_in (t := b) (size := size) (align := align)
        clear hr
        go_enter Tryz.func56, Tryz.ntmps56
        go_wp2_with fail
        refine (cancut_any _ _ _).mono ?_
        rintro e w' ⟨rfl, rfl⟩
        rw [decide_eq_true HR.out]
        go_wp2_with fail
        refine (canhold_any _ _).mono ?_
        rintro e w' ⟨rfl, rfl⟩
        rw [tc]
        go_wp2_with fail
        refine (start_any _ _ _ _).mono ?_
        rintro e w' ⟨rfl, rfl⟩
        generalize startB b size align = s at *
        go_wp2
        go_ret
        exact ⟨ret_int (by rw [E.out]), rfl⟩
    · have tc : canT b = false := decide_eq_false hc
      have E := hid (show endB b size align = 0 from by unfold endB; rw [if_pos (.inr (by omega))])
      clear hr hc
      go_enter Tryz.func56, Tryz.ntmps56
      go_wp2_with fail
      refine (cancut_any _ _ _).mono ?_
      rintro e w' ⟨rfl, rfl⟩
      rw [decide_eq_true HR.out]
      go_wp2_with fail
      refine (canhold_any _ _).mono ?_
      rintro e w' ⟨rfl, rfl⟩
      rw [tc]
      go_wp2
      go_ret
      exact ⟨ret_int E.out.symm, rfl⟩
  · have E := hid (show endB b size align = 0 from by unfold endB; rw [if_pos (.inl hr)])
    have HR := hid hr
    clear hr
    go_enter Tryz.func56, Tryz.ntmps56
    go_wp2_with fail
    refine (cancut_any _ _ _).mono ?_
    rintro e w' ⟨rfl, rfl⟩
    rw [decide_eq_false HR.out]
    go_wp2
    go_ret
    exact ⟨ret_int E.out.symm, rfl⟩
def upd {β : Type} (f : Tx → β) (k : Tx) (v : β) : Tx → β := fun x => if x = k then v else f x
theorem upd_k {β : Type} (f : Tx → β) (k : Tx) (v : β) : upd f k v k = v := if_pos rfl
theorem upd_n {β : Type} (f : Tx → β) {k x : Tx} (v : β) (h : x ≠ k) : upd f k v x = f x := if_neg h
structure Spc where
  E : List Ent
  Z : Tx → Int
  S : Tx → Ser
  G : List Ru
def noSpc : Spc := ⟨[], fun _ => 0, fun _ => ⟨0, 0, 0, 0, []⟩, []⟩
def Spc.has (P : Spc) (k : Tx) : Prop := k ∈ keysL P.E
instance (P : Spc) (k : Tx) : Decidable (P.has k) := inferInstanceAs (Decidable (_ ∈ _))
def inBk (r : Ru) (s : Ser) (b : Int) : List (Int × Int) := s.z.filter (inB b (endB b r.size r.align - 1))
def isBk (r : Ru) (s : Ser) (b : Int) : Bool := isK r.kind (valsOf (inBk r s b))
def vBk (r : Ru) (s : Ser) (b : Int) : Int := valK r.kind (valsOf (inBk r s b))
def clo (r : Ru) (mx b : Int) : Prop := endB b r.size r.align ≤ startB mx r.size r.align
instance (r : Ru) (mx b : Int) : Decidable (clo r mx b) := inferInstanceAs (Decidable (_ ≤ _))
def layS (d : Ser) (b : Int) (is : Bool) (v : Int) : Ser := if is then addS5 d b v 3 else delS d b b
def makeS (r : Ru) (s : Ser) (d : Ser) (b : Int) : Ser := layS d b (isBk r s b) (vBk r s b)
def stepB (r : Ru) (mx : Int) (o : List Int) (t : Int) : List Int :=
  if clo r mx (startB t r.size r.align) ∧ o.getLast? ≠ some (startB t r.size r.align) then o ++ [startB t r.size r.align] else o
def startsL (r : Ru) (mx : Int) (ts : List Int) : List Int := ts.foldl (stepB r mx) []
def remS (r : Ru) (s d : Ser) (ts : List Int) : Ser := (startsL r s.mx ts).foldl (makeS r s) d
def remK (S : Tx → Ser) (rs : List Ru) (ts : List Int) : Tx → Ser := rs.foldl (fun S r => upd S r.dst (remS r (S r.src) (S r.dst) ts)) S
def touchL (ahead t : Int) : List Int := if 0 ≤ ahead ∧ ahead < t then [ahead, t] else [t]
def wErr (P : Spc) (k : Tx) : Int := if ¬ P.has k then 5 else if (intoL P.G k).isSome then 10 else 0
def aErr (P : Spc) (k : Tx) (T V p : Int) : Int := if wErr P k ≠ 0 then wErr P k else addE (P.S k) T V p
def wrote (P : Spc) (k : Tx) (T V p : Int) : Spc := { P with S := remK (upd P.S k (addS5 (P.S k) T V p)) (ofL P.G k) (touchL (P.S k).mx T) }
def aSp (P : Spc) (k : Tx) (T V p : Int) : Spc := if aErr P k T V p = 0 then wrote P k T V p else P
def lastT (s : Ser) : Int := tOf s.z (s.z.length - 1)
def lastV (s : Ser) : Int := vOf s.z (s.z.length - 1)
def raiE (s : Ser) (t b : Int) : Int × Int := if t < 0 ∨ 1099511627776 ≤ t then (0, 1) else if t < lastT s then (0, 7) else addS (lastV s) b
def iErr (P : Spc) (k : Tx) (t b : Int) : Int := if wErr P k ≠ 0 then wErr P k else if (raiE (P.S k) t b).2 ≠ 0 then (raiE (P.S k) t b).2 else addE (P.S k) t (raiE (P.S k) t b).1 3
def iVal (P : Spc) (k : Tx) (t b : Int) : Int := if iErr P k t b = 0 then (raiE (P.S k) t b).1 else 0
def iSp (P : Spc) (k : Tx) (t b : Int) : Spc := if iErr P k t b = 0 then wrote P k t (raiE (P.S k) t b).1 3 else P
def timesL (z : List (Int × Int)) : List Int := z.map (·.1)
def dNum (P : Spc) (k : Tx) (x y : Int) : Int := if wErr P k ≠ 0 then 0 else (dropN (P.S k).z x y : Int)
def dSp (P : Spc) (k : Tx) (x y : Int) : Spc :=
  if wErr P k ≠ 0 then P else { P with S := remK (upd P.S k (delS (P.S k) x y)) (ofL P.G k) (timesL ((P.S k).z.filter (inB x y))) }
def bErr (P : Spc) (k : Tx) (sz ret pol : Int) (l : List Lb) : Int :=
  if ¬ ((128 ≤ sz ∧ sz ≤ 4096) ∧ keepB ret pol) ∨ ¬ keyB k ∨ ¬ rightL l then 1 else if P.has k then 6 else 0
def putSp (P : Spc) (k : Tx) (sz : Int) (s : Ser) (l : List Lb) : Spc := ⟨setE k l P.E, upd P.Z k sz, upd P.S k s, P.G⟩
def cSp (P : Spc) (k : Tx) (sz ret pol : Int) (l : List Lb) : Spc := if bErr P k sz ret pol l = 0 then putSp P k sz ⟨ret, pol, -1, 0, []⟩ l else P
def lErr (P : Spc) (k : Tx) (ret pol : Int) (l : List Lb) : Int := if ¬ P.has k then 5 else if ¬ rightL l ∨ ¬ keepB ret pol then 1 else 0
def lSp (P : Spc) (k : Tx) (ret pol : Int) (l : List Lb) : Spc := if lErr P k ret pol l = 0 then ⟨setE k l P.E, P.Z, upd P.S k (altS (P.S k) ret pol), P.G⟩ else P
def goSp (P : Spc) (k : Tx) : Spc := ⟨dels P.E k, P.Z, P.S, goneL P.G k⟩
def kErr (P : Spc) (r : Ru) : Int := if ¬ rightU r then 1 else if ¬ P.has r.src ∨ ¬ P.has r.dst then 5 else addEG P.G r
def keSp (P : Spc) (r : Ru) : Spc := if kErr P r = 0 then { P with G := insU r P.G } else P
def kSp (P : Spc) (r : Ru) : Spc :=
  if kErr P r = 0 then ⟨P.E, P.Z, upd P.S r.dst (remS r (P.S r.src) (delS (P.S r.dst) 0 1099511627776) (timesL (P.S r.src).z)), insU r P.G⟩ else P
def uSp (P : Spc) (s d : Tx) : Spc := { P with G := dropU P.G s d }
structure Ok12 (P : Spc) : Prop where
  gE : GoodE P.E
  gG : GoodU P.G
  ends : ∀ r ∈ P.G, P.has r.src ∧ P.has r.dst
  std : ∀ k, P.has k → Std (P.S k)
  siz : ∀ k, P.has k → 128 ≤ P.Z k ∧ P.Z k ≤ 4096
structure Few (n : Nat) (P : Spc) : Prop where
  e : P.E.length ≤ n
  g : P.G.length ≤ n
  z : ∀ k, P.has k → (P.S k).z.length ≤ n
theorem Few.more {n m : Nat} {P : Spc} (h : Few n P) (k : n ≤ m) : Few m P := ⟨Nat.le_trans h.e k, Nat.le_trans h.g k, fun x hx => Nat.le_trans (h.z x hx) k⟩
theorem Ok12.none : Ok12 noSpc := ⟨.nil, .nil, by simp [noSpc], fun k h => absurd h (by simp [Spc.has, noSpc, keysL]), fun k h => absurd h (by simp [Spc.has, noSpc, keysL])⟩
theorem mem_bk {r : Ru} {s : Ser} {b : Int} {x : Int × Int} : x ∈ inBk r s b ↔ x ∈ s.z ∧ b ≤ x.1 ∧ x.1 < endB b r.size r.align := by
  unfold inBk inB
  rw [List.mem_filter]
  simp only [Bool.and_eq_true, decide_eq_true_eq]
  constructor
  · rintro ⟨h1, h2, h3⟩; exact ⟨h1, h2, by omega⟩
  · rintro ⟨h1, h2, h3⟩; exact ⟨h1, h2, by omega⟩
theorem bk_is {r : Ru} {s : Ser} {b : Int} (h : kok r.kind) : isBk r s b = decide (inBk r s b ≠ []) := by
  unfold isBk isK
  unfold kok at h
  rw [decide_eq_true h, Bool.true_and]
  exact decide_eq_decide.2 (not_congr (valsOf_nil _))
theorem bk_yes {r : Ru} {s : Ser} {b : Int} {x : Int × Int} (h : kok r.kind) (hx : x ∈ inBk r s b) : isBk r s b = true := by
  rw [bk_is h]; exact decide_eq_true (fun e => by rw [e] at hx; cases hx)
theorem bk_ex {r : Ru} {s : Ser} {b : Int} (h : kok r.kind) (hx : isBk r s b = true) : ∃ x, x ∈ inBk r s b := by
  rw [bk_is h] at hx
  exact List.exists_mem_of_ne_nil _ (of_decide_eq_true hx)
theorem bk_no {r : Ru} {s : Ser} {b : Int} (h : kok r.kind) (hx : ∀ x, x ∉ inBk r s b) : isBk r s b = false := by
  rw [bk_is h]
  exact decide_eq_false (fun e => e (List.eq_nil_iff_forall_not_mem.2 hx))
theorem bk_same {r : Ru} {s s' : Ser} {b : Int} (h : Rising s.z) (h' : Rising s'.z) (e : ∀ x : Int × Int, b ≤ x.1 → x.1 < endB b r.size r.align → (x ∈ s'.z ↔ x ∈ s.z)) : inBk r s' b = inBk r s b := by
  refine pw_ext (R := fun a b : Int × Int => a.1 < b.1) (fun _ => by omega) (fun _ _ _ => by omega) (List.Pairwise.filter _ ((rising_pw _).1 h')) (List.Pairwise.filter _ ((rising_pw _).1 h)) (fun p => ?_)
  show p ∈ inBk r s' b ↔ p ∈ inBk r s b
  rw [mem_bk, mem_bk]
  exact ⟨fun ⟨a, c, d⟩ => ⟨(e p c d).1 a, c, d⟩, fun ⟨a, c, d⟩ => ⟨(e p c d).2 a, c, d⟩⟩
theorem vBk_in {r : Ru} {s : Ser} (h : All64 s.z) (hn : s.z.length < 4611686018427387904) (b : Int) : in64 (vBk r s b) := by
  unfold vBk
  by_cases e : valsOf (inBk r s b) = []
  · rw [e, valK_nil]; unfold in64; omega
  · refine valK_in e (vals64 fun x hx => h x (mem_bk.1 hx).1) ?_
    rw [valsOf_len]
    exact Nat.lt_of_le_of_lt (List.length_filter_le ..) hn
theorem add3 {d : Ser} (h : Std d) {b v : Int} (h0 : 0 ≤ b) (h1 : b < 1099511627776) : addE d b v 3 = if b < d.line then 7 else 0 := by
  have hp : polS d 3 = 3 := if_neg (by decide)
  have hb : ¬ badS d b 3 := by unfold badS; rw [hp]; omega
  unfold addE
  rw [if_neg hb, hp, newV_last]
theorem line_trimS (s : Ser) : s.line ≤ (trimS s).line := by
  show s.line ≤ lineS s
  unfold lineS; split <;> omega
theorem line_addS (s : Ser) (T V p : Int) : s.line ≤ (addS5 s T V p).line := by
  unfold addS5
  split
  · exact line_trimS _
  · exact Int.le_refl _
theorem mem_trim {s : Ser} (h : Rising s.z) (x : Int × Int) : x ∈ (trimS s).z ↔ x ∈ s.z ∧ (x.1 < 0 ∨ (trimS s).line ≤ x.1) := by
  show x ∈ dropL s.z 0 (lineS s - 1) ↔ _ ∧ (_ ∨ lineS s ≤ x.1)
  rw [dropL_mem h]
  exact and_congr_right fun _ => or_congr_right (by omega)
theorem get_trim {s : Ser} (h : Rising s.z) {c : Int} (hc : (trimS s).line ≤ c) : getL (trimS s).z c = getL s.z c := by
  have hc' : lineS s ≤ c := hc
  exact getL_drop h 0 (lineS s - 1) c (by omega)
theorem mem_add {s : Ser} (h : Rising s.z) {T V p : Int} {x : Int × Int} (hx : x ∈ (addS5 s T V p).z) : x.1 = T ∨ x ∈ s.z := by
  unfold addS5 at hx
  split at hx
  · rw [mem_trim (insL_rising h _ _)] at hx
    rcases (insL_mem h _ _ _).1 hx.1 with e | e
    · exact .inr e.1
    · exact .inl (by rw [e])
  · exact .inr hx
theorem mem_add_back {s : Ser} (h : Rising s.z) {T V p : Int} {x : Int × Int} (hx : x ∈ s.z) (hT : x.1 ≠ T) (hl : (addS5 s T V p).line ≤ x.1) : x ∈ (addS5 s T V p).z := by
  unfold addS5 at hl ⊢
  split
  · rename_i e
    rw [if_pos e] at hl
    rw [mem_trim (insL_rising h _ _)]
    exact ⟨(insL_mem h _ _ _).2 (.inl ⟨hx, hT⟩), .inr hl⟩
  · exact hx
theorem mx_add {s : Ser} {T V p : Int} (h : addE s T V p = 0) : (addS5 s T V p).mx = max s.mx T := by unfold addS5; rw [if_pos h]; rfl
theorem make_line (r : Ru) (s d : Ser) (b : Int) : d.line ≤ (makeS r s d b).line := by
  unfold makeS layS
  split
  · exact line_addS _ _ _ _
  · exact Int.le_refl _
theorem make_std {r : Ru} {s d : Ser} {b : Int} (h : Std d) (hv : in64 (vBk r s b)) : Std (makeS r s d b) := by
  unfold makeS layS
  split
  · exact h.add _ _ _ hv
  · exact h.del _ _
theorem make_get {r : Ru} {s d : Ser} {b c : Int} (h : Std d) (h0 : 0 ≤ b) (h1 : b < 1099511627776) (hc : (makeS r s d b).line ≤ c) :
    getL (makeS r s d b).z c = if c = b then (if isBk r s b then (vBk r s b, 0) else (0, 5)) else getL d.z c := by
  unfold makeS layS at hc ⊢
  cases e : isBk r s b with
  | true =>
    rw [e] at hc
    simp only [if_true] at hc ⊢
    unfold addS5 at hc ⊢
    rw [add3 h h0 h1, show polS d 3 = 3 from if_neg (by decide), newV_last] at hc ⊢
    by_cases hb : b < d.line
    · rw [if_pos hb, if_neg (by omega)] at hc ⊢
      rw [if_neg (by omega)]
    · rw [if_neg hb, if_pos rfl] at hc ⊢
      rw [get_trim (insL_rising h.rise _ _) hc]
      by_cases hcb : c = b
      · subst hcb; rw [if_pos rfl]; exact getL_ins h.rise _ _
      · rw [if_neg hcb]; exact getL_ins_ne h.rise _ _ _ hcb
  | false =>
    simp only [Bool.false_eq_true, if_false]
    show getL (dropL d.z b b) c = _
    by_cases hcb : c = b
    · subst hcb; rw [if_pos rfl]; exact getL_dropped h.rise _ _ _ (by omega)
    · rw [if_neg hcb]; exact getL_drop h.rise _ _ _ (by omega)
theorem make_mem {r : Ru} {s d : Ser} {b : Int} (h : Std d) {x : Int × Int} (hx : x ∈ (makeS r s d b).z) : x ∈ d.z ∨ (x.1 = b ∧ isBk r s b = true) := by
  unfold makeS layS at hx
  cases e : isBk r s b with
  | true =>
    rw [e] at hx
    simp only [if_true] at hx
    rcases mem_add h.rise hx with q | q
    · exact .inr ⟨q, rfl⟩
    · exact .inl q
  | false =>
    rw [e] at hx
    simp only [Bool.false_eq_true, if_false] at hx
    exact .inl ((dropL_mem h.rise _ _ _).1 hx).1
theorem make_len {r : Ru} {s d : Ser} {b : Int} (h : Std d) : (makeS r s d b).z.length ≤ d.z.length + 1 := by
  unfold makeS layS
  split
  · exact add_len h.rise _ _ _
  · have := del_len d b b; omega
def expB (r : Ru) (s : Ser) (c : Int) : Int × Int := if isBk r s c then (vBk r s c, 0) else (0, 5)
theorem rem_spec {r : Ru} {s : Ser} (hv : ∀ b, in64 (vBk r s b)) : ∀ (l : List Int) (d : Ser), (∀ b ∈ l, 0 ≤ b ∧ b < 1099511627776) → Std d →
    Std (l.foldl (makeS r s) d) ∧ d.line ≤ (l.foldl (makeS r s) d).line ∧ (∀ c, (l.foldl (makeS r s) d).line ≤ c → getL (l.foldl (makeS r s) d).z c = if c ∈ l then expB r s c else getL d.z c) ∧
    (∀ x ∈ (l.foldl (makeS r s) d).z, x ∈ d.z ∨ (x.1 ∈ l ∧ isBk r s x.1 = true)) ∧ (l.foldl (makeS r s) d).z.length ≤ d.z.length + l.length
  | [], d, _, h => ⟨h, Int.le_refl _, fun c _ => by simp, fun x hx => .inl hx, Nat.le_refl _⟩
  | b :: l, d, hb, h => by
    obtain ⟨b0, b1⟩ := hb b (by simp)
    obtain ⟨k1, k2, k3, k4, k5⟩ := rem_spec hv l (makeS r s d b) (fun x hx => hb x (List.mem_cons_of_mem _ hx)) (make_std h (hv b))
    have hl := make_line r s d b
    rw [List.foldl_cons]
    refine ⟨k1, by omega, fun c hc => ?_, fun x hx => ?_, ?_⟩
    · rw [k3 c hc, make_get h b0 b1 (by omega)]
      by_cases e : c ∈ l
      · rw [if_pos e, if_pos (List.mem_cons_of_mem _ e)]
      · rw [if_neg e]
        by_cases e2 : c = b
        · subst e2; rw [if_pos rfl, if_pos (show c ∈ c :: l from by simp)]; rfl
        · rw [if_neg e2, if_neg (by simp [e, e2])]
    · rcases k4 x hx with q | ⟨q1, q2⟩
      · rcases make_mem h q with p | ⟨p1, p2⟩
        · exact .inl p
        · exact .inr ⟨by rw [p1]; simp, by rw [p1]; exact p2⟩
      · exact .inr ⟨List.mem_cons_of_mem _ q1, q2⟩
    · have := make_len (r := r) (s := s) (b := b) h
      rw [List.length_cons]; omega
theorem clo_mono {r : Ru} (hr : rightB r.size r.align) {m m' b : Int} (h0 : -1 ≤ m) (h1 : m ≤ m') (h2 : m' < 1099511627776) (h : clo r m b) : clo r m' b := by
  unfold clo at *
  by_cases e : m = -1
  · subst e
    rw [startB_low (by have := hr.2.1; omega)] at h
    have := (startB_in (t := m') (size := r.size) (align := r.align)).1
    omega
  · have := startB_mono hr (show 0 ≤ m by omega) h1 (by omega)
    omega
theorem mem_step {r : Ru} {mx b t : Int} {o : List Int} : b ∈ stepB r mx o t ↔ b ∈ o ∨ (startB t r.size r.align = b ∧ clo r mx b) := by
  unfold stepB
  split
  · rename_i h
    rw [List.mem_append, List.mem_singleton]
    constructor
    · rintro (q | q)
      · exact .inl q
      · exact .inr ⟨q.symm, by rw [q]; exact h.1⟩
    · rintro (q | q)
      · exact .inl q
      · exact .inr q.1.symm
  · rename_i h
    constructor
    · exact .inl
    · rintro (q | ⟨q1, q2⟩)
      · exact q
      · subst q1
        have : o.getLast? = some (startB t r.size r.align) := Classical.byContradiction fun k => h ⟨q2, k⟩
        exact List.mem_of_getLast? this
theorem mem_fold {r : Ru} {mx b : Int} : ∀ (ts : List Int) (o : List Int), b ∈ ts.foldl (stepB r mx) o ↔ b ∈ o ∨ ∃ t ∈ ts, startB t r.size r.align = b ∧ clo r mx b
  | [], o => by simp
  | t :: ts, o => by
    rw [List.foldl_cons, mem_fold ts, mem_step]
    simp only [List.mem_cons, exists_eq_or_imp]
    rw [or_assoc]
theorem mem_starts {r : Ru} {mx b : Int} {ts : List Int} : b ∈ startsL r mx ts ↔ ∃ t ∈ ts, startB t r.size r.align = b ∧ clo r mx b := by
  unfold startsL
  rw [mem_fold]; simp
theorem stepB_len (r : Ru) (mx : Int) (o : List Int) (t : Int) : (stepB r mx o t).length ≤ o.length + 1 := by
  unfold stepB; split <;> simp
theorem fold_len (r : Ru) (mx : Int) : ∀ (ts o : List Int), (ts.foldl (stepB r mx) o).length ≤ o.length + ts.length
  | [], o => Nat.le_refl _
  | t :: ts, o => by
    have h1 := fold_len r mx ts (stepB r mx o t)
    have h2 := stepB_len r mx o t
    rw [List.foldl_cons, List.length_cons]; omega
theorem starts_len (r : Ru) (mx : Int) (ts : List Int) : (startsL r mx ts).length ≤ ts.length := by
  have := fold_len r mx ts []
  simpa [startsL] using this
theorem fold_up {r : Ru} {mx : Int} (hr : rightB r.size r.align) : ∀ (ts o : List Int), ts.Pairwise (· ≤ ·) → (∀ t ∈ ts, 0 ≤ t ∧ t ≤ 1099511627776) → o.Pairwise (· ≤ ·) → (∀ b ∈ o, ∀ t ∈ ts, b ≤ startB t r.size r.align) → (ts.foldl (stepB r mx) o).Pairwise (· ≤ ·)
  | [], o, _, _, h, _ => h
  | t :: ts, o, ht, hb, h, hle => by
    obtain ⟨t1, t2⟩ := List.pairwise_cons.1 ht
    rw [List.foldl_cons]
    have hst : ∀ u ∈ ts, startB t r.size r.align ≤ startB u r.size r.align := fun u hu => startB_mono hr (hb t (by simp)).1 (t1 u hu) (hb u (List.mem_cons_of_mem _ hu)).2
    refine fold_up hr ts _ t2 (fun u hu => hb u (List.mem_cons_of_mem _ hu)) ?_ (fun b hb' u hu => ?_)
    · unfold stepB
      split
      · rw [List.pairwise_append]
        refine ⟨h, List.pairwise_singleton _ _, fun a ha c hc => ?_⟩
        rw [List.mem_singleton] at hc
        subst hc
        exact hle a ha t (by simp)
      · exact h
    · rcases mem_step.1 hb' with q | ⟨q, _⟩
      · exact hle b q u (List.mem_cons_of_mem _ hu)
      · rw [← q]; exact hst u hu
theorem starts_up {r : Ru} {mx : Int} (hr : rightB r.size r.align) {ts : List Int} (h : ts.Pairwise (· ≤ ·)) (hb : ∀ t ∈ ts, 0 ≤ t ∧ t ≤ 1099511627776) : (startsL r mx ts).Pairwise (· ≤ ·) :=
  fold_up hr ts [] h hb List.Pairwise.nil (fun _ h => by cases h)
theorem starts_in {r : Ru} {mx : Int} (hr : rightB r.size r.align) {ts : List Int} (hb : ∀ t ∈ ts, 0 ≤ t ∧ t < 1099511627776) : ∀ b ∈ startsL r mx ts, 0 ≤ b ∧ b < 1099511627776 ∧ startB b r.size r.align = b := by
  intro b h
  obtain ⟨t, ht, e, _⟩ := mem_starts.1 h
  obtain ⟨h0, h1⟩ := hb t ht
  have h2 := startB_range hr h0 (show t ≤ 1099511627776 by omega)
  have h3 := startB_self hr h0 (show t ≤ 1099511627776 by omega)
  subst e
  exact ⟨h2.1, by omega, h3⟩
end Go.Proofs.YtmifpfojhlmbkaaGreat
