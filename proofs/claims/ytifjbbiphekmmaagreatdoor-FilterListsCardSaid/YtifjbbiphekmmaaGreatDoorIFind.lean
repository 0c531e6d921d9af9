/-
  Contracts of the index's Keys, Find, With.
-/
import Derived.Test.YtifjbbiphekmmaaGreatDoorICopy
import Derived.Test.YtifjbbiphekmmaaGreatDoorIIter
import Derived.Test.YtifjbbiphekmmaaGreatDoorEOps
namespace Go.Proofs.YtifjbbiphekmmaaGreatDoor
open Go.RowKit Go.Shelf
set_option linter.unusedVariables false
set_option linter.unusedSimpArgs false

theorem MadeP.sort {w w' : World} {l : List Tx} {e : Ending} (h : MadeP w l e w') : SortP w l e w' := by
  obtain ⟨a, c, rfl, h3, h2⟩ := h.to
  exact ⟨a, c, rfl, h3, h2⟩
theorem SortP.pre {w w1 w' : World} {l : List Tx} {e : Ending} (hb : Below w.heap.size w w1) (h : SortP w1 l e w') : SortP w l e w' := by
  obtain ⟨a, c, e1, h1, h2⟩ := h
  exact ⟨a, c, e1, h1, hb.trans (h2.mono hb.size)⟩
theorem enters_keysA : ∀ args w, (callFunc 81 args).run Tryz.prog w = .ok (.enter 81 args) w := enters_of Tryz.func81 (by kernel_rfl) rfl
theorem enters_keysB : ∀ args w, (callFunc 146 args).run Tryz.prog w = .ok (.enter 146 args) w := enters_of Tryz.func146 (by kernel_rfl) rfl

set_option maxRecDepth 100000 in
set_option maxHeartbeats 2000000 in
theorem ikeys_ok (w : World) (x bl bn : Nat) (ρ : Rho) (E : List Ent) (h : IxAt w x bl bn ρ E) (hE : E.length ≤ 100000) :
    Calls Tryz.prog 30 #[.pointer (some ⟨x, 0, none⟩)] w (SortP w (keysL E)) := by
  obtain ⟨hc, rl, rn, ⟨T, t1, t2, t3⟩, hn, hok, hg⟩ := h
  have hss := hg.ss
  have hkp : (keysL (T.map mpV)).Perm (keysL E) := by
    rw [keysL_map mpV (fun _ => rfl), ← keysL_map mpL (fun _ => rfl)]
    exact t2.map Prod.fst
  have hTl : (T.map mpV).length = E.length := by have := t2.length_eq; simpa using this
  have B1 := (Below.refl w.heap.size w).alloc (Nat.le_refl _) (.cells #[mp bl] 93)
  have HS := Lib.hid (keysA_stops 2 (by omega) w.heap.size bl (T.map mpV) (w.alloc (.cells #[mp bl] 93)) (by simp) (by rw [cell_of (heap_new w _)]; rfl) (t1.keep B1))
  have HC := Lib.hid hc
  have HB := Lib.hid B1
  have HK := Lib.hid (fun (ss : List Tx) (hs : ss.Perm (keysL (T.map mpV))) => show canon ss = keysL E ∧ ss.length ≤ 100000 from ⟨canon_keys hss (hs.trans hkp), by rw [hs.length_eq]; unfold keysL; rw [List.length_map, hTl]; exact hE⟩)
  have c0 := hc.c0
  have hTL : (T.map mpV).length ≤ 1000000 := by omega
  clear t1 t2 t3 hn hok hg hc rl rn hkp B1 hss hTl
  generalize T.map mpV = L at *
  generalize keysL E = R at *
  go_enter Tryz.func30, Tryz.ntmps30
  go_wp2_with fail
  refine (isNone_no w x bl bn HC.out).mono ?_
  rintro e w' ⟨rfl, rfl⟩
  go_wp2_with fail
  refine (keysA_call _ _).mono ?_
  rintro e w1 ⟨rfl, rfl⟩
  go_wp2_with fail
  refine (collect_any _ _ enters_keysA _ _ _ HS.out hTL).mono ?_
  rintro e w2 ⟨a, c, ss, rfl, hs, t2, b2⟩
  obtain ⟨hk, hl⟩ := HK.out ss hs
  have HT := Lib.hid t2
  have B2 := Lib.hid (HB.out.trans (b2.mono HB.out.size))
  have HKK := Lib.hid hk
  clear hs t2 b2 hk HS HK HB
  generalize hq : ss.length = q at *
  go_wp2_with fail
  refine (of_any a q c ss w2 HT.out (by omega)).mono ?_
  intro e w3 hm
  have HM := Lib.hid (SortP.pre B2.out hm.sort)
  rw [HKK.out] at HM
  obtain ⟨a3, c3, rfl, t3, b3⟩ := HM.out
  have T3 := Lib.hid t3
  have B3 := Lib.hid b3
  clear hm HM t3 b3
  generalize hr : R.length = r at *
  have HR := Lib.hid hr
  clear hr
  go_wp2
  go_ret
  exact ⟨a3, c3, by rw [HR.out]; rfl, by rw [HR.out]; exact T3.out, B3.out⟩
theorem ikeys_nil (w : World) : Calls Tryz.prog 30 #[.pointer none] w fun e w' => e = .returned (.slice none 0 0) ∧ w = w' := by
  go_enter Tryz.func30, Tryz.ntmps30
  go_wp2_with fail
  refine (isNone_nil w).mono ?_
  rintro e w' ⟨rfl, rfl⟩
  go_wp2
  go_ret
  exact ⟨rfl, rfl⟩

/-- The keys of a label, whether there is a map of them or not. -/
theorem seq_find {w : World} {E : List Ent} {n v : Tx} {mb : Option Nat} (hg : GoodE E) (h : (mb = none ∧ ∀ k, ¬ SOf E n v k) ∨ ∃ d L, mb = some d ∧ MapAt w d L ∧ ∀ k, k ∈ keysL L ↔ SOf E n v k) :
    ∃ (S : List Tx → Prop) (N : Nat), SeqStopsK Fence.wide 2 Tryz.prog 146 #[.pointer (some ⟨w.heap.size, 0, none⟩)] (fun x : Tx => #[.string (bs x)]) KeepsWalks S (fun _ => True) N (w.alloc (.cells #[.map mb] 153)) ∧
      N ≤ E.length ∧ (∀ ss, S ss → ss.Nodup ∧ (∀ k, k ∈ ss ↔ SOf E n v k) ∧ ss.length ≤ E.length) := by
  have B1 := (Below.refl w.heap.size w).alloc (Nat.le_refl _) (.cells #[.map mb] 153)
  rcases h with ⟨rfl, h⟩ | ⟨d, L, rfl, hm, hk⟩
  · refine ⟨_, 0, keysB_nil 2 (by omega) w.heap.size _ (by simp) (by rw [cell_of (heap_new w _)]; rfl), Nat.zero_le _, fun ss hs => ?_⟩
    have : ss = [] := by simpa using hs.length_eq
    subst this
    exact ⟨List.nodup_nil, fun k => by simp [h k], Nat.zero_le _⟩
  · have hll : L.length ≤ E.length := by
      have := len_le_of (b := keysL E) hm.nodup (fun k hk' => ((hk k).1 hk').key)
      simpa [keysL] using this
    refine ⟨_, L.length, keysB_stops 2 (by omega) w.heap.size d L _ (by simp) (by rw [cell_of (heap_new w _)]; rfl) (hm.keep B1), hll, fun ss hs => ⟨hs.nodup_iff.2 hm.nodup, fun k => by rw [hs.mem_iff, hk], ?_⟩⟩
    rw [hs.length_eq]; simpa [keysL] using hll

set_option maxRecDepth 100000 in
set_option maxHeartbeats 2000000 in
theorem ifind_ok (w : World) (x bl bn : Nat) (ρ : Rho) (E : List Ent) (n v : Tx) (h : IxAt w x bl bn ρ E) (hE : E.length ≤ 100000) :
    Calls Tryz.prog 100 #[.pointer (some ⟨x, 0, none⟩), .string (bs n), .string (bs v)] w (SortP w (findE E n v)) := by
  obtain ⟨hc, rl, rn, hlab, ⟨V, L, h1, h2, h3, h4⟩, hok, hg⟩ := h
  have HC := Lib.hid hc
  have HG := Lib.hid hg
  have H1 := Lib.hid h1
  have c1 := hc.c1
  have hnil : ∀ W : World, (Instr.lookup 140 (.map none) (.string (bs v)) false).run Tryz.prog W = .ok (.map none) W := fun W => run_lookup_nil W Tryz.underlying140 Tryz.underlying9 (Tryz.zeroValue153 _) _
  have tail : ∀ (mb : Option Nat), ((mb = none ∧ ∀ k, ¬ SOf E n v k) ∨ ∃ d L, mb = some d ∧ MapAt w d L ∧ ∀ k, k ∈ keysL L ↔ SOf E n v k) →
      ∃ (S : List Tx → Prop) (N : Nat), Hid (SeqStopsK Fence.wide 2 Tryz.prog 146 #[.pointer (some ⟨w.heap.size, 0, none⟩)] (fun x : Tx => #[.string (bs x)]) KeepsWalks S (fun _ => True) N (w.alloc (.cells #[.map mb] 153))) ∧
      N ≤ 1000000 ∧ Hid (∀ ss, S ss → canon ss = findE E n v ∧ ss.length ≤ 100000) := fun mb hmb => by
    obtain ⟨S, N, a1, a2, a3⟩ := seq_find HG.out hmb
    exact ⟨S, N, Lib.hid a1, by omega, Lib.hid (fun ss hs => ⟨canon_find HG.out.ss (a3 ss hs).2.1, by have := (a3 ss hs).2.2; omega⟩)⟩
  cases hV : V n with
  | none =>
    have hl : (look L n).getD (.map none) = .map none := by rw [h2, hV]; rfl
    obtain ⟨S, N, HS, hN, HF⟩ := tail none (.inl ⟨rfl, fun k s => by obtain ⟨c, e⟩ := h4 n v k s; rw [hV] at e; cases e⟩)
    have HB := Lib.hid ((Below.refl w.heap.size w).alloc (Nat.le_refl _) (.cells #[.map none] 153))
    clear h1 h2 h3 h4 hok hg hc rl rn hlab tail hV
    generalize findE E n v = R at *
    go_enter Tryz.func100, Tryz.ntmps100
    go_wp2_with fail
    refine (isNone_no w x bl bn HC.out).mono ?_
    rintro e w' ⟨rfl, rfl⟩
    go_wp2_with (first
      | (at_lookup; refine wpList_lookup_m _ rfl _ _ 95 rfl 9 140 Tryz.underlying95 Tryz.underlying9 _ (Tryz.zeroValue140 _) bn L rfl H1.out n _ rfl rfl _ hl ?_; clear H1))
    refine (keysB_call _ _).mono ?_
    rintro e w1 ⟨rfl, rfl⟩
    go_wp2_with fail
    refine (collect_any _ _ enters_keysB _ _ _ HS.out hN).mono ?_
    rintro e w2 ⟨a, c, ss, rfl, hs, t2, b2⟩
    obtain ⟨hk, hl⟩ := HF.out ss hs
    have HT := Lib.hid t2
    have B2 := Lib.hid (HB.out.trans (b2.mono HB.out.size))
    have HKK := Lib.hid hk
    clear hs t2 b2 hk HS HF HB hnil
    generalize hq : ss.length = q at *
    go_wp2_with fail
    refine (of_any a q c ss w2 HT.out (by omega)).mono ?_
    intro e w3 hm
    have HM := Lib.hid (SortP.pre B2.out hm.sort)
    rw [HKK.out] at HM
    obtain ⟨a3, c3, rfl, t3, b3⟩ := HM.out
    have T3 := Lib.hid t3
    have B3 := Lib.hid b3
    clear hm HM t3 b3
    generalize hr : R.length = r at *
    have HR := Lib.hid hr
    clear hr
    go_wp2
    go_ret
    exact ⟨a3, c3, by rw [HR.out]; rfl, by rw [HR.out]; exact T3.out, B3.out⟩
  | some c =>
    obtain ⟨_, K, Lv, v1, v2, v3, v4⟩ := h3 n c hV
    have hl : (look L n).getD (.map none) = mp c := by rw [h2, hV]; rfl
    obtain ⟨mb, hmb, hl2⟩ : ∃ mb : Option Nat, ((mb = none ∧ ∀ k, ¬ SOf E n v k) ∨ ∃ d L, mb = some d ∧ MapAt w d L ∧ ∀ k, k ∈ keysL L ↔ SOf E n v k) ∧ (look Lv v).getD (.map none) = .map mb := by
      cases hK : K v with
      | none => exact ⟨none, .inl ⟨rfl, fun k s => by obtain ⟨d, e⟩ := v4 v k s; rw [hK] at e; cases e⟩, by rw [v2, hK]; rfl⟩
      | some d =>
        obtain ⟨_, Lk, k1, _, k3⟩ := v3 v d hK
        exact ⟨some d, .inr ⟨d, Lk, rfl, k1, k3⟩, by rw [v2, hK]; rfl⟩
    obtain ⟨S, N, HS, hN, HF⟩ := tail mb hmb
    have HB := Lib.hid ((Below.refl w.heap.size w).alloc (Nat.le_refl _) (.cells #[.map mb] 153))
    have V1 := Lib.hid v1
    clear h1 h2 h3 h4 hok hg hc rl rn hlab tail hV hmb v1 v2 v3 v4 hnil
    generalize findE E n v = R at *
    go_enter Tryz.func100, Tryz.ntmps100
    go_wp2_with fail
    refine (isNone_no w x bl bn HC.out).mono ?_
    rintro e w' ⟨rfl, rfl⟩
    go_wp2_with (first
      | (at_lookup; refine wpList_lookup_m _ rfl _ _ 95 rfl 9 140 Tryz.underlying95 Tryz.underlying9 _ (Tryz.zeroValue140 _) bn L rfl H1.out n _ rfl rfl _ hl ?_; clear H1)
      | (at_lookup; refine wpList_lookup_m _ rfl _ _ 140 rfl 9 153 Tryz.underlying140 Tryz.underlying9 _ (Tryz.zeroValue153 _) c Lv rfl V1.out v _ rfl rfl _ hl2 ?_))
    refine (keysB_call _ _).mono ?_
    rintro e w1 ⟨rfl, rfl⟩
    go_wp2_with fail
    refine (collect_any _ _ enters_keysB _ _ _ HS.out hN).mono ?_
    rintro e w2 ⟨a, c, ss, rfl, hs, t2, b2⟩
    obtain ⟨hk, hl⟩ := HF.out ss hs
    have HT := Lib.hid t2
    have B2 := Lib.hid (HB.out.trans (b2.mono HB.out.size))
    have HKK := Lib.hid hk
    clear hs t2 b2 hk HS HF HB
    generalize hq : ss.length = q at *
    go_wp2_with fail
    refine (of_any a q c ss w2 HT.out (by omega)).mono ?_
    intro e w3 hm
    have HM := Lib.hid (SortP.pre B2.out hm.sort)
    rw [HKK.out] at HM
    obtain ⟨a3, c3, rfl, t3, b3⟩ := HM.out
    have T3 := Lib.hid t3
    have B3 := Lib.hid b3
    clear hm HM t3 b3
    generalize hr : R.length = r at *
    have HR := Lib.hid hr
    clear hr
    go_wp2
    go_ret
    exact ⟨a3, c3, by rw [HR.out]; rfl, by rw [HR.out]; exact T3.out, B3.out⟩
theorem ifind_nil (w : World) (s u : ByteArray) : Calls Tryz.prog 100 #[.pointer none, .string s, .string u] w fun e w' => e = .returned (.slice none 0 0) ∧ w = w' := by
  go_enter Tryz.func100, Tryz.ntmps100
  go_wp2_with fail
  refine (isNone_nil w).mono ?_
  rintro e w' ⟨rfl, rfl⟩
  go_wp2
  go_ret
  exact ⟨rfl, rfl⟩

end Go.Proofs.YtifjbbiphekmmaaGreatDoor
