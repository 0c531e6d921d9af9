/-
  Contracts of the index's Size and Copy: ranges over its map of labels.
-/
import Derived.Test.YtpkbkemenfdadaaISet
import Derived.Laws.IdiomRangeMap
namespace Go.Proofs.Ytpkbkemenfdadaa
open Go.RowKit
set_option linter.unusedVariables false
set_option linter.unusedSimpArgs false

def lenV9 (v : Value) : Nat := match v with | .slice _ n _ => n | _ => 0
theorem sizeE_of {w : World} {E : List Ent} {T : List (Tx × (Value × List Lb))} (h2 : (T.map mpL).Perm E) (h3 : ∀ p ∈ T, LbV w p.2.1 p.2.2) : ((T.map mpV).map fun p => lenV9 p.2).sum = sizeE E := by
  rw [← size_perm h2]
  unfold sizeE
  rw [List.map_map, List.map_map]
  congr 1
  refine List.map_congr_left (fun p hp => ?_)
  obtain ⟨a, c, e, _⟩ := h3 p hp
  show lenV9 p.2.1 = p.2.2.length
  rw [e]; rfl

set_option maxRecDepth 100000 in
set_option maxHeartbeats 2000000 in
theorem isize_ok (w : World) (x bl bn : Nat) (ρ : Rho) (E : List Ent) (h : IxAt w x bl bn ρ E) (hE : E.length ≤ 100000) :
    Calls Try.prog 24 #[.pointer (some ⟨x, 0, none⟩)] w fun e w' => e = .returned (.int .i64 (sizeE E : Int)) ∧ Below w.heap.size w w' := by
  have hsz := size_le E h.good.right
  obtain ⟨hc, rl, rn, ⟨T, t1, t2, t3⟩, hn, hok, hg⟩ := h
  have HS := Lib.hid (sizeE_of t2 t3)
  have HV := Lib.hid (show ∀ p ∈ T.map mpV, ∃ a n c, p.2 = .slice a n c from fun p hp => by
    obtain ⟨q, hq, rfl⟩ := List.mem_map.1 hp
    obtain ⟨a, c, e, _⟩ := t3 q hq
    exact ⟨a, _, c, e⟩)
  have HC := Lib.hid hc
  have H1 := Lib.hid t1
  have c0 := hc.c0
  clear t1 t2 t3 hn hok hg hc rl rn
  generalize T.map mpV = L at *
  go_enter Try.func24, Try.ntmps24
  go_wp2_with fail
  refine (isNone_no w x bl bn HC.out).mono ?_
  rintro e w' ⟨rfl, rfl⟩
  go_wp2_with (first
    | (at_range; refine wpList_range_m _ rfl _ 60 rfl 9 32 Try.underlying60 bl L rfl H1.out ?_; intro w1 hr1 g1 hs1))
  go_frame
  have R1 := Lib.hid hr1
  have B1 := Lib.hid (gb_below_none g1)
  clear hr1 g1 hs1
  go_loopw [3] (fun vm wr => ∃ (m : Nat) (left : List (Tx × Value)), vm = .int .i64 (m : Int) ∧ m + (left.map fun p => lenV9 p.2).sum = sizeE E ∧ Hid (∀ p ∈ left, p ∈ L) ∧ Hid (RngAt wr bl w.heap.size L left) ∧ Hid (Below w.heap.size w wr)) (fun _ wr => wr.rangeLeft bl w.heap.size)
  case atStart => exact ⟨0, L, rfl, by rw [Nat.zero_add]; exact HS.out, Lib.hid (fun _ h => h), R1, B1⟩
  case round =>
    obtain ⟨m, left, rfl, hm, HM, HR, HB⟩ := hrel
    clear R1 B1
    go_wp2_with (first
      | (at_next; refine wpList_next_m _ rfl _ rfl bl w.heap.size L left rfl HR.out ?_ ?_)
      | go_in)
    · intro h0
      subst h0
      have e0 : m = sizeE E := by simpa using hm
      subst e0
      go_wp2
      go_ret
      exact ⟨rfl, HB.out⟩
    · intro k v left' w2 hp hr2 g2 hs2 hen
      obtain ⟨a, n, c, rfl⟩ : ∃ a n c, v = .slice a n c := HV.out (k, v) (HM.out _ (hp.mem_iff.2 (by simp)))
      have hsum : (left.map fun p => lenV9 p.2).sum = n + (left'.map fun p => lenV9 p.2).sum := by
        rw [(hp.map _).sum_nat]; simp [lenV9]
      have B2 := Lib.hid (bel_gb HB.out HB.out.size (Nat.le_refl _) g2)
      have HM2 : Hid (∀ p ∈ left', p ∈ L) := Lib.hid (fun p hp' => HM.out p (hp.mem_iff.2 (List.mem_cons_of_mem _ hp')))
      have hlt : left'.length < left.length := by rw [hp.length_eq]; simp
      have hml : m + n + (left'.map fun p => lenV9 p.2).sum = sizeE E := by omega
      have R2 := Lib.hid hr2
      have hmn : IntKind.i64.wrap ((m : Int) + (n : Int)) = ((m + n : Nat) : Int) := by rw [IntWalk.i64_in _ ⟨by omega, by omega⟩]; omega
      clear hp hr2 g2 hs2 hsum HM
      go_wp2
      go_roundw
      case rel => exact ⟨m + n, left', by first | rfl | go_num, hml, HM2, R2, B2⟩
      case measure => rw [R2.out.left_eq, HR.out.left_eq]; exact hlt
theorem isize_nil (w : World) : Calls Try.prog 24 #[.pointer none] w fun e w' => e = .returned (.int .i64 0) ∧ w = w' := by
  go_enter Try.func24, Try.ntmps24
  go_wp2_with fail
  refine (isNone_nil w).mono ?_
  rintro e w' ⟨rfl, rfl⟩
  go_wp2
  go_ret
  exact ⟨rfl, rfl⟩

/-! Copy. -/
theorem RngAt.iter {w : World} {b r : Nat} {L left : List (Tx × Value)} (h : RngAt w b r L left) : ∃ m s se c, w.heap[r]? = some (.mapIter m s se c) := by
  obtain ⟨es, clock, since, seen, c0, h1, h2, h3, h4, h5, _⟩ := h
  exact ⟨_, _, _, _, h5⟩
theorem Trn.walk {F : Nat → Prop} {w w' : World} {b : Nat} (g : w.grownBy w' (some b)) (hb : F b) (hm : ∃ m s se c, w.heap[b]? = some (.mapIter m s se c)) : Trn F w w' :=
  ⟨g.os, g.tape, g.output, g.size, fun i hi hf => g.block i hi (fun e => hf (by cases e; exact hb)), fun i c t f e => (g.block i (heap_lt e) (fun e' => by
    cases e'
    obtain ⟨m, s, se, cl, hm⟩ := hm
    rw [hm] at e; cases e)).trans e⟩
theorem RhoOk.no_iter {w : World} {ρ : Rho} (h : RhoOk w ρ) {r : Nat} (hr : ∃ m s se c, w.heap[r]? = some (.mapIter m s se c)) : ¬ FA ρ r := by
  intro f
  cases e : ρ r with
  | none => exact f e
  | some q =>
    obtain ⟨es, c, hm⟩ := h r q e
    obtain ⟨m, s, se, cl, hi⟩ := hr
    rw [hm] at hi; cases hi
/-- One of those that are left. -/
theorem left_step {Tl : List (Tx × (Value × List Lb))} {left left' : List (Tx × Value)} {k : Tx} {v : Value} (h : left.Perm (Tl.map mpV)) (hp : left.Perm ((k, v) :: left')) :
    ∃ l Tl', Tl.Perm ((k, v, l) :: Tl') ∧ left'.Perm (Tl'.map mpV) := by
  have hm : (k, v) ∈ Tl.map mpV := h.mem_iff.1 (hp.mem_iff.2 (by simp))
  obtain ⟨⟨k', v', l⟩, ht, e⟩ := List.mem_map.1 hm
  simp only [mpV, Prod.mk.injEq] at e
  obtain ⟨rfl, rfl⟩ := e
  obtain ⟨A, B, rfl⟩ := List.append_of_mem ht
  refine ⟨l, A ++ B, List.perm_middle, ?_⟩
  have h1 : ((k', v') :: left').Perm ((k', v') :: (A ++ B).map mpV) := hp.symm.trans (h.trans ((List.perm_middle).map mpV))
  exact h1.cons_inv

set_option maxRecDepth 100000 in
set_option maxHeartbeats 4000000 in
theorem icopy_ok (w : World) (x bl bn : Nat) (ρ : Rho) (E : List Ent) (h : IxAt w x bl bn ρ E) :
    Calls Try.prog 16 #[.pointer (some ⟨x, 0, none⟩)] w fun e w' => ∃ y b2 n2 ρ2, e = .returned (.pointer (some ⟨y, 0, none⟩)) ∧ IxAt w' y b2 n2 ρ2 E ∧ Below w.heap.size w w' ∧ ∀ i, FA ρ2 i → w.heap.size ≤ i := by
  obtain ⟨hc, rl, rn, ⟨T, t1, t2, t3⟩, hn, hok, hg⟩ := h
  have HG := Lib.hid hg
  have HC := Lib.hid hc
  have H1 := Lib.hid t1
  have H2 := Lib.hid t2
  have H3 := Lib.hid t3
  clear t1 t2 t3 hn hok hg hc rl rn
  go_enter Try.func16, Try.ntmps16
  go_wp2_with fail
  refine (isNone_no w x bl bn HC.out).mono ?_
  rintro e w' ⟨rfl, rfl⟩
  go_wp2_with fail
  refine (new_any w).mono ?_
  rintro e w1 ⟨y, b2, n2, ρ1, rfl, x1, bb1, f1⟩
  have X1 := Lib.hid x1
  have B1 := Lib.hid bb1
  have F1 := Lib.hid f1
  have c0 := (HC.out.trn (F := fun _ => False) (.of bb1)).c0
  have H1' := Lib.hid (H1.out.keep bb1)
  have hbl := H1.out.lt
  clear x1 bb1 f1 H1
  go_wp2_with (first
    | (at_range; refine wpList_range_m _ rfl _ 60 rfl 9 32 Try.underlying60 bl _ rfl H1'.out ?_; intro w2 hr2 g2 hs2))
  go_frame
  have R2 := Lib.hid hr2
  have bb2 := gb_below_none g2
  have B2 := Lib.hid (B1.out.trans (bb2.mono B1.out.size))
  have X2 := Lib.hid (X1.out.keep bb2)
  have hrs : w.heap.size ≤ w1.heap.size := B1.out.size
  clear hr2 g2 hs2 bb2 c0 X1 B1 H1'
  generalize w1.heap.size = r at *
  go_loopw [4] (fun _ wr => ∃ (ρ2 : Rho) (Eo : List Ent) (left : List (Tx × Value)) (Tl : List (Tx × (Value × List Lb))), Hid (IxAt wr y b2 n2 ρ2 Eo) ∧ Hid (∀ i, FA ρ2 i → w.heap.size ≤ i) ∧ Hid (left.Perm (Tl.map mpV)) ∧ Hid ((Eo ++ Tl.map mpL).Perm E) ∧ Hid (∀ p ∈ Tl, LbV w p.2.1 p.2.2) ∧ Hid (RngAt wr bl r (T.map mpV) left) ∧ Hid (Below w.heap.size w wr)) (fun _ wr => wr.rangeLeft bl r)
  case atStart => exact ⟨ρ1, [], T.map mpV, T, X2, F1, Lib.hid (List.Perm.refl _), H2, H3, R2, B2⟩
  case round =>
    obtain ⟨ρ2, Eo, left, Tl, X, F, HL, HE, HV, R, B⟩ := hrel
    clear X2 R2 B2 F1
    go_wp2_with (first
      | (at_next; refine wpList_next_m _ rfl _ rfl bl r (T.map mpV) left rfl R.out ?_ ?_)
      | go_in)
    · intro h0
      subst h0
      have e0 : Tl = [] := by have := HL.out.length_eq; simp at this; exact List.eq_nil_of_length_eq_zero this.symm
      subst e0
      have hEo : Eo = E := by
        have hp := HE.out
        simp only [List.map_nil, List.append_nil] at hp
        exact ssG_ext X.out.good.ss HG.out.ss (fun p => hp.mem_iff)
      subst hEo
      go_wp2
      go_ret
      exact ⟨y, b2, n2, ρ2, rfl, X.out, B.out, F.out⟩
    · intro k v left' w3 hp hr3 g3 hs3 hen
      obtain ⟨l, Tl', hT, hL'⟩ := left_step HL.out hp
      obtain ⟨a, c, rfl, hlb⟩ : ∃ a c, v = .slice a l.length c ∧ LbAt w a l.length c l := HV.out (k, v, l) (hT.mem_iff.2 (by simp))
      have hlb' : LbAt w a l.length c l := hlb
      have hno := X.out.ok.no_iter R.out.iter
      have t3 : Trn (fun i => i = r) wr w3 := .walk g3 rfl R.out.iter
      have X3 := Lib.hid (X.out.trn t3 (fun i _ f e => hno (e ▸ f)))
      have B3 := Lib.hid (bel_gb B.out B.out.size hrs g3)
      have HE' := HE.out
      have hperm : (Eo ++ (k, l) :: Tl'.map mpL).Perm E := (List.Perm.append_left Eo ((hT.map mpL).symm)).trans HE'
      have hnd : (keysL (Eo ++ (k, l) :: Tl'.map mpL)).Nodup := ((hperm.map Prod.fst).nodup_iff).2 (ssG_nodup HG.out.ss)
      have hk : k ∉ keysL Eo := fun hm => by
        simp only [keysL, List.map_append, List.map_cons] at hnd
        exact (List.nodup_append.1 hnd).2.2 k hm k (by simp) rfl
      have hin : (k, l) ∈ E := hperm.mem_iff.1 (by simp)
      have K1 := Lib.hid (show k ∉ keysL Eo ∧ keyB k ∧ rightL l ∧ SS (keysL l) ∧ LbAt w3 a l.length c l from ⟨hk, HG.out.key _ hin, HG.out.right _ hin, HG.out.srt _ hin, hlb'.trn (F := fun i => i = r) ((Trn.of B.out).trans t3 (fun _ _ e => e))⟩)
      have HE3 := Lib.hid (show (insG (k, l) Eo ++ Tl'.map mpL).Perm E from ((insG_perm (k, l) Eo).append_right _).trans (List.perm_middle.symm.trans hperm))
      have HL3 := Lib.hid hL'
      have HV3 : Hid (∀ p ∈ Tl', LbV w p.2.1 p.2.2) := Lib.hid (fun p hp' => HV.out p (hT.mem_iff.2 (List.mem_cons_of_mem _ hp')))
      have R3 := Lib.hid hr3
      have hlt : left'.length < left.length := by rw [hp.length_eq]; simp
      generalize l.length = n at *
      clear hT hL' hp hr3 g3 hs3 hlb hlb' hno t3 HE' hperm hnd hk hin X HL HE HV B
      go_wp2_with fail
      refine (iput_ok w3 y b2 n2 ρ2 Eo k a n c l X3.out K1.out.1 K1.out.2.1 K1.out.2.2.1 K1.out.2.2.2.1 K1.out.2.2.2.2).mono ?_
      rintro e w4 ⟨rfl, ρ4, t4⟩
      have X4 := Lib.hid t4.ix
      have hf3 : ∀ i, i < w.heap.size → ¬ FA ρ2 i := fun i hi f => by have := F.out i f; omega
      have B4 := Lib.hid (Trn.below B3.out B3.out.size t4.trn hf3)
      have hno3 := X3.out.ok.no_iter R3.out.iter
      have R4 := Lib.hid (R3.out.same (t4.trn.block bl R3.out.map.lt (hf3 bl hbl)) (t4.trn.block r R3.out.lt hno3))
      have F4 : Hid (∀ i, FA ρ4 i → w.heap.size ≤ i) := Lib.hid (fun i f => by
        by_cases hi : i < w3.heap.size
        · refine F.out i ?_
          unfold FA at *
          rw [t4.ext i hi] at f; exact f
        · have := B3.out.size; omega)
      clear t4 X3 B3 hf3 hno3 R3 F K1
      go_wp2
      go_roundw
      case rel => exact ⟨ρ4, insG (k, l) Eo, left', Tl', X4, F4, HL3, HE3, HV3, R4, B4⟩
      case measure => rw [R4.out.left_eq, R.out.left_eq]; exact hlt
theorem icopy_nil (w : World) : Calls Try.prog 16 #[.pointer none] w fun e w' => e = .returned (.pointer none) ∧ w = w' := by
  go_enter Try.func16, Try.ntmps16
  go_wp2_with fail
  refine (isNone_nil w).mono ?_
  rintro e w' ⟨rfl, rfl⟩
  go_wp2
  go_ret
  exact ⟨rfl, rfl⟩

end Go.Proofs.Ytpkbkemenfdadaa
