/-
  Contracts of sorted, And, Or, Less, Add, Del of package sets.
-/
import Derived.Test.YtjpighkbfldloaaEMake
namespace Go.Proofs.Ytjpighkbfldloaa
open Go.RowKit
set_option linter.unusedVariables false
set_option linter.unusedSimpArgs false

/-- A slice of the texts l is answered; what was there is as it was. -/
def SortP (w : World) (l : List Tx) (e : Ending) (w' : World) : Prop := ∃ a c, e = .returned (.slice a l.length c) ∧ TxAt w' a l.length c l ∧ Below w.heap.size w w'
theorem MadeP.from_ {w W w' : World} {l : List Tx} {e : Ending} (h : MadeP W l e w') (hb : Below w.heap.size w W) : MadeP w l e w' := by
  obtain ⟨v, rfl, h1, h2⟩ := h
  exact ⟨v, rfl, h1.mono hb.size, hb.trans (h2.mono hb.size)⟩
theorem TxAt.len {w : World} {a : Option Addr} {n c : Nat} {l : List Tx} (h : TxAt w a n c l) : TxAt w a l.length c l := by
  have := h.1
  subst this; exact h
set_option maxHeartbeats 800000 in
theorem sorted8_any (a : Option Addr) (n c : Nat) (l : List Tx) (w : World) (h : TxAt w a n c l) (hn : n ≤ 1048576) :
    Calls Try.prog 32 #[.slice a n c] w (SortP w (canon l)) := by
  have HR := Lib.hid (right8_any a n c l w h)
  have HO := Lib.hid (fun W (b : Below w.heap.size w W) => of_any a n c l W (h.keep b) hn)
  have HE := Lib.hid (show ∀ W, SS l → Drew w W → SortP w (canon l) (.returned (.slice a n c)) W from fun W hs hd => ⟨a, c, by rw [canon_self hs, h.1], by rw [canon_self hs]; exact (h.keep hd.bel).len, hd.bel⟩)
  have HM := Lib.hid (show ∀ W e w', Drew w W → MadeP W (canon l) e w' → SortP w (canon l) e w' from fun W e w' hd hm => (hm.from_ hd.bel).to)
  clear h
  by_cases hs : SS l
  · rw [decide_eq_true hs] at HR
    replace hs := Lib.hid hs
    go_enter Try.func32, Try.ntmps32
    go_wp2_with fail
    refine HR.out.mono ?_
    rintro e w' ⟨rfl, hd⟩
    go_wp2
    go_ret
    exact HE.out _ hs.out hd
  · rw [decide_eq_false hs] at HR
    clear hs HE
    go_enter Try.func32, Try.ntmps32
    go_wp2_with fail
    refine HR.out.mono ?_
    rintro e w' ⟨rfl, hd⟩
    go_wp2_with fail
    refine (HO.out _ hd.bel).mono ?_
    intro e W2 hm
    have HF := Lib.hid (HM.out _ _ _ hd hm)
    obtain ⟨v, rfl, h1, h2⟩ := hm
    clear h1 h2
    go_wp2
    go_ret
    exact HF.out

set_option maxHeartbeats 800000 in
theorem and8_any (a : Option Addr) (n c : Nat) (x : List Tx) (a2 : Option Addr) (n2 c2 : Nat) (y : List Tx) (w : World) (h : TxAt w a n c x) (h2 : TxAt w a2 n2 c2 y) (hl : n + n2 ≤ 1000000) :
    Calls Try.prog 18 #[.slice a n c, .slice a2 n2 c2] w (MadeP w (andL x y)) := by
  have h0 := h.1
  have h1 := canon_len x
  have h3 := h2.1
  have h4 := canon_len y
  have HS := Lib.hid (sorted8_any a n c x w h (by omega))
  have HS2 := Lib.hid (fun W (b : Below w.heap.size w W) => sorted8_any a2 n2 c2 y W (h2.keep b) (by omega))
  have HM := Lib.hid (show ∀ W a n c a2 n2 c2, TxAt W a n c (canon x) → TxAt W a2 n2 c2 (canon y) → Calls Try.prog 31 #[.slice a n c, .slice a2 n2 c2, .agg #[.bool false, .bool false, .bool true]] W (MadeP W (andL x y)) from fun W a n c a2 n2 c2 t1 t2 => by
    have e1 := t1.1
    have e2 := t2.1
    have := merge8_any false false true a n c (canon x) a2 n2 c2 (canon y) W t1 t2 (by omega)
    rwa [mrg_take] at this)
  clear h h2 h0 h1 h3 h4 hl
  generalize canon x = cx at *
  generalize canon y = cy at *
  generalize andL x y = r at *
  go_enter Try.func18, Try.ntmps18
  go_wp2_with fail
  refine HS.out.mono ?_
  rintro e W2 ⟨b1, d1, rfl, T1, B1⟩
  generalize cx.length = m1 at *
  go_wp2_with fail
  refine (HS2.out _ B1).mono ?_
  rintro e W3 ⟨b2, d2, rfl, T2, B2⟩
  generalize cy.length = m2 at *
  have HF := Lib.hid (HM.out _ _ _ _ _ _ _ (T1.keep B2) T2)
  have HB := Lib.hid (B1.trans (B2.mono B1.size))
  clear T1 T2 B1 B2
  go_wp2_with fail
  refine HF.out.mono ?_
  intro e W4 hm
  have HG := Lib.hid (hm.from_ HB.out)
  obtain ⟨v, rfl, h1, h2⟩ := hm
  clear h1 h2
  go_wp2
  go_ret
  exact HG.out

set_option maxHeartbeats 800000 in
theorem or8_any (a : Option Addr) (n c : Nat) (x : List Tx) (a2 : Option Addr) (n2 c2 : Nat) (y : List Tx) (w : World) (h : TxAt w a n c x) (h2 : TxAt w a2 n2 c2 y) (hl : n + n2 ≤ 1000000) :
    Calls Try.prog 21 #[.slice a n c, .slice a2 n2 c2] w (MadeP w (orL x y)) := by
  have h0 := h.1
  have h1 := canon_len x
  have h3 := h2.1
  have h4 := canon_len y
  have HS := Lib.hid (sorted8_any a n c x w h (by omega))
  have HS2 := Lib.hid (fun W (b : Below w.heap.size w W) => sorted8_any a2 n2 c2 y W (h2.keep b) (by omega))
  have HM := Lib.hid (show ∀ W a n c a2 n2 c2, TxAt W a n c (canon x) → TxAt W a2 n2 c2 (canon y) → Calls Try.prog 31 #[.slice a n c, .slice a2 n2 c2, .agg #[.bool true, .bool true, .bool true]] W (MadeP W (orL x y)) from fun W a n c a2 n2 c2 t1 t2 => by
    have e1 := t1.1
    have e2 := t2.1
    have := merge8_any true true true a n c (canon x) a2 n2 c2 (canon y) W t1 t2 (by omega)
    rwa [mrg_take] at this)
  clear h h2 h0 h1 h3 h4 hl
  generalize canon x = cx at *
  generalize canon y = cy at *
  generalize orL x y = r at *
  go_enter Try.func21, Try.ntmps21
  go_wp2_with fail
  refine HS.out.mono ?_
  rintro e W2 ⟨b1, d1, rfl, T1, B1⟩
  generalize cx.length = m1 at *
  go_wp2_with fail
  refine (HS2.out _ B1).mono ?_
  rintro e W3 ⟨b2, d2, rfl, T2, B2⟩
  generalize cy.length = m2 at *
  have HF := Lib.hid (HM.out _ _ _ _ _ _ _ (T1.keep B2) T2)
  have HB := Lib.hid (B1.trans (B2.mono B1.size))
  clear T1 T2 B1 B2
  go_wp2_with fail
  refine HF.out.mono ?_
  intro e W4 hm
  have HG := Lib.hid (hm.from_ HB.out)
  obtain ⟨v, rfl, h1, h2⟩ := hm
  clear h1 h2
  go_wp2
  go_ret
  exact HG.out

set_option maxHeartbeats 800000 in
theorem less8_any (a : Option Addr) (n c : Nat) (x : List Tx) (a2 : Option Addr) (n2 c2 : Nat) (y : List Tx) (w : World) (h : TxAt w a n c x) (h2 : TxAt w a2 n2 c2 y) (hl : n + n2 ≤ 1000000) :
    Calls Try.prog 20 #[.slice a n c, .slice a2 n2 c2] w (MadeP w (lessL x y)) := by
  have h0 := h.1
  have h1 := canon_len x
  have h3 := h2.1
  have h4 := canon_len y
  have HS := Lib.hid (sorted8_any a n c x w h (by omega))
  have HS2 := Lib.hid (fun W (b : Below w.heap.size w W) => sorted8_any a2 n2 c2 y W (h2.keep b) (by omega))
  have HM := Lib.hid (show ∀ W a n c a2 n2 c2, TxAt W a n c (canon x) → TxAt W a2 n2 c2 (canon y) → Calls Try.prog 31 #[.slice a n c, .slice a2 n2 c2, .agg #[.bool true, .bool false, .bool false]] W (MadeP W (lessL x y)) from fun W a n c a2 n2 c2 t1 t2 => by
    have e1 := t1.1
    have e2 := t2.1
    have := merge8_any true false false a n c (canon x) a2 n2 c2 (canon y) W t1 t2 (by omega)
    rwa [mrg_take] at this)
  clear h h2 h0 h1 h3 h4 hl
  generalize canon x = cx at *
  generalize canon y = cy at *
  generalize lessL x y = r at *
  go_enter Try.func20, Try.ntmps20
  go_wp2_with fail
  refine HS.out.mono ?_
  rintro e W2 ⟨b1, d1, rfl, T1, B1⟩
  generalize cx.length = m1 at *
  go_wp2_with fail
  refine (HS2.out _ B1).mono ?_
  rintro e W3 ⟨b2, d2, rfl, T2, B2⟩
  generalize cy.length = m2 at *
  have HF := Lib.hid (HM.out _ _ _ _ _ _ _ (T1.keep B2) T2)
  have HB := Lib.hid (B1.trans (B2.mono B1.size))
  clear T1 T2 B1 B2
  go_wp2_with fail
  refine HF.out.mono ?_
  intro e W4 hm
  have HG := Lib.hid (hm.from_ HB.out)
  obtain ⟨v, rfl, h1, h2⟩ := hm
  clear h1 h2
  go_wp2
  go_ret
  exact HG.out

set_option maxHeartbeats 800000 in
theorem add8_any (a : Option Addr) (n c : Nat) (x : List Tx) (p : Tx) (w : World) (h : TxAt w a n c x) (hl : n ≤ 900000) :
    Calls Try.prog 23 #[.slice a n c, .string (bs p)] w (MadeP w (orL x [p])) := by
  have B0 : Below w.heap.size w (w.alloc (.cells #[.string (bs p)] 9)) := (Below.refl _ _).alloc (Nat.le_refl _) _
  have HM := Lib.hid (or8_any a n c x _ 1 1 [p] (w.alloc (.cells #[.string (bs p)] 9)) (h.keep B0) (TxAt.one w p) (by omega))
  have HB := Lib.hid B0
  clear h B0
  generalize bs p = sp at *
  go_enter Try.func23, Try.ntmps23
  go_wp2_with fail
  refine HM.out.mono ?_
  intro e W4 hm
  have HG := Lib.hid (hm.from_ HB.out)
  obtain ⟨v, rfl, h1, h2⟩ := hm
  clear h1 h2
  go_wp2
  go_ret
  exact HG.out

set_option maxHeartbeats 800000 in
theorem del8_any (a : Option Addr) (n c : Nat) (x : List Tx) (p : Tx) (w : World) (h : TxAt w a n c x) (hl : n ≤ 900000) :
    Calls Try.prog 24 #[.slice a n c, .string (bs p)] w (MadeP w (lessL x [p])) := by
  have B0 : Below w.heap.size w (w.alloc (.cells #[.string (bs p)] 9)) := (Below.refl _ _).alloc (Nat.le_refl _) _
  have HM := Lib.hid (less8_any a n c x _ 1 1 [p] (w.alloc (.cells #[.string (bs p)] 9)) (h.keep B0) (TxAt.one w p) (by omega))
  have HB := Lib.hid B0
  clear h B0
  generalize bs p = sp at *
  go_enter Try.func24, Try.ntmps24
  go_wp2_with fail
  refine HM.out.mono ?_
  intro e W4 hm
  have HG := Lib.hid (hm.from_ HB.out)
  obtain ⟨v, rfl, h1, h2⟩ := hm
  clear h1 h2
  go_wp2
  go_ret
  exact HG.out

end Go.Proofs.Ytjpighkbfldloaa
