/-
  Contract of filter.All.
-/
import Derived.Test.YtifjbbiphekmmaaGreatDoorFParse
import Derived.Test.YtifjbbiphekmmaaGreatDoorFPick
namespace Go.Proofs.YtifjbbiphekmmaaGreatDoor
open Go.RowKit Go.Lib
set_option linter.unusedVariables false
set_option linter.unusedSimpArgs false

def parseAll : List Tx → Option (List Trm)
  | [] => some []
  | s :: l => match parseT s with
    | none => none
    | some t => match parseAll l with
      | none => none
      | some r => some (t :: r)
theorem parse_cons (s : Tx) (l : List Tx) : parseAll (s :: l) = match parseT s with
    | none => none
    | some t => match parseAll l with
      | none => none
      | some r => some (t :: r) := rfl
theorem parse_app : ∀ (l m : List Tx), parseAll (l ++ m) = match parseAll l with
    | none => none
    | some r => match parseAll m with
      | none => none
      | some r' => some (r ++ r')
  | [], m => by
    show parseAll m = match parseAll m with
      | none => none
      | some r' => some ([] ++ r')
    cases parseAll m <;> rfl
  | s :: l, m => by
    rw [List.cons_append, parse_cons, parse_cons, parse_app l m]
    cases parseT s with
    | none => rfl
    | some t =>
      cases parseAll l with
      | none => rfl
      | some r => cases parseAll m <;> rfl
theorem parse_take {l : List Tx} {j : Nat} {r : List Trm} {t : Trm} (h : j < l.length) (e : parseAll (l.take j) = some r) (k : parseT (l.getD j []) = some t) : parseAll (l.take (j + 1)) = some (r ++ [t]) := by
  have k1 : parseAll [l.getD j []] = some [t] := by rw [parse_cons, k]; rfl
  rw [List.take_succ_eq_append_getElem h, parse_app, e, ← getD_get h, k1]
theorem parse_stop {l : List Tx} {j : Nat} {r : List Trm} (h : j < l.length) (e : parseAll (l.take j) = some r) (k : parseT (l.getD j []) = none) : parseAll l = none := by
  have hs : l = l.take j ++ l.getD j [] :: l.drop (j + 1) := by rw [getD_get h, ← List.drop_eq_getElem_cons h, List.take_append_drop]
  rw [hs, parse_app, e, parse_cons, k]
/-- All terms, or none. -/
def readT (l : List Tx) : Option (List Trm) := if 16 < l.length then none else match parseAll l with
  | none => none
  | some ts => if ts.any pickT then some ts else none

theorem own_ne {w : World} {base k n : Nat} {T : TypeId} {v : Value} {xs : List Value} (h : w.ownsRow base T k v n xs) (hT : T ≠ 9) {cs : Array Value} {f : Nat × Nat} {b : Nat} (hb : w.heap[b]? = some (.cells cs 9 f)) : some b ≠ v.ownBlock := by
  rcases h.2 with ⟨rfl, e⟩ | ⟨g, cap, cur, rfl, hbg, hg, r⟩
  · intro e; cases e
  · intro e
    cases e
    rw [hb] at hg
    cases hg
    exact hT rfl
theorem TyA.gr {w w' : World} {o : Option Nat} {a : Option Addr} (h : TyA w a) (g : w.grownBy w' o) (hne : ∀ b cs f, w.heap[b]? = some (.cells cs 9 f) → some b ≠ o) : TyA w' a := fun ad e => by
  obtain ⟨cs, f, k⟩ := h ad e
  exact ⟨cs, f, (g.block _ (heap_lt k) (fun e => hne _ _ _ k e)).trans k⟩
theorem TxAt.gr {w w' : World} {o : Option Nat} {a : Option Addr} {n c : Nat} {l : List Tx} (t : TxAt w a n c l) (h : TyA w a) (g : w.grownBy w' o) (hne : ∀ b cs f, w.heap[b]? = some (.cells cs 9 f) → some b ≠ o) : TxAt w' a n c l := by
  obtain ⟨h1, h2, h3, h5⟩ := t
  refine ⟨h1, h2, h3, ?_⟩
  rcases h5 with h0 | ⟨b, off, rfl, hlt, hc⟩
  · exact .inl h0
  · obtain ⟨cs, f, k⟩ := h _ rfl
    refine .inr ⟨b, off, rfl, Nat.lt_of_lt_of_le hlt g.size, fun i hi => ?_⟩
    rw [← hc i hi]
    unfold World.cell?
    simp only [g.block _ hlt (fun e => hne _ _ _ k e)]
/-- Terms whose texts lie in blocks of texts. -/
def TyOk (w : World) (T : List TmT) : Prop := ∀ e ∈ T, TmOk w e ∧ TyA w e.a
theorem TyOk.keep {w w' : World} {T : List TmT} (h : TyOk w T) (hb : Below w.heap.size w w') : TyOk w' T := fun e he => ⟨(h e he).1.keep hb, (h e he).2.keep hb⟩
theorem TyOk.gr {w w' : World} {o : Option Nat} {T : List TmT} (h : TyOk w T) (g : w.grownBy w' o) (hne : ∀ b cs f, w.heap[b]? = some (.cells cs 9 f) → some b ≠ o) : TyOk w' T := fun e he => ⟨TxAt.gr (h e he).1 (h e he).2 g hne, (h e he).2.gr g hne⟩
theorem TyOk.snoc {w : World} {T : List TmT} {e : TmT} (h : TyOk w T) (h1 : TmOk w e) (h2 : TyA w e.a) : TyOk w (T ++ [e]) := fun x hx => by
  rcases List.mem_append.1 hx with hx | hx
  · exact h x hx
  · rw [List.mem_singleton] at hx; rw [hx]; exact ⟨h1, h2⟩

def AllS (l : List Tx) (ts : List Trm) (er : Int) : Prop := (readT l = some ts ∧ er = 0) ∨ (readT l = none ∧ ts = [] ∧ er = 4)
def AllP (w : World) (l : List Tx) (e : Ending) (w' : World) : Prop := ∃ a n c T er, e = .returned (.tuple #[.slice a n c, .int .i64 er]) ∧ TmAt w' a n c T ∧ TyOk w' T ∧ Below w.heap.size w w' ∧ AllS l (trms T) er
theorem trms_app (T : List TmT) (e : TmT) : trms (T ++ [e]) = trms T ++ [e.trm] := by unfold trms; simp

set_option maxRecDepth 100000 in
set_option maxHeartbeats 4000000 in
theorem all10_any (a : Option Addr) (n c : Nat) (l : List Tx) (w : World) (h : TxAt w a n c l) (hl : ∀ s ∈ l, s.length ≤ 100000) :
    Calls Tryz.prog 24 #[.slice a n c] w (AllP w l) := by
  have hlen : l.length = n := h.1
  have HL := Lib.hid hlen
  have HT := Lib.hid h
  have HSZ := Lib.hid hl
  have h63 := h.2.2.1
  clear h hl
  by_cases h16 : 16 < n
  · have hz : decide ((16 : Int) < (n : Int)) = true := decide_eq_true (by omega)
    have HN := Lib.hid (show readT l = none from if_pos (by omega))
    go_enter Tryz.func24, Tryz.ntmps24
    go_wp2
    go_ret2
    exact ⟨none, 0, 0, [], 4, rfl, TmAt.nil _ _ _, fun e he => by simp at he, Below.refl _ _, .inr ⟨HN.out, rfl, rfl⟩⟩
  · have hz : decide ((16 : Int) < (n : Int)) = false := decide_eq_false (by omega)
    have HRD := Lib.hid (show readT l = match parseAll l with
      | none => none
      | some ts => if ts.any pickT then some ts else none from if_neg (by omega))
    clear hlen
    go_enter Tryz.func24, Tryz.ntmps24
    go_wp2_with fail
    go_loopw [4, 14] (fun v i wr => ∃ (j : Nat) (T : List TmT), j ≤ n ∧ i = .int .i64 (j : Int) ∧ T.length = j ∧ Hid (FRow wr w.heap.size v T) ∧ Hid (TyOk wr T) ∧ Hid (parseAll (l.take j) = some (trms T)) ∧ Hid (Below w.heap.size w wr)) (fun _ i _ => n - (intOf i).toNat)
    case atStart => exact ⟨0, [], by omega, rfl, rfl, Lib.hid (FRow.nil _ _), Lib.hid (fun e he => by simp at he), Lib.hid rfl, Lib.hid (Below.refl _ _)⟩
    case round =>
      obtain ⟨j, T, hj, rfl, hTj, HO, HY, HP, HB⟩ := hrel
      have HTJ := Lib.hid hTj
      clear hTj
      by_cases hjn : j < n
      · obtain ⟨p, o, rfl, hp, y0⟩ := (HT.out.keep HB.out).at_ j hjn
        have HPR := Lib.hid (parse10_any (l.getD j []) wr (HSZ.out _ (getD_in (by rw [HL.out]; exact hjn))))
        have HK1 := Lib.hid (fun t => parse_take (l := l) (j := j) (r := trms T) (t := t) (by rw [HL.out]; exact hjn) HP.out)
        have HK2 := Lib.hid (parse_stop (l := l) (j := j) (r := trms T) (by rw [HL.out]; exact hjn) HP.out)
        generalize l.getD j [] = s at *
        have hlt : (j : Int) < (n : Int) := by omega
        go_wp2_with fail
        refine HPR.out.mono ?_
        rintro e w2 ⟨tm, er, rfl, t2, b2, ty2, ps⟩
        have HO2 := Lib.hid (HO.out.keep b2)
        have HY2 := Lib.hid (HY.out.keep b2)
        have HB2 := Lib.hid (HB.out.trans (b2.mono HB.out.size))
        have HT2 := Lib.hid t2
        have HTY2 := Lib.hid ty2
        clear HO HY HP HB t2 b2 ty2 HPR y0
        rcases ps with ⟨p1, rfl⟩ | ⟨p1, rfl, rfl⟩
        · have HP2 := Lib.hid (HK1.out _ p1)
          clear p1 HK1 HK2
          unfold tmV
          have hsz : (w2.alloc (Obj.cells #[.string (bs tm.name), .bool tm.neg, .slice tm.a tm.n tm.c] 24)).heap.size = w2.heap.size + 1 := by rw [World.alloc]; simp
          have HA1 := Lib.hid (show TmAt ((w2.alloc (Obj.cells #[.string (bs tm.name), .bool tm.neg, .slice tm.a tm.n tm.c] 24)).alloc (Obj.cells #[.string (bs tm.name), .bool tm.neg, .slice tm.a tm.n tm.c] 24)) (some ⟨w2.heap.size + 1, 0, none⟩) 1 1 [tm] by have := TmAt.oneFT (w2.alloc (Obj.cells #[.string (bs tm.name), .bool tm.neg, .slice tm.a tm.n tm.c] 24)) tm; rwa [hsz] at this)
          have BA := Lib.hid (((Below.refl w2.heap.size w2).alloc (Nat.le_refl _) (Obj.cells #[.string (bs tm.name), .bool tm.neg, .slice tm.a tm.n tm.c] 24)).alloc (by omega) (Obj.cells #[.string (bs tm.name), .bool tm.neg, .slice tm.a tm.n tm.c] 24))
          have HO3 := Lib.hid (HO2.out.keep BA.out)
          have HB3 := Lib.hid (HB2.out.trans (BA.out.mono HB2.out.size))
          have HY3 := Lib.hid ((HY2.out.snoc HT2.out HTY2.out).keep BA.out)
          have HNE := Lib.hid (fun (b : Nat) (cs : Array Value) (f : Nat × Nat) (h : ((w2.alloc (Obj.cells #[.string (bs tm.name), .bool tm.neg, .slice tm.a tm.n tm.c] 24)).alloc (Obj.cells #[.string (bs tm.name), .bool tm.neg, .slice tm.a tm.n tm.c] 24)).heap[b]? = some (Obj.cells cs 9 f)) => own_ne HO3.out (by decide) h)
          clear hsz BA HO2 HB2 HY2 HT2 HTY2
          go_wp2_with (at_builtin; refine wpList_append_ft rfl _ _ rfl w.heap.size _ T rfl HO3.out (some ⟨w2.heap.size + 1, 0, none⟩) 1 1 [tm] rfl HA1.out (by have := HTJ.out; omega) HB3.out.size ?_)
          intro v5 w5 o5 g5
          have HB5 := Lib.hid (FRow.bel HB3.out HB3.out.size HO3.out (Nat.le_refl _) g5)
          have HO5 := Lib.hid o5
          have HY5 := Lib.hid (HY3.out.gr g5 HNE.out)
          clear o5 g5 HO3 HB3 HY3 HNE HA1
          go_wp2
          go_roundw
          case rel => exact ⟨j + 1, T ++ [tm], by omega, by go_num, by rw [List.length_append, HTJ.out]; rfl, HO5, HY5, by rw [trms_app]; exact HP2, HB5⟩
          case measure => simp [intOf]; omega
        · have HP2 := Lib.hid (HK2.out p1)
          have HN := Lib.hid (show readT l = none by rw [HRD.out, HP2.out])
          clear p1 HK1 HK2
          unfold tmV zTm
          go_wp2
          go_ret2
          exact ⟨none, 0, 0, [], 4, rfl, TmAt.nil _ _ _, fun e he => by simp at he, HB2.out.trans (((Below.refl w2.heap.size w2).alloc (Nat.le_refl _) _).mono HB2.out.size), .inr ⟨HN.out, rfl, rfl⟩⟩
      · have HPL := Lib.hid (show parseAll l = some (trms T) by have := HP.out; rwa [List.take_of_length_le (by rw [HL.out]; omega)] at this)
        have HRT := Lib.hid (show readT l = if (trms T).any pickT then some (trms T) else none by rw [HRD.out, HPL.out])
        have hlt : ¬ (j : Int) < (n : Int) := by omega
        obtain ⟨a3, c3, rfl, t3⟩ := HO.out.shape
        have HC := Lib.hid (cont_any a3 T.length c3 T wr t3)
        rw [any_pick (fun e he => (HY.out e he).1)] at HC
        have T3 := Lib.hid t3
        clear t3 HO HPL HP HRD
        obtain ⟨m, hm⟩ : ∃ m, T.length = m := ⟨_, rfl⟩
        rw [hm] at T3 HC ⊢
        clear hm
        cases hb : (trms T).any pickT
        · rw [hb] at HC HRT
          clear hb
          go_wp2_with fail
          refine HC.out.mono ?_
          rintro e w4 ⟨rfl, b4⟩
          go_wp2
          go_ret2
          exact ⟨none, 0, 0, [], 4, rfl, TmAt.nil _ _ _, fun e he => by simp at he, HB.out.trans (b4.mono HB.out.size), .inr ⟨HRT.out, rfl, rfl⟩⟩
        · rw [hb] at HC HRT
          clear hb
          go_wp2_with fail
          refine HC.out.mono ?_
          rintro e w4 ⟨rfl, b4⟩
          go_wp2
          go_ret2
          exact ⟨a3, m, c3, T, 0, rfl, T3.out.keep b4, HY.out.keep b4, HB.out.trans (b4.mono HB.out.size), .inl ⟨HRT.out, rfl⟩⟩
end Go.Proofs.YtifjbbiphekmmaaGreatDoor
