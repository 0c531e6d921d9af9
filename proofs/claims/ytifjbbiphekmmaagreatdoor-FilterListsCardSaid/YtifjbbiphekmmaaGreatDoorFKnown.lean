/-
  Contract of law10's known.
-/
import Derived.Test.YtifjbbiphekmmaaGreatDoorFFind
import Derived.Test.YtifjbbiphekmmaaGreatDoorFShow
import Derived.Test.YtifjbbiphekmmaaGreatDoorFAll
import Derived.Test.YtifjbbiphekmmaaGreatDoorFSame
import Derived.Test.YtifjbbiphekmmaaGreatDoorFLight
import Derived.Test.YtifjbbiphekmmaaGreatDoorFRefW
import Derived.Test.YtifjbbiphekmmaaGreatDoorIOwn
import Derived.Test.YtifjbbiphekmmaaGreatDoorFMeet
import Derived.Test.YtifjbbiphekmmaaGreatDoorEHas
namespace Go.Proofs.YtifjbbiphekmmaaGreatDoor
open Go.RowKit
set_option linter.unusedVariables false
set_option linter.unusedSimpArgs false

theorem par_is {s : Tx} {nm : Tx} {ng : Bool} {l : List Tx} {tm : TmT} {er : Int} {w : World} (h : parseT s = some (nm, ng, l)) (ht : TmOk w tm) (ps : ParS s tm er) : ∃ a c, tm = ⟨nm, ng, a, l.length, c, l⟩ ∧ er = 0 := by
  rcases ps with ⟨h1, h2⟩ | ⟨h1, _⟩
  · obtain ⟨nm', ng', a, n, c, l'⟩ := tm
    have hn : l'.length = n := ht.1
    rw [h] at h1
    have h1 := Option.some.inj h1
    unfold TmT.trm at h1
    simp only [Prod.mk.injEq] at h1
    obtain ⟨rfl, rfl, rfl⟩ := h1
    subst hn
    exact ⟨a, c, rfl, h2⟩
  · rw [h] at h1; cases h1
theorem par_isno {s : Tx} {tm : TmT} {er : Int} (h : parseT s = none) (ps : ParS s tm er) : tm = zTm ∧ er = 4 := by
  rcases ps with ⟨h1, h2⟩ | ⟨_, h1⟩
  · rw [h] at h1; cases h1
  · exact h1
theorem all_is {l : List Tx} {ts ts' : List Trm} {er : Int} (h : readT l = some ts) (ps : AllS l ts' er) : ts' = ts ∧ er = 0 := by
  rcases ps with ⟨h1, h2⟩ | ⟨h1, _⟩
  · rw [h] at h1; exact ⟨(Option.some.inj h1).symm, h2⟩
  · rw [h] at h1; cases h1
theorem all_isno {l : List Tx} {ts' : List Trm} {er : Int} (h : readT l = none) (ps : AllS l ts' er) : ts' = [] ∧ er = 4 := by
  rcases ps with ⟨h1, h2⟩ | ⟨_, h1⟩
  · rw [h] at h1; cases h1
  · exact h1
theorem tms_few {w : World} {a : Option Addr} {n c : Nat} {T : List TmT} (h : TmsAt w a n c T) (k : ∀ t ∈ trms T, t.2.2.length ≤ 1000) : ∀ e ∈ T, e.n ≤ 1000 := fun e he => by
  have h1 : e.l.length = e.n := (h.2 e he).1
  have h2 := k e.trm (List.mem_map.2 ⟨e, he, rfl⟩)
  rw [← h1]; exact h2

set_option maxRecDepth 100000 in
set_option maxHeartbeats 16000000 in
theorem known10_any (w : World) :
    Calls Tryz.prog 10 #[] w fun e w' => e = .returned (.bool true) ∧ Below w.heap.size w w' := by
  go_enter Tryz.func10, Tryz.ntmps10
  have B := Lib.hid (Below.refl w.heap.size w)
  have SZ := Lib.hid (Nat.le_refl w.heap.size)
  go_wp2_with fail
  refine (new_any _).mono ?_
  rintro e W1 ⟨x, bl, bn, ρ0, rfl, xx, br, fx⟩
  replace B := Lib.hid (B.out.trans (br.mono B.out.size))
  have X := Lib.hid xx
  have FX := Lib.hid (show ∀ i, FA ρ0 i → w.heap.size ≤ i from fun i hi => Nat.le_trans (by have := B.out.size; first | omega | exact Nat.le_refl _) (fx i hi))
  clear xx br fx
  replace SZ := Lib.hid B.out.size
  go_wp2_with fail
  have Tla : Hid (LbAt (W1.alloc (.cells #[.string ⟨#[114, 111, 111, 109]⟩, .string ⟨#[49]⟩] 69)) (some ⟨W1.heap.size, 0, none⟩) 1 1 [([114, 111, 111, 109], [49])]) := Lib.hid (lb_lit (l := [([114, 111, 111, 109], [49])]) (heap_new W1 _) (by decide))
  have br := (Below.refl W1.heap.size W1).alloc (Nat.le_refl _) (.cells #[.string ⟨#[114, 111, 111, 109]⟩, .string ⟨#[49]⟩] 69)
  replace B := Lib.hid (B.out.trans (br.mono B.out.size))
  replace X := Lib.hid (X.out.keep br)
  replace SZ := Lib.hid B.out.size
  clear br
  generalize W1.alloc (.cells #[.string ⟨#[114, 111, 111, 109]⟩, .string ⟨#[49]⟩] 69) = W2 at *
  generalize W1.heap.size = b_la at *
  have C := iset_ok W2 x bl bn ρ0 (([] : List Ent)) [97] (some ⟨b_la, 0, none⟩) 1 1 ([([114, 111, 111, 109], [49])]) X.out Tla.out
  rw [if_pos (show okE [97] ([([114, 111, 111, 109], [49])]) from by decide), show stepE [97] ([([114, 111, 111, 109], [49])]) (([] : List Ent)) = ([([97], [([114, 111, 111, 109], [49])])] : List Ent) from by decide] at C
  have HC := Lib.hid C
  clear C
  refine (HC.out).mono ?_
  rintro e W3 ⟨rfl, ρ1, tt⟩
  replace X := Lib.hid tt.ix
  replace B := Lib.hid (Trn.below B.out B.out.size tt.trn (fun i hi f => by have := FX.out i f; omega))
  replace Tla := Lib.hid (Tla.out.trn tt.trn)
  replace FX := Lib.hid (fa_turn (B := w.heap.size) FX.out tt SZ.out)
  replace SZ := Lib.hid B.out.size
  clear tt
  clear HC
  clear Tla
  go_wp2_with fail
  have Tlb : Hid (LbAt (W3.alloc (.cells #[.string ⟨#[114, 111, 111, 109]⟩, .string ⟨#[50]⟩, .string ⟨#[107, 105, 110, 100]⟩, .string ⟨#[116]⟩] 69)) (some ⟨W3.heap.size, 0, none⟩) 2 2 [([114, 111, 111, 109], [50]), ([107, 105, 110, 100], [116])]) := Lib.hid (lb_lit (l := [([114, 111, 111, 109], [50]), ([107, 105, 110, 100], [116])]) (heap_new W3 _) (by decide))
  have br := (Below.refl W3.heap.size W3).alloc (Nat.le_refl _) (.cells #[.string ⟨#[114, 111, 111, 109]⟩, .string ⟨#[50]⟩, .string ⟨#[107, 105, 110, 100]⟩, .string ⟨#[116]⟩] 69)
  replace B := Lib.hid (B.out.trans (br.mono B.out.size))
  replace X := Lib.hid (X.out.keep br)
  replace SZ := Lib.hid B.out.size
  clear br
  generalize W3.alloc (.cells #[.string ⟨#[114, 111, 111, 109]⟩, .string ⟨#[50]⟩, .string ⟨#[107, 105, 110, 100]⟩, .string ⟨#[116]⟩] 69) = W4 at *
  generalize W3.heap.size = b_lb at *
  have C := iset_ok W4 x bl bn ρ1 (([([97], [([114, 111, 111, 109], [49])])] : List Ent)) [98] (some ⟨b_lb, 0, none⟩) 2 2 ([([114, 111, 111, 109], [50]), ([107, 105, 110, 100], [116])]) X.out Tlb.out
  rw [if_pos (show okE [98] ([([114, 111, 111, 109], [50]), ([107, 105, 110, 100], [116])]) from by decide), show stepE [98] ([([114, 111, 111, 109], [50]), ([107, 105, 110, 100], [116])]) (([([97], [([114, 111, 111, 109], [49])])] : List Ent)) = ([([97], [([114, 111, 111, 109], [49])]), ([98], [([107, 105, 110, 100], [116]), ([114, 111, 111, 109], [50])])] : List Ent) from by decide] at C
  have HC := Lib.hid C
  clear C
  refine (HC.out).mono ?_
  rintro e W5 ⟨rfl, ρ2, tt⟩
  replace X := Lib.hid tt.ix
  replace B := Lib.hid (Trn.below B.out B.out.size tt.trn (fun i hi f => by have := FX.out i f; omega))
  replace Tlb := Lib.hid (Tlb.out.trn tt.trn)
  replace FX := Lib.hid (fa_turn (B := w.heap.size) FX.out tt SZ.out)
  replace SZ := Lib.hid B.out.size
  clear tt
  clear HC
  clear Tlb
  go_wp2_with fail
  have Tln : Hid (LbAt W5 none 0 0 []) := Lib.hid (LbAt.nil _ _ _)
  have C := iset_ok W5 x bl bn ρ2 (([([97], [([114, 111, 111, 109], [49])]), ([98], [([107, 105, 110, 100], [116]), ([114, 111, 111, 109], [50])])] : List Ent)) [99] none 0 0 ([]) X.out Tln.out
  rw [if_pos (show okE [99] ([]) from by decide), show stepE [99] ([]) (([([97], [([114, 111, 111, 109], [49])]), ([98], [([107, 105, 110, 100], [116]), ([114, 111, 111, 109], [50])])] : List Ent)) = ([([97], [([114, 111, 111, 109], [49])]), ([98], [([107, 105, 110, 100], [116]), ([114, 111, 111, 109], [50])]), ([99], [])] : List Ent) from by decide] at C
  have HC := Lib.hid C
  clear C
  refine (HC.out).mono ?_
  rintro e W6 ⟨rfl, ρ3, tt⟩
  replace X := Lib.hid tt.ix
  replace B := Lib.hid (Trn.below B.out B.out.size tt.trn (fun i hi f => by have := FX.out i f; omega))
  replace Tln := Lib.hid (Tln.out.trn tt.trn)
  replace FX := Lib.hid (fa_turn (B := w.heap.size) FX.out tt SZ.out)
  replace SZ := Lib.hid B.out.size
  clear tt
  clear HC
  clear Tln
  have Tix : Hid (IxV W6 (.pointer (some ⟨x, 0, none⟩)) (([([97], [([114, 111, 111, 109], [49])]), ([98], [([107, 105, 110, 100], [116]), ([114, 111, 111, 109], [50])]), ([99], [])] : List Ent))) := Lib.hid (.inr ⟨x, bl, bn, ρ3, rfl, X.out⟩)
  clear X FX
  go_wp2_with fail
  refine (parse10_any [114, 111, 111, 109, 61, 40, 49, 44, 50, 41] W6 (by decide)).mono ?_
  rintro e W7 ⟨tm_t, er_t, rfl, Tt, br, _, ps⟩
  replace Tt := Lib.hid Tt
  replace B := Lib.hid (B.out.trans (br.mono B.out.size))
  replace Tix := Lib.hid (Tix.out.keep br)
  replace SZ := Lib.hid B.out.size
  clear br
  obtain ⟨a_t, c_t, rfl, rfl⟩ := par_is (show parseT [114, 111, 111, 109, 61, 40, 49, 44, 50, 41] = some ([114, 111, 111, 109], false, [[49], [50]]) from by decide) Tt.out ps
  clear ps
  rw [show ([[49], [50]] : List Tx).length = 2 from rfl] at Tt ⊢
  unfold tmV
  simp only
  go_wp2_with fail
  have Tbt : Hid (BoxT 24 (W7.alloc (.cells #[.string (bs [114, 111, 111, 109]), .bool false, .slice a_t 2 c_t] 24)) W7.heap.size ⟨[114, 111, 111, 109], false, a_t, 2, c_t, [[49], [50]]⟩) := Lib.hid (heap_new W7 _)
  have br := (Below.refl W7.heap.size W7).alloc (Nat.le_refl _) (.cells #[.string (bs [114, 111, 111, 109]), .bool false, .slice a_t 2 c_t] 24)
  replace B := Lib.hid (B.out.trans (br.mono B.out.size))
  replace Tix := Lib.hid (Tix.out.keep br)
  replace Tt := Lib.hid (Tt.out.keep br)
  replace SZ := Lib.hid B.out.size
  clear br
  generalize W7.alloc (.cells #[.string (bs [114, 111, 111, 109]), .bool false, .slice a_t 2 c_t] 24) = W8 at *
  generalize W7.heap.size = b_bt at *
  refine (parse10_any [107, 105, 110, 100, 33, 61] W8 (by decide)).mono ?_
  rintro e W9 ⟨tm_u, er_u, rfl, Tu, br, _, ps⟩
  replace Tu := Lib.hid Tu
  replace B := Lib.hid (B.out.trans (br.mono B.out.size))
  replace Tix := Lib.hid (Tix.out.keep br)
  replace Tt := Lib.hid (Tt.out.keep br)
  replace Tbt := Lib.hid (Tbt.out.keep br)
  replace SZ := Lib.hid B.out.size
  clear br
  obtain ⟨a_u, c_u, rfl, rfl⟩ := par_is (show parseT [107, 105, 110, 100, 33, 61] = some ([107, 105, 110, 100], true, []) from by decide) Tu.out ps
  clear ps
  rw [show ([] : List Tx).length = 0 from rfl] at Tu ⊢
  unfold tmV
  simp only
  go_wp2_with fail
  have Tbu : Hid (BoxT 24 (W9.alloc (.cells #[.string (bs [107, 105, 110, 100]), .bool true, .slice a_u 0 c_u] 24)) W9.heap.size ⟨[107, 105, 110, 100], true, a_u, 0, c_u, []⟩) := Lib.hid (heap_new W9 _)
  have br := (Below.refl W9.heap.size W9).alloc (Nat.le_refl _) (.cells #[.string (bs [107, 105, 110, 100]), .bool true, .slice a_u 0 c_u] 24)
  replace B := Lib.hid (B.out.trans (br.mono B.out.size))
  replace Tix := Lib.hid (Tix.out.keep br)
  replace Tt := Lib.hid (Tt.out.keep br)
  replace Tbt := Lib.hid (Tbt.out.keep br)
  replace Tu := Lib.hid (Tu.out.keep br)
  replace SZ := Lib.hid B.out.size
  clear br
  generalize W9.alloc (.cells #[.string (bs [107, 105, 110, 100]), .bool true, .slice a_u 0 c_u] 24) = W10 at *
  generalize W9.heap.size = b_bu at *
  refine (parse10_any [114, 111, 111, 109] W10 (by decide)).mono ?_
  rintro e W11 ⟨tm_z, er_z, rfl, Tz, br, _, ps⟩
  replace Tz := Lib.hid Tz
  replace B := Lib.hid (B.out.trans (br.mono B.out.size))
  replace Tix := Lib.hid (Tix.out.keep br)
  replace Tt := Lib.hid (Tt.out.keep br)
  replace Tbt := Lib.hid (Tbt.out.keep br)
  replace Tu := Lib.hid (Tu.out.keep br)
  replace Tbu := Lib.hid (Tbu.out.keep br)
  replace SZ := Lib.hid B.out.size
  clear br
  obtain ⟨rfl, rfl⟩ := par_isno (show parseT [114, 111, 111, 109] = none from by decide) ps
  clear ps
  unfold tmV zTm
  simp only
  clear Tz
  go_wp2_with fail
  have hs_z : (W11.alloc (Obj.cells #[.string (bs []), .bool false, .slice none 0 0] 24)).heap.size = W11.heap.size + 1 := by rw [World.alloc]; simp
  have br := (Below.refl W11.heap.size W11).alloc (Nat.le_refl _) (Obj.cells #[.string (bs []), .bool false, .slice none 0 0] 24)
  replace B := Lib.hid (B.out.trans (br.mono B.out.size))
  replace Tix := Lib.hid (Tix.out.keep br)
  replace Tt := Lib.hid (Tt.out.keep br)
  replace Tbt := Lib.hid (Tbt.out.keep br)
  replace Tu := Lib.hid (Tu.out.keep br)
  replace Tbu := Lib.hid (Tbu.out.keep br)
  replace SZ := Lib.hid B.out.size
  clear br
  generalize W11.alloc (Obj.cells #[.string (bs []), .bool false, .slice none 0 0] 24) = W12 at *
  generalize W11.heap.size = b_z at *
  rw [← hs_z]
  clear hs_z
  have Ts1 : Hid (TxAt (W12.alloc (.cells #[.string ⟨#[114, 111, 111, 109, 61, 40, 49, 44, 50, 41]⟩, .string ⟨#[107, 105, 110, 100, 61]⟩] 9)) (some ⟨W12.heap.size, 0, none⟩) 2 2 [[114, 111, 111, 109, 61, 40, 49, 44, 50, 41], [107, 105, 110, 100, 61]]) := Lib.hid (tx_lit (l := [[114, 111, 111, 109, 61, 40, 49, 44, 50, 41], [107, 105, 110, 100, 61]]) (heap_new W12 _))
  have br := (Below.refl W12.heap.size W12).alloc (Nat.le_refl _) (.cells #[.string ⟨#[114, 111, 111, 109, 61, 40, 49, 44, 50, 41]⟩, .string ⟨#[107, 105, 110, 100, 61]⟩] 9)
  replace B := Lib.hid (B.out.trans (br.mono B.out.size))
  replace Tix := Lib.hid (Tix.out.keep br)
  replace Tt := Lib.hid (Tt.out.keep br)
  replace Tbt := Lib.hid (Tbt.out.keep br)
  replace Tu := Lib.hid (Tu.out.keep br)
  replace Tbu := Lib.hid (Tbu.out.keep br)
  replace SZ := Lib.hid B.out.size
  clear br
  generalize W12.alloc (.cells #[.string ⟨#[114, 111, 111, 109, 61, 40, 49, 44, 50, 41]⟩, .string ⟨#[107, 105, 110, 100, 61]⟩] 9) = W13 at *
  generalize W12.heap.size = b_s1 at *
  refine (all10_any (some ⟨b_s1, 0, none⟩) 2 2 ([[114, 111, 111, 109, 61, 40, 49, 44, 50, 41], [107, 105, 110, 100, 61]]) W13 Ts1.out (by decide)).mono ?_
  rintro e W14 ⟨a_l, n_l, c_l, L_l, er_l, rfl, Tl, Tlo, br, ps⟩
  replace Tl := Lib.hid (show TmsAt W14 a_l n_l c_l L_l from ⟨Tl, fun e he => (Tlo e he).1⟩)
  clear Tlo
  replace B := Lib.hid (B.out.trans (br.mono B.out.size))
  replace Tix := Lib.hid (Tix.out.keep br)
  replace Tt := Lib.hid (Tt.out.keep br)
  replace Tbt := Lib.hid (Tbt.out.keep br)
  replace Tu := Lib.hid (Tu.out.keep br)
  replace Tbu := Lib.hid (Tbu.out.keep br)
  replace Ts1 := Lib.hid (Ts1.out.keep br)
  replace SZ := Lib.hid B.out.size
  clear br
  obtain ⟨hl_l, rfl⟩ := all_is (show readT ([[114, 111, 111, 109, 61, 40, 49, 44, 50, 41], [107, 105, 110, 100, 61]]) = some [([114, 111, 111, 109], false, [[49], [50]]), ([107, 105, 110, 100], false, [])] from by decide) ps
  clear ps
  have HL_l := Lib.hid hl_l
  clear hl_l
  obtain rfl : n_l = 2 := by have h1 := Tl.out.1.1; have h2 := congrArg List.length HL_l.out; rw [trms_len] at h2; rw [← h1, h2]; rfl
  clear Ts1
  go_wp2_with fail
  have Ts2 : Hid (TxAt (W14.alloc (.cells #[.string ⟨#[107, 105, 110, 100, 61]⟩] 9)) (some ⟨W14.heap.size, 0, none⟩) 1 1 [[107, 105, 110, 100, 61]]) := Lib.hid (tx_lit (l := [[107, 105, 110, 100, 61]]) (heap_new W14 _))
  have br := (Below.refl W14.heap.size W14).alloc (Nat.le_refl _) (.cells #[.string ⟨#[107, 105, 110, 100, 61]⟩] 9)
  replace B := Lib.hid (B.out.trans (br.mono B.out.size))
  replace Tix := Lib.hid (Tix.out.keep br)
  replace Tt := Lib.hid (Tt.out.keep br)
  replace Tbt := Lib.hid (Tbt.out.keep br)
  replace Tu := Lib.hid (Tu.out.keep br)
  replace Tbu := Lib.hid (Tbu.out.keep br)
  replace Tl := Lib.hid (Tl.out.keep br)
  replace SZ := Lib.hid B.out.size
  clear br
  generalize W14.alloc (.cells #[.string ⟨#[107, 105, 110, 100, 61]⟩] 9) = W15 at *
  generalize W14.heap.size = b_s2 at *
  refine (all10_any (some ⟨b_s2, 0, none⟩) 1 1 ([[107, 105, 110, 100, 61]]) W15 Ts2.out (by decide)).mono ?_
  rintro e W16 ⟨a_k, n_k, c_k, L_k, er_k, rfl, Tk, Tko, br, ps⟩
  replace Tk := Lib.hid (show TmsAt W16 a_k n_k c_k L_k from ⟨Tk, fun e he => (Tko e he).1⟩)
  clear Tko
  replace B := Lib.hid (B.out.trans (br.mono B.out.size))
  replace Tix := Lib.hid (Tix.out.keep br)
  replace Tt := Lib.hid (Tt.out.keep br)
  replace Tbt := Lib.hid (Tbt.out.keep br)
  replace Tu := Lib.hid (Tu.out.keep br)
  replace Tbu := Lib.hid (Tbu.out.keep br)
  replace Tl := Lib.hid (Tl.out.keep br)
  replace Ts2 := Lib.hid (Ts2.out.keep br)
  replace SZ := Lib.hid B.out.size
  clear br
  obtain ⟨hl_k, rfl⟩ := all_isno (show readT ([[107, 105, 110, 100, 61]]) = none from by decide) ps
  clear ps hl_k
  clear Ts2
  clear Tk
  have y0_bt := Tbt.out.x0
  have y1_bt := Tbt.out.x1
  have y2_bt := Tbt.out.x2
  simp only at y0_bt y1_bt y2_bt
  have y0_bu := Tbu.out.x0
  have y1_bu := Tbu.out.x1
  have y2_bu := Tbu.out.x2
  simp only at y0_bu y1_bu y2_bu
  go_wp2_with fail
  have br := Drew.bel (w := W16) (w' := W16.drew) ⟨1, rfl⟩
  replace B := Lib.hid (B.out.trans (br.mono B.out.size))
  replace Tix := Lib.hid (Tix.out.keep br)
  replace Tt := Lib.hid (Tt.out.keep br)
  replace Tbt := Lib.hid (Tbt.out.keep br)
  replace Tu := Lib.hid (Tu.out.keep br)
  replace Tbu := Lib.hid (Tbu.out.keep br)
  replace Tl := Lib.hid (Tl.out.keep br)
  clear br
  simp only [List.append_eq, List.cons_append, List.nil_append]
  have HKS : Hid (∀ w' : World, Below W16.drew.heap.size W16.drew w' → w'.cell? ⟨b_bt, 0, none⟩ = some (.string (bs [114, 111, 111, 109])) ∧ w'.cell? ⟨b_bt, 1, none⟩ = some (.bool false) ∧ w'.cell? ⟨b_bt, 2, none⟩ = some (.slice a_t 2 c_t) ∧ w'.cell? ⟨b_bu, 0, none⟩ = some (.string (bs [107, 105, 110, 100])) ∧ w'.cell? ⟨b_bu, 1, none⟩ = some (.bool true) ∧ w'.cell? ⟨b_bu, 2, none⟩ = some (.slice a_u 0 c_u)) := Lib.hid (fun w' hb => ⟨(Tbt.out.keep hb).x0, (Tbt.out.keep hb).x1, (Tbt.out.keep hb).x2, (Tbu.out.keep hb).x0, (Tbu.out.keep hb).x1, (Tbu.out.keep hb).x2⟩)
  clear y0_bt y1_bt y2_bt
  clear y0_bu y1_bu y2_bu
  refine wp_region_held_drew (S := fun w' => w'.cell? ⟨b_bt, 0, none⟩ = some (.string (bs [114, 111, 111, 109])) ∧ w'.cell? ⟨b_bt, 1, none⟩ = some (.bool false) ∧ w'.cell? ⟨b_bt, 2, none⟩ = some (.slice a_t 2 c_t) ∧ w'.cell? ⟨b_bu, 0, none⟩ = some (.string (bs [107, 105, 110, 100])) ∧ w'.cell? ⟨b_bu, 1, none⟩ = some (.bool true) ∧ w'.cell? ⟨b_bu, 2, none⟩ = some (.slice a_u 0 c_u)) (by as_aux_lemma => kernel_rfl) ?_ (fun hHeld => ?_)
  · exact HKS.out _ (Below.refl _ _)
  generalize W16.drew = W17 at *
  have BR := Lib.hid (Below.refl W17.heap.size W17)
  refine op_take (i := 0) (v := ?_) rfl (by as_aux_lemma => kernel_rfl) (by as_aux_lemma => kernel_rfl) (by as_aux_lemma => kernel_rfl) (fun _ _ _ h => h) (Or.inl ⟨by rfl, ?_⟩) (by assumption) ?_
  rotate_left
  · (intro w hSw; (try dsimp only at hSw); go_simp) <;> (with_reducible rfl)
  try simp only [Act.put, List.setIfInBounds_toArray, List.set_cons_zero, List.set_cons_succ]
  apply meet1 (fun b2 w' => Below W17.heap.size W17 w' ∧ TxAt w' (some ⟨b2, 0, none⟩) 2 2 [[49], [50]])
  case walk =>
    intro HREST
    refine op_two (i := 1) (j := 2) (by as_aux_lemma => kernel_rfl) rfl rfl (fun K hK => ?_) (fun K hK => ?_)
    · go_simp
      have C := plain10_any ⟨[114, 111, 111, 109], false, a_t, 2, c_t, [[49], [50]]⟩ W17
      refine C.mono ?_
      clear C
      rintro e U1 ⟨rfl, br⟩
      unfold tmV
      simp only
      replace BR := Lib.hid (BR.out.trans (br.mono BR.out.size))
      clear br
      try go_wp2_with fail
      refine hK.out _ _ (HKS.out _ BR.out) (fun hHeld2 => ?_)
      clear hK K
      try clear hHeld
      have hHeld := hHeld2
      clear hHeld2
      try simp only [Act.put, List.setIfInBounds_toArray, List.set_cons_zero, List.set_cons_succ]
      refine op_one (i := 2) (by as_aux_lemma => kernel_rfl) rfl (fun K hK => ?_)
      go_simp
      have T2 := Lib.hid (show TxAt (U1.alloc (.cells #[.string ⟨#[49]⟩, .string ⟨#[50]⟩] 9)) (some ⟨U1.heap.size, 0, none⟩) 2 2 [[49], [50]] from tx_lit (l := [[49], [50]]) (heap_new U1 _))
      have br := (Below.refl U1.heap.size U1).alloc (Nat.le_refl _) (.cells #[.string ⟨#[49]⟩, .string ⟨#[50]⟩] 9)
      replace BR := Lib.hid (BR.out.trans (br.mono BR.out.size))
      clear br
      generalize U1.alloc (.cells #[.string ⟨#[49]⟩, .string ⟨#[50]⟩] 9) = U2 at *
      generalize U1.heap.size = b2 at T2 ⊢
      refine hK.out _ _ (HKS.out _ BR.out) (fun hHeld2 => ?_)
      clear hK K
      try clear hHeld
      have hHeld := hHeld2
      clear hHeld2
      try simp only [Act.put, List.setIfInBounds_toArray, List.set_cons_zero, List.set_cons_succ]
      refine op_take (i := 3) (v := ?_) rfl (by as_aux_lemma => kernel_rfl) (by as_aux_lemma => kernel_rfl) (by as_aux_lemma => kernel_rfl) (fun _ _ _ h => h) (Or.inl ⟨by rfl, ?_⟩) (by assumption) ?_
      rotate_left
      · (intro w hSw; (try dsimp only at hSw); go_simp) <;> (with_reducible rfl)
      try simp only [Act.put, List.setIfInBounds_toArray, List.set_cons_zero, List.set_cons_succ]
      exact HREST b2 U2 ⟨BR.out, T2.out⟩
    · go_simp
      have T2 := Lib.hid (show TxAt (W17.alloc (.cells #[.string ⟨#[49]⟩, .string ⟨#[50]⟩] 9)) (some ⟨W17.heap.size, 0, none⟩) 2 2 [[49], [50]] from tx_lit (l := [[49], [50]]) (heap_new W17 _))
      have br := (Below.refl W17.heap.size W17).alloc (Nat.le_refl _) (.cells #[.string ⟨#[49]⟩, .string ⟨#[50]⟩] 9)
      replace BR := Lib.hid (BR.out.trans (br.mono BR.out.size))
      clear br
      generalize W17.alloc (.cells #[.string ⟨#[49]⟩, .string ⟨#[50]⟩] 9) = U3 at *
      generalize W17.heap.size = b2 at T2 ⊢
      refine hK.out _ _ (HKS.out _ BR.out) (fun hHeld2 => ?_)
      clear hK K
      try clear hHeld
      have hHeld := hHeld2
      clear hHeld2
      try simp only [Act.put, List.setIfInBounds_toArray, List.set_cons_zero, List.set_cons_succ]
      refine op_take (i := 3) (v := ?_) rfl (by as_aux_lemma => kernel_rfl) (by as_aux_lemma => kernel_rfl) (by as_aux_lemma => kernel_rfl) (fun _ _ _ h => h) (Or.inl ⟨by rfl, ?_⟩) (by assumption) ?_
      rotate_left
      · (intro w hSw; (try dsimp only at hSw); go_simp) <;> (with_reducible rfl)
      try simp only [Act.put, List.setIfInBounds_toArray, List.set_cons_zero, List.set_cons_succ]
      refine op_one (i := 1) (by as_aux_lemma => kernel_rfl) rfl (fun K hK => ?_)
      go_simp
      have C := plain10_any ⟨[114, 111, 111, 109], false, a_t, 2, c_t, [[49], [50]]⟩ U3
      refine C.mono ?_
      clear C
      rintro e U4 ⟨rfl, br⟩
      unfold tmV
      simp only
      replace BR := Lib.hid (BR.out.trans (br.mono BR.out.size))
      replace T2 := Lib.hid (T2.out.keep br)
      clear br
      try go_wp2_with fail
      refine hK.out _ _ (HKS.out _ BR.out) (fun hHeld2 => ?_)
      clear hK K
      try clear hHeld
      have hHeld := hHeld2
      clear hHeld2
      try simp only [Act.put, List.setIfInBounds_toArray, List.set_cons_zero, List.set_cons_succ]
      exact HREST b2 U4 ⟨BR.out, T2.out⟩
  case rest =>
    clear BR
    intro b2 U5 hf
    obtain ⟨hb, hT2⟩ := hf
    have BR := Lib.hid hb
    clear hb
    have T2 := Lib.hid hT2
    clear hT2
    try clear hHeld
    have hHeld := HKS.out _ BR.out
    try dsimp only
    refine op_one (i := 4) (by as_aux_lemma => kernel_rfl) rfl (fun K hK => ?_)
    go_simp
    have C := rsame10_any ⟨[114, 111, 111, 109], false, a_t, 2, c_t, [[49], [50]]⟩ ⟨[114, 111, 111, 109], false, some ⟨b2, 0, none⟩, 2, 2, [[49], [50]]⟩ U5 (Tt.out.keep BR.out) T2.out
    rw [decide_eq_true (show (TmT.trm ⟨[114, 111, 111, 109], false, a_t, 2, c_t, [[49], [50]]⟩) = (TmT.trm ⟨[114, 111, 111, 109], false, some ⟨b2, 0, none⟩, 2, 2, [[49], [50]]⟩) from rfl)] at C
    refine C.mono ?_
    clear C
    rintro e U6 ⟨rfl, br⟩
    replace BR := Lib.hid (BR.out.trans (br.mono BR.out.size))
    replace T2 := Lib.hid (T2.out.keep br)
    clear br
    try go_wp2_with fail
    refine hK.out _ _ (HKS.out _ BR.out) (fun hHeld2 => ?_)
    clear hK K
    try clear hHeld
    have hHeld := hHeld2
    clear hHeld2
    try simp only [Act.put, List.setIfInBounds_toArray, List.set_cons_zero, List.set_cons_succ]
    clear T2
    refine op_take (i := 5) (v := ?_) rfl (by as_aux_lemma => kernel_rfl) (by as_aux_lemma => kernel_rfl) (by as_aux_lemma => kernel_rfl) (fun _ _ _ h => h) (Or.inl ⟨by rfl, ?_⟩) (by assumption) ?_
    rotate_left
    · (intro w hSw; (try dsimp only at hSw); go_simp) <;> (with_reducible rfl)
    try simp only [Act.put, List.setIfInBounds_toArray, List.set_cons_zero, List.set_cons_succ]
    refine op_take (i := 6) (v := ?_) rfl (by as_aux_lemma => kernel_rfl) (by as_aux_lemma => kernel_rfl) (by as_aux_lemma => kernel_rfl) (fun _ _ _ h => h) (Or.inl ⟨by rfl, ?_⟩) (by assumption) ?_
    rotate_left
    · (intro w hSw; (try dsimp only at hSw); go_simp) <;> (with_reducible rfl)
    try simp only [Act.put, List.setIfInBounds_toArray, List.set_cons_zero, List.set_cons_succ]
    refine op_take (i := 7) (v := ?_) rfl (by as_aux_lemma => kernel_rfl) (by as_aux_lemma => kernel_rfl) (by as_aux_lemma => kernel_rfl) (fun _ _ _ h => h) (Or.inl ⟨by rfl, ?_⟩) (by assumption) ?_
    rotate_left
    · (intro w hSw; (try dsimp only at hSw); go_simp) <;> (with_reducible rfl)
    try simp only [Act.put, List.setIfInBounds_toArray, List.set_cons_zero, List.set_cons_succ]
    refine op_take (i := 8) (v := ?_) rfl (by as_aux_lemma => kernel_rfl) (by as_aux_lemma => kernel_rfl) (by as_aux_lemma => kernel_rfl) (fun _ _ _ h => h) (Or.inl ⟨by rfl, ?_⟩) (by assumption) ?_
    rotate_left
    · (intro w hSw; (try dsimp only at hSw); go_simp) <;> (with_reducible rfl)
    try simp only [Act.put, List.setIfInBounds_toArray, List.set_cons_zero, List.set_cons_succ]
    refine op_take (i := 9) (v := ?_) rfl (by as_aux_lemma => kernel_rfl) (by as_aux_lemma => kernel_rfl) (by as_aux_lemma => kernel_rfl) (fun _ _ _ h => h) (Or.inl ⟨by rfl, ?_⟩) (by assumption) ?_
    rotate_left
    · (intro w hSw; (try dsimp only at hSw); go_simp) <;> (with_reducible rfl)
    try simp only [Act.put, List.setIfInBounds_toArray, List.set_cons_zero, List.set_cons_succ]
    refine op_take (i := 10) (v := ?_) rfl (by as_aux_lemma => kernel_rfl) (by as_aux_lemma => kernel_rfl) (by as_aux_lemma => kernel_rfl) (fun _ _ _ h => h) (Or.inl ⟨by rfl, ?_⟩) (by assumption) ?_
    rotate_left
    · (intro w hSw; (try dsimp only at hSw); go_simp) <;> (with_reducible rfl)
    try simp only [Act.put, List.setIfInBounds_toArray, List.set_cons_zero, List.set_cons_succ]
    refine op_take (i := 11) (v := ?_) rfl (by as_aux_lemma => kernel_rfl) (by as_aux_lemma => kernel_rfl) (by as_aux_lemma => kernel_rfl) (fun _ _ _ h => h) (Or.inl ⟨by rfl, ?_⟩) (by assumption) ?_
    rotate_left
    · (intro w hSw; (try dsimp only at hSw); go_simp) <;> (with_reducible rfl)
    try simp only [Act.put, List.setIfInBounds_toArray, List.set_cons_zero, List.set_cons_succ]
    refine op_take (i := 12) (v := ?_) rfl (by as_aux_lemma => kernel_rfl) (by as_aux_lemma => kernel_rfl) (by as_aux_lemma => kernel_rfl) (fun _ _ _ h => h) (Or.inl ⟨by rfl, ?_⟩) (by assumption) ?_
    rotate_left
    · (intro w hSw; (try dsimp only at hSw); go_simp) <;> (with_reducible rfl)
    try simp only [Act.put, List.setIfInBounds_toArray, List.set_cons_zero, List.set_cons_succ]
    refine op_take (i := 13) (v := ?_) rfl (by as_aux_lemma => kernel_rfl) (by as_aux_lemma => kernel_rfl) (by as_aux_lemma => kernel_rfl) (fun _ _ _ h => h) (Or.inl ⟨by rfl, ?_⟩) (by assumption) ?_
    rotate_left
    · (intro w hSw; (try dsimp only at hSw); go_simp) <;> (with_reducible rfl)
    try simp only [Act.put, List.setIfInBounds_toArray, List.set_cons_zero, List.set_cons_succ]
    refine op_take (i := 14) (v := ?_) rfl (by as_aux_lemma => kernel_rfl) (by as_aux_lemma => kernel_rfl) (by as_aux_lemma => kernel_rfl) (fun _ _ _ h => h) (Or.inl ⟨by rfl, ?_⟩) (by assumption) ?_
    rotate_left
    · (intro w hSw; (try dsimp only at hSw); go_simp) <;> (with_reducible rfl)
    try simp only [Act.put, List.setIfInBounds_toArray, List.set_cons_zero, List.set_cons_succ]
    as_aux_lemma =>
     refine op_take (i := 15) (v := ?_) rfl (by as_aux_lemma => kernel_rfl) (by as_aux_lemma => kernel_rfl) (by as_aux_lemma => kernel_rfl) (fun _ _ _ h => h) (Or.inl ⟨by rfl, ?_⟩) (by assumption) ?_
     rotate_left
     · (intro w hSw; (try dsimp only at hSw); go_simp) <;> (with_reducible rfl)
     try simp only [Act.put, List.setIfInBounds_toArray, List.set_cons_zero, List.set_cons_succ]
     refine op_take (i := 16) (v := ?_) rfl (by as_aux_lemma => kernel_rfl) (by as_aux_lemma => kernel_rfl) (by as_aux_lemma => kernel_rfl) (fun _ _ _ h => h) (Or.inl ⟨by rfl, ?_⟩) (by assumption) ?_
     rotate_left
     · (intro w hSw; (try dsimp only at hSw); go_simp) <;> (with_reducible rfl)
     try simp only [Act.put, List.setIfInBounds_toArray, List.set_cons_zero, List.set_cons_succ]
     refine op_take (i := 17) (v := ?_) rfl (by as_aux_lemma => kernel_rfl) (by as_aux_lemma => kernel_rfl) (by as_aux_lemma => kernel_rfl) (fun _ _ _ h => h) (Or.inl ⟨by rfl, ?_⟩) (by assumption) ?_
     rotate_left
     · (intro w hSw; (try dsimp only at hSw); go_simp) <;> (with_reducible rfl)
     try simp only [Act.put, List.setIfInBounds_toArray, List.set_cons_zero, List.set_cons_succ]
     refine op_take (i := 18) (v := ?_) rfl (by as_aux_lemma => kernel_rfl) (by as_aux_lemma => kernel_rfl) (by as_aux_lemma => kernel_rfl) (fun _ _ _ h => h) (Or.inl ⟨by rfl, ?_⟩) (by assumption) ?_
     rotate_left
     · (intro w hSw; (try dsimp only at hSw); go_simp) <;> (with_reducible rfl)
     try simp only [Act.put, List.setIfInBounds_toArray, List.set_cons_zero, List.set_cons_succ]
     refine op_take (i := 19) (v := ?_) rfl (by as_aux_lemma => kernel_rfl) (by as_aux_lemma => kernel_rfl) (by as_aux_lemma => kernel_rfl) (fun _ _ _ h => h) (Or.inl ⟨by rfl, ?_⟩) (by assumption) ?_
     rotate_left
     · (intro w hSw; (try dsimp only at hSw); go_simp) <;> (with_reducible rfl)
     try simp only [Act.put, List.setIfInBounds_toArray, List.set_cons_zero, List.set_cons_succ]
     refine op_take (i := 20) (v := ?_) rfl (by as_aux_lemma => kernel_rfl) (by as_aux_lemma => kernel_rfl) (by as_aux_lemma => kernel_rfl) (fun _ _ _ h => h) (Or.inl ⟨by rfl, ?_⟩) (by assumption) ?_
     rotate_left
     · (intro w hSw; (try dsimp only at hSw); go_simp) <;> (with_reducible rfl)
     try simp only [Act.put, List.setIfInBounds_toArray, List.set_cons_zero, List.set_cons_succ]
     refine op_take (i := 21) (v := ?_) rfl (by as_aux_lemma => kernel_rfl) (by as_aux_lemma => kernel_rfl) (by as_aux_lemma => kernel_rfl) (fun _ _ _ h => h) (Or.inl ⟨by rfl, ?_⟩) (by assumption) ?_
     rotate_left
     · (intro w hSw; (try dsimp only at hSw); go_simp) <;> (with_reducible rfl)
     try simp only [Act.put, List.setIfInBounds_toArray, List.set_cons_zero, List.set_cons_succ]
     refine op_take (i := 22) (v := ?_) rfl (by as_aux_lemma => kernel_rfl) (by as_aux_lemma => kernel_rfl) (by as_aux_lemma => kernel_rfl) (fun _ _ _ h => h) (Or.inl ⟨by rfl, ?_⟩) (by assumption) ?_
     rotate_left
     · (intro w hSw; (try dsimp only at hSw); go_simp) <;> (with_reducible rfl)
     try simp only [Act.put, List.setIfInBounds_toArray, List.set_cons_zero, List.set_cons_succ]
     refine op_take (i := 23) (v := ?_) rfl (by as_aux_lemma => kernel_rfl) (by as_aux_lemma => kernel_rfl) (by as_aux_lemma => kernel_rfl) (fun _ _ _ h => h) (Or.inl ⟨by rfl, ?_⟩) (by assumption) ?_
     rotate_left
     · (intro w hSw; (try dsimp only at hSw); go_simp) <;> (with_reducible rfl)
     try simp only [Act.put, List.setIfInBounds_toArray, List.set_cons_zero, List.set_cons_succ]
     refine op_take (i := 24) (v := ?_) rfl (by as_aux_lemma => kernel_rfl) (by as_aux_lemma => kernel_rfl) (by as_aux_lemma => kernel_rfl) (fun _ _ _ h => h) (Or.inl ⟨by rfl, ?_⟩) (by assumption) ?_
     rotate_left
     · (intro w hSw; (try dsimp only at hSw); go_simp) <;> (with_reducible rfl)
     try simp only [Act.put, List.setIfInBounds_toArray, List.set_cons_zero, List.set_cons_succ]
     refine op_take (i := 25) (v := ?_) rfl (by as_aux_lemma => kernel_rfl) (by as_aux_lemma => kernel_rfl) (by as_aux_lemma => kernel_rfl) (fun _ _ _ h => h) (Or.inl ⟨by rfl, ?_⟩) (by assumption) ?_
     rotate_left
     · (intro w hSw; (try dsimp only at hSw); go_simp) <;> (with_reducible rfl)
     try simp only [Act.put, List.setIfInBounds_toArray, List.set_cons_zero, List.set_cons_succ]
     refine op_take (i := 26) (v := ?_) rfl (by as_aux_lemma => kernel_rfl) (by as_aux_lemma => kernel_rfl) (by as_aux_lemma => kernel_rfl) (fun _ _ _ h => h) (Or.inl ⟨by rfl, ?_⟩) (by assumption) ?_
     rotate_left
     · (intro w hSw; (try dsimp only at hSw); go_simp) <;> (with_reducible rfl)
     try simp only [Act.put, List.setIfInBounds_toArray, List.set_cons_zero, List.set_cons_succ]
     as_aux_lemma =>
      refine op_take (i := 27) (v := ?_) rfl (by as_aux_lemma => kernel_rfl) (by as_aux_lemma => kernel_rfl) (by as_aux_lemma => kernel_rfl) (fun _ _ _ h => h) (Or.inl ⟨by rfl, ?_⟩) (by assumption) ?_
      rotate_left
      · (intro w hSw; (try dsimp only at hSw); go_simp) <;> (with_reducible rfl)
      try simp only [Act.put, List.setIfInBounds_toArray, List.set_cons_zero, List.set_cons_succ]
      refine op_take (i := 28) (v := ?_) rfl (by as_aux_lemma => kernel_rfl) (by as_aux_lemma => kernel_rfl) (by as_aux_lemma => kernel_rfl) (fun _ _ _ h => h) (Or.inl ⟨by rfl, ?_⟩) (by assumption) ?_
      rotate_left
      · (intro w hSw; (try dsimp only at hSw); go_simp) <;> (with_reducible rfl)
      try simp only [Act.put, List.setIfInBounds_toArray, List.set_cons_zero, List.set_cons_succ]
      refine op_take (i := 29) (v := ?_) rfl (by as_aux_lemma => kernel_rfl) (by as_aux_lemma => kernel_rfl) (by as_aux_lemma => kernel_rfl) (fun _ _ _ h => h) (Or.inl ⟨by rfl, ?_⟩) (by assumption) ?_
      rotate_left
      · (intro w hSw; (try dsimp only at hSw); go_simp) <;> (with_reducible rfl)
      try simp only [Act.put, List.setIfInBounds_toArray, List.set_cons_zero, List.set_cons_succ]
      refine op_take (i := 30) (v := ?_) rfl (by as_aux_lemma => kernel_rfl) (by as_aux_lemma => kernel_rfl) (by as_aux_lemma => kernel_rfl) (fun _ _ _ h => h) (Or.inl ⟨by rfl, ?_⟩) (by assumption) ?_
      rotate_left
      · (intro w hSw; (try dsimp only at hSw); go_simp) <;> (with_reducible rfl)
      try simp only [Act.put, List.setIfInBounds_toArray, List.set_cons_zero, List.set_cons_succ]
      refine op_take (i := 31) (v := ?_) rfl (by as_aux_lemma => kernel_rfl) (by as_aux_lemma => kernel_rfl) (by as_aux_lemma => kernel_rfl) (fun _ _ _ h => h) (Or.inl ⟨by rfl, ?_⟩) (by assumption) ?_
      rotate_left
      · (intro w hSw; (try dsimp only at hSw); go_simp) <;> (with_reducible rfl)
      try simp only [Act.put, List.setIfInBounds_toArray, List.set_cons_zero, List.set_cons_succ]
      refine op_take (i := 32) (v := ?_) rfl (by as_aux_lemma => kernel_rfl) (by as_aux_lemma => kernel_rfl) (by as_aux_lemma => kernel_rfl) (fun _ _ _ h => h) (Or.inl ⟨by rfl, ?_⟩) (by assumption) ?_
      rotate_left
      · (intro w hSw; (try dsimp only at hSw); go_simp) <;> (with_reducible rfl)
      try simp only [Act.put, List.setIfInBounds_toArray, List.set_cons_zero, List.set_cons_succ]
      refine op_take (i := 33) (v := ?_) rfl (by as_aux_lemma => kernel_rfl) (by as_aux_lemma => kernel_rfl) (by as_aux_lemma => kernel_rfl) (fun _ _ _ h => h) (Or.inl ⟨by rfl, ?_⟩) (by assumption) ?_
      rotate_left
      · (intro w hSw; (try dsimp only at hSw); go_simp) <;> (with_reducible rfl)
      try simp only [Act.put, List.setIfInBounds_toArray, List.set_cons_zero, List.set_cons_succ]
      refine op_take (i := 34) (v := ?_) rfl (by as_aux_lemma => kernel_rfl) (by as_aux_lemma => kernel_rfl) (by as_aux_lemma => kernel_rfl) (fun _ _ _ h => h) (Or.inl ⟨by rfl, ?_⟩) (by assumption) ?_
      rotate_left
      · (intro w hSw; (try dsimp only at hSw); go_simp) <;> (with_reducible rfl)
      try simp only [Act.put, List.setIfInBounds_toArray, List.set_cons_zero, List.set_cons_succ]
      refine op_take (i := 35) (v := ?_) rfl (by as_aux_lemma => kernel_rfl) (by as_aux_lemma => kernel_rfl) (by as_aux_lemma => kernel_rfl) (fun _ _ _ h => h) (Or.inl ⟨by rfl, ?_⟩) (by assumption) ?_
      rotate_left
      · (intro w hSw; (try dsimp only at hSw); go_simp) <;> (with_reducible rfl)
      try simp only [Act.put, List.setIfInBounds_toArray, List.set_cons_zero, List.set_cons_succ]
      refine op_take (i := 36) (v := ?_) rfl (by as_aux_lemma => kernel_rfl) (by as_aux_lemma => kernel_rfl) (by as_aux_lemma => kernel_rfl) (fun _ _ _ h => h) (Or.inl ⟨by rfl, ?_⟩) (by assumption) ?_
      rotate_left
      · (intro w hSw; (try dsimp only at hSw); go_simp) <;> (with_reducible rfl)
      try simp only [Act.put, List.setIfInBounds_toArray, List.set_cons_zero, List.set_cons_succ]
      refine op_take (i := 37) (v := ?_) rfl (by as_aux_lemma => kernel_rfl) (by as_aux_lemma => kernel_rfl) (by as_aux_lemma => kernel_rfl) (fun _ _ _ h => h) (Or.inl ⟨by rfl, ?_⟩) (by assumption) ?_
      rotate_left
      · (intro w hSw; (try dsimp only at hSw); go_simp) <;> (with_reducible rfl)
      try simp only [Act.put, List.setIfInBounds_toArray, List.set_cons_zero, List.set_cons_succ]
      refine op_take (i := 38) (v := ?_) rfl (by as_aux_lemma => kernel_rfl) (by as_aux_lemma => kernel_rfl) (by as_aux_lemma => kernel_rfl) (fun _ _ _ h => h) (Or.inl ⟨by rfl, ?_⟩) (by assumption) ?_
      rotate_left
      · (intro w hSw; (try dsimp only at hSw); go_simp) <;> (with_reducible rfl)
      try simp only [Act.put, List.setIfInBounds_toArray, List.set_cons_zero, List.set_cons_succ]
      as_aux_lemma =>
       refine op_take (i := 39) (v := ?_) rfl (by as_aux_lemma => kernel_rfl) (by as_aux_lemma => kernel_rfl) (by as_aux_lemma => kernel_rfl) (fun _ _ _ h => h) (Or.inl ⟨by rfl, ?_⟩) (by assumption) ?_
       rotate_left
       · (intro w hSw; (try dsimp only at hSw); go_simp) <;> (with_reducible rfl)
       try simp only [Act.put, List.setIfInBounds_toArray, List.set_cons_zero, List.set_cons_succ]
       refine op_take (i := 40) (v := ?_) rfl (by as_aux_lemma => kernel_rfl) (by as_aux_lemma => kernel_rfl) (by as_aux_lemma => kernel_rfl) (fun _ _ _ h => h) (Or.inl ⟨by rfl, ?_⟩) (by assumption) ?_
       rotate_left
       · (intro w hSw; (try dsimp only at hSw); go_simp) <;> (with_reducible rfl)
       try simp only [Act.put, List.setIfInBounds_toArray, List.set_cons_zero, List.set_cons_succ]
       refine op_take (i := 41) (v := ?_) rfl (by as_aux_lemma => kernel_rfl) (by as_aux_lemma => kernel_rfl) (by as_aux_lemma => kernel_rfl) (fun _ _ _ h => h) (Or.inl ⟨by rfl, ?_⟩) (by assumption) ?_
       rotate_left
       · (intro w hSw; (try dsimp only at hSw); go_simp) <;> (with_reducible rfl)
       try simp only [Act.put, List.setIfInBounds_toArray, List.set_cons_zero, List.set_cons_succ]
       refine op_one (i := 42) (by as_aux_lemma => kernel_rfl) rfl (fun K hK => ?_)
       go_simp
       have C := show10_any ⟨[114, 111, 111, 109], false, a_t, 2, c_t, [[49], [50]]⟩ U6 (Tt.out.keep BR.out)
       rw [show showT (TmT.trm ⟨[114, 111, 111, 109], false, a_t, 2, c_t, [[49], [50]]⟩) = [114, 111, 111, 109, 61, 40, 49, 44, 50, 41] from (show showT ([114, 111, 111, 109], false, [[49], [50]]) = [114, 111, 111, 109, 61, 40, 49, 44, 50, 41] from by decide), show bs [114, 111, 111, 109, 61, 40, 49, 44, 50, 41] = ⟨#[114, 111, 111, 109, 61, 40, 49, 44, 50, 41]⟩ from rfl] at C
       refine C.mono ?_
       clear C
       rintro e U7 ⟨rfl, br⟩
       replace BR := Lib.hid (BR.out.trans (br.mono BR.out.size))
       clear br
       try go_wp2_with fail
       refine hK.out _ _ (HKS.out _ BR.out) (fun hHeld2 => ?_)
       clear hK K
       try clear hHeld
       have hHeld := hHeld2
       clear hHeld2
       try simp only [Act.put, List.setIfInBounds_toArray, List.set_cons_zero, List.set_cons_succ]
       refine op_take (i := 43) (v := ?_) rfl (by as_aux_lemma => kernel_rfl) (by as_aux_lemma => kernel_rfl) (by as_aux_lemma => kernel_rfl) (fun _ _ _ h => h) (Or.inl ⟨by rfl, ?_⟩) (by assumption) ?_
       rotate_left
       · (intro w hSw; (try dsimp only at hSw); go_simp) <;> (with_reducible rfl)
       try simp only [Act.put, List.setIfInBounds_toArray, List.set_cons_zero, List.set_cons_succ]
       refine op_take (i := 44) (v := ?_) rfl (by as_aux_lemma => kernel_rfl) (by as_aux_lemma => kernel_rfl) (by as_aux_lemma => kernel_rfl) (fun _ _ _ h => h) (Or.inl ⟨by rfl, ?_⟩) (by assumption) ?_
       rotate_left
       · (intro w hSw; (try dsimp only at hSw); go_simp) <;> (with_reducible rfl)
       try simp only [Act.put, List.setIfInBounds_toArray, List.set_cons_zero, List.set_cons_succ]
       refine op_take (i := 45) (v := ?_) rfl (by as_aux_lemma => kernel_rfl) (by as_aux_lemma => kernel_rfl) (by as_aux_lemma => kernel_rfl) (fun _ _ _ h => h) (Or.inl ⟨by rfl, ?_⟩) (by assumption) ?_
       rotate_left
       · (intro w hSw; (try dsimp only at hSw); go_simp) <;> (with_reducible rfl)
       try simp only [Act.put, List.setIfInBounds_toArray, List.set_cons_zero, List.set_cons_succ]
       refine op_take (i := 46) (v := ?_) rfl (by as_aux_lemma => kernel_rfl) (by as_aux_lemma => kernel_rfl) (by as_aux_lemma => kernel_rfl) (fun _ _ _ h => h) (Or.inl ⟨by rfl, ?_⟩) (by assumption) ?_
       rotate_left
       · (intro w hSw; (try dsimp only at hSw); go_simp) <;> (with_reducible rfl)
       try simp only [Act.put, List.setIfInBounds_toArray, List.set_cons_zero, List.set_cons_succ]
       refine op_take (i := 47) (v := ?_) rfl (by as_aux_lemma => kernel_rfl) (by as_aux_lemma => kernel_rfl) (by as_aux_lemma => kernel_rfl) (fun _ _ _ h => h) (Or.inl ⟨by rfl, ?_⟩) (by assumption) ?_
       rotate_left
       · (intro w hSw; (try dsimp only at hSw); go_simp) <;> (with_reducible rfl)
       try simp only [Act.put, List.setIfInBounds_toArray, List.set_cons_zero, List.set_cons_succ]
       apply meet3 (fun a_f1 c_f1 b49 w' => Below W17.heap.size W17 w' ∧ TxAt w' a_f1 1 c_f1 [[97]] ∧ TxAt w' (some ⟨b49, 0, none⟩) 1 1 [[97]])
       case walk =>
         intro HREST
         refine op_two (i := 48) (j := 49) (by as_aux_lemma => kernel_rfl) rfl rfl (fun K hK => ?_) (fun K hK => ?_)
         · go_simp
           have C := find10_any (.pointer (some ⟨x, 0, none⟩)) (([([97], [([114, 111, 111, 109], [49])]), ([98], [([107, 105, 110, 100], [116]), ([114, 111, 111, 109], [50])]), ([99], [])] : List Ent)) a_l 2 c_l L_l U7 (Tix.out.keep BR.out) (by decide) (Tl.out.keep BR.out) (tms_few (Tl.out.keep BR.out) (by rw [HL_l.out]; decide))
           rw [HL_l.out, show findT ([([97], [([114, 111, 111, 109], [49])]), ([98], [([107, 105, 110, 100], [116]), ([114, 111, 111, 109], [50])]), ([99], [])] : List Ent) [([114, 111, 111, 109], false, [[49], [50]]), ([107, 105, 110, 100], false, [])] = [[97]] from by decide] at C
           refine C.mono ?_
           clear C
           rintro e U8 ⟨a_f1, c_f1, rfl, h_f1, br⟩
           have Tf1 := Lib.hid h_f1
           clear h_f1
           replace BR := Lib.hid (BR.out.trans (br.mono BR.out.size))
           clear br
           rw [show ([[97]] : List Tx).length = 1 from rfl]
           replace Tf1 : Hid (TxAt U8 a_f1 1 c_f1 [[97]]) := Tf1
           try go_wp2_with fail
           refine hK.out _ _ (HKS.out _ BR.out) (fun hHeld2 => ?_)
           clear hK K
           try clear hHeld
           have hHeld := hHeld2
           clear hHeld2
           try simp only [Act.put, List.setIfInBounds_toArray, List.set_cons_zero, List.set_cons_succ]
           refine op_one (i := 49) (by as_aux_lemma => kernel_rfl) rfl (fun K hK => ?_)
           go_simp
           have T49 := Lib.hid (show TxAt (U8.alloc (.cells #[.string ⟨#[97]⟩] 9)) (some ⟨U8.heap.size, 0, none⟩) 1 1 [[97]] from tx_lit (l := [[97]]) (heap_new U8 _))
           have br := (Below.refl U8.heap.size U8).alloc (Nat.le_refl _) (.cells #[.string ⟨#[97]⟩] 9)
           replace BR := Lib.hid (BR.out.trans (br.mono BR.out.size))
           replace Tf1 := Lib.hid (Tf1.out.keep br)
           clear br
           generalize U8.alloc (.cells #[.string ⟨#[97]⟩] 9) = U9 at *
           generalize U8.heap.size = b49 at T49 ⊢
           refine hK.out _ _ (HKS.out _ BR.out) (fun hHeld2 => ?_)
           clear hK K
           try clear hHeld
           have hHeld := hHeld2
           clear hHeld2
           try simp only [Act.put, List.setIfInBounds_toArray, List.set_cons_zero, List.set_cons_succ]
           exact HREST a_f1 c_f1 b49 U9 ⟨BR.out, Tf1.out, T49.out⟩
         · go_simp
           have T49 := Lib.hid (show TxAt (U7.alloc (.cells #[.string ⟨#[97]⟩] 9)) (some ⟨U7.heap.size, 0, none⟩) 1 1 [[97]] from tx_lit (l := [[97]]) (heap_new U7 _))
           have br := (Below.refl U7.heap.size U7).alloc (Nat.le_refl _) (.cells #[.string ⟨#[97]⟩] 9)
           replace BR := Lib.hid (BR.out.trans (br.mono BR.out.size))
           clear br
           generalize U7.alloc (.cells #[.string ⟨#[97]⟩] 9) = U10 at *
           generalize U7.heap.size = b49 at T49 ⊢
           refine hK.out _ _ (HKS.out _ BR.out) (fun hHeld2 => ?_)
           clear hK K
           try clear hHeld
           have hHeld := hHeld2
           clear hHeld2
           try simp only [Act.put, List.setIfInBounds_toArray, List.set_cons_zero, List.set_cons_succ]
           refine op_one (i := 48) (by as_aux_lemma => kernel_rfl) rfl (fun K hK => ?_)
           go_simp
           have C := find10_any (.pointer (some ⟨x, 0, none⟩)) (([([97], [([114, 111, 111, 109], [49])]), ([98], [([107, 105, 110, 100], [116]), ([114, 111, 111, 109], [50])]), ([99], [])] : List Ent)) a_l 2 c_l L_l U10 (Tix.out.keep BR.out) (by decide) (Tl.out.keep BR.out) (tms_few (Tl.out.keep BR.out) (by rw [HL_l.out]; decide))
           rw [HL_l.out, show findT ([([97], [([114, 111, 111, 109], [49])]), ([98], [([107, 105, 110, 100], [116]), ([114, 111, 111, 109], [50])]), ([99], [])] : List Ent) [([114, 111, 111, 109], false, [[49], [50]]), ([107, 105, 110, 100], false, [])] = [[97]] from by decide] at C
           refine C.mono ?_
           clear C
           rintro e U11 ⟨a_f1, c_f1, rfl, h_f1, br⟩
           have Tf1 := Lib.hid h_f1
           clear h_f1
           replace BR := Lib.hid (BR.out.trans (br.mono BR.out.size))
           replace T49 := Lib.hid (T49.out.keep br)
           clear br
           rw [show ([[97]] : List Tx).length = 1 from rfl]
           replace Tf1 : Hid (TxAt U11 a_f1 1 c_f1 [[97]]) := Tf1
           try go_wp2_with fail
           refine hK.out _ _ (HKS.out _ BR.out) (fun hHeld2 => ?_)
           clear hK K
           try clear hHeld
           have hHeld := hHeld2
           clear hHeld2
           try simp only [Act.put, List.setIfInBounds_toArray, List.set_cons_zero, List.set_cons_succ]
           exact HREST a_f1 c_f1 b49 U11 ⟨BR.out, Tf1.out, T49.out⟩
       case rest =>
         clear BR
         intro a_f1 c_f1 b49 U12 hf
         obtain ⟨hb, hTf1, hT49⟩ := hf
         have BR := Lib.hid hb
         clear hb
         have Tf1 := Lib.hid hTf1
         clear hTf1
         have T49 := Lib.hid hT49
         clear hT49
         try clear hHeld
         have hHeld := HKS.out _ BR.out
         try dsimp only
         refine op_one (i := 50) (by as_aux_lemma => kernel_rfl) rfl (fun K hK => ?_)
         go_simp
         have C := (same8_any a_f1 1 c_f1 [[97]] (some ⟨b49, 0, none⟩) 1 1 [[97]] U12 Tf1.out T49.out)
         rw [decide_eq_true (rfl : [[97]] = ([[97]] : List Tx))] at C
         refine C.mono ?_
         clear C
         rintro e U13 ⟨rfl, dr⟩
         have br := dr.bel
         clear dr
         replace BR := Lib.hid (BR.out.trans (br.mono BR.out.size))
         replace Tf1 := Lib.hid (Tf1.out.keep br)
         replace T49 := Lib.hid (T49.out.keep br)
         clear br
         try go_wp2_with fail
         refine hK.out _ _ (HKS.out _ BR.out) (fun hHeld2 => ?_)
         clear hK K
         try clear hHeld
         have hHeld := hHeld2
         clear hHeld2
         try simp only [Act.put, List.setIfInBounds_toArray, List.set_cons_zero, List.set_cons_succ]
         clear Tf1 T49
         refine op_take (i := 51) (v := ?_) rfl (by as_aux_lemma => kernel_rfl) (by as_aux_lemma => kernel_rfl) (by as_aux_lemma => kernel_rfl) (fun _ _ _ h => h) (Or.inl ⟨by rfl, ?_⟩) (by assumption) ?_
         rotate_left
         · (intro w hSw; (try dsimp only at hSw); go_simp) <;> (with_reducible rfl)
         try simp only [Act.put, List.setIfInBounds_toArray, List.set_cons_zero, List.set_cons_succ]
         refine op_take (i := 52) (v := ?_) rfl (by as_aux_lemma => kernel_rfl) (by as_aux_lemma => kernel_rfl) (by as_aux_lemma => kernel_rfl) (fun _ _ _ h => h) (Or.inl ⟨by rfl, ?_⟩) (by assumption) ?_
         rotate_left
         · (intro w hSw; (try dsimp only at hSw); go_simp) <;> (with_reducible rfl)
         try simp only [Act.put, List.setIfInBounds_toArray, List.set_cons_zero, List.set_cons_succ]
         refine op_take (i := 53) (v := ?_) rfl (by as_aux_lemma => kernel_rfl) (by as_aux_lemma => kernel_rfl) (by as_aux_lemma => kernel_rfl) (fun _ _ _ h => h) (Or.inl ⟨by rfl, ?_⟩) (by assumption) ?_
         rotate_left
         · (intro w hSw; (try dsimp only at hSw); go_simp) <;> (with_reducible rfl)
         try simp only [Act.put, List.setIfInBounds_toArray, List.set_cons_zero, List.set_cons_succ]
         refine op_take (i := 54) (v := ?_) rfl (by as_aux_lemma => kernel_rfl) (by as_aux_lemma => kernel_rfl) (by as_aux_lemma => kernel_rfl) (fun _ _ _ h => h) (Or.inl ⟨by rfl, ?_⟩) (by assumption) ?_
         rotate_left
         · (intro w hSw; (try dsimp only at hSw); go_simp) <;> (with_reducible rfl)
         try simp only [Act.put, List.setIfInBounds_toArray, List.set_cons_zero, List.set_cons_succ]
         apply meet4 (fun a_f2 c_f2 b57 b55 w' => Below W17.heap.size W17 w' ∧ TxAt w' a_f2 1 c_f2 [[98]] ∧ TxAt w' (some ⟨b57, 0, none⟩) 1 1 [[98]])
         case walk =>
           intro HREST
           refine op_two (i := 55) (j := 57) (by as_aux_lemma => kernel_rfl) rfl rfl (fun K hK => ?_) (fun K hK => ?_)
           · go_simp
             have T55 := Lib.hid (show TmsAt (U13.alloc (.cells #[.string (bs [107, 105, 110, 100]), .bool true, .slice a_u 0 c_u] 24)) (some ⟨U13.heap.size, 0, none⟩) 1 1 [⟨[107, 105, 110, 100], true, a_u, 0, c_u, []⟩] from ⟨TmAt.oneFT U13 ⟨[107, 105, 110, 100], true, a_u, 0, c_u, []⟩, fun e he => by rw [List.mem_singleton] at he; subst he; exact (Tu.out.keep (BR.out.alloc BR.out.size _))⟩)
             have br := (Below.refl U13.heap.size U13).alloc (Nat.le_refl _) (.cells #[.string (bs [107, 105, 110, 100]), .bool true, .slice a_u 0 c_u] 24)
             replace BR := Lib.hid (BR.out.trans (br.mono BR.out.size))
             clear br
             generalize U13.alloc (.cells #[.string (bs [107, 105, 110, 100]), .bool true, .slice a_u 0 c_u] 24) = U14 at *
             generalize U13.heap.size = b55 at T55 ⊢
             refine hK.out _ _ (HKS.out _ BR.out) (fun hHeld2 => ?_)
             clear hK K
             try clear hHeld
             have hHeld := hHeld2
             clear hHeld2
             try simp only [Act.put, List.setIfInBounds_toArray, List.set_cons_zero, List.set_cons_succ]
             refine op_two (i := 56) (j := 57) (by as_aux_lemma => kernel_rfl) rfl rfl (fun K hK => ?_) (fun K hK => ?_)
             · go_simp
               have C := find10_any (.pointer (some ⟨x, 0, none⟩)) (([([97], [([114, 111, 111, 109], [49])]), ([98], [([107, 105, 110, 100], [116]), ([114, 111, 111, 109], [50])]), ([99], [])] : List Ent)) (some ⟨b55, 0, none⟩) 1 1 [⟨[107, 105, 110, 100], true, a_u, 0, c_u, []⟩] U14 (Tix.out.keep BR.out) (by decide) T55.out (by intro e he; rw [List.mem_singleton] at he; subst he; exact (by omega : 0 ≤ 1000))
               rw [show findT ([([97], [([114, 111, 111, 109], [49])]), ([98], [([107, 105, 110, 100], [116]), ([114, 111, 111, 109], [50])]), ([99], [])] : List Ent) (trms [⟨[107, 105, 110, 100], true, a_u, 0, c_u, []⟩]) = [[98]] from (show findT ([([97], [([114, 111, 111, 109], [49])]), ([98], [([107, 105, 110, 100], [116]), ([114, 111, 111, 109], [50])]), ([99], [])] : List Ent) [([107, 105, 110, 100], true, [])] = [[98]] from by decide)] at C
               refine C.mono ?_
               clear C
               rintro e U15 ⟨a_f2, c_f2, rfl, h_f2, br⟩
               have Tf2 := Lib.hid h_f2
               clear h_f2
               replace BR := Lib.hid (BR.out.trans (br.mono BR.out.size))
               replace T55 := Lib.hid (T55.out.keep br)
               clear br
               rw [show ([[98]] : List Tx).length = 1 from rfl]
               replace Tf2 : Hid (TxAt U15 a_f2 1 c_f2 [[98]]) := Tf2
               try go_wp2_with fail
               refine hK.out _ _ (HKS.out _ BR.out) (fun hHeld2 => ?_)
               clear hK K
               try clear hHeld
               have hHeld := hHeld2
               clear hHeld2
               try simp only [Act.put, List.setIfInBounds_toArray, List.set_cons_zero, List.set_cons_succ]
               refine op_one (i := 57) (by as_aux_lemma => kernel_rfl) rfl (fun K hK => ?_)
               go_simp
               have T57 := Lib.hid (show TxAt (U15.alloc (.cells #[.string ⟨#[98]⟩] 9)) (some ⟨U15.heap.size, 0, none⟩) 1 1 [[98]] from tx_lit (l := [[98]]) (heap_new U15 _))
               have br := (Below.refl U15.heap.size U15).alloc (Nat.le_refl _) (.cells #[.string ⟨#[98]⟩] 9)
               replace BR := Lib.hid (BR.out.trans (br.mono BR.out.size))
               replace T55 := Lib.hid (T55.out.keep br)
               replace Tf2 := Lib.hid (Tf2.out.keep br)
               clear br
               generalize U15.alloc (.cells #[.string ⟨#[98]⟩] 9) = U16 at *
               generalize U15.heap.size = b57 at T57 ⊢
               refine hK.out _ _ (HKS.out _ BR.out) (fun hHeld2 => ?_)
               clear hK K
               try clear hHeld
               have hHeld := hHeld2
               clear hHeld2
               try simp only [Act.put, List.setIfInBounds_toArray, List.set_cons_zero, List.set_cons_succ]
               exact HREST a_f2 c_f2 b57 b55 U16 ⟨BR.out, Tf2.out, T57.out⟩
             · go_simp
               have T57 := Lib.hid (show TxAt (U14.alloc (.cells #[.string ⟨#[98]⟩] 9)) (some ⟨U14.heap.size, 0, none⟩) 1 1 [[98]] from tx_lit (l := [[98]]) (heap_new U14 _))
               have br := (Below.refl U14.heap.size U14).alloc (Nat.le_refl _) (.cells #[.string ⟨#[98]⟩] 9)
               replace BR := Lib.hid (BR.out.trans (br.mono BR.out.size))
               replace T55 := Lib.hid (T55.out.keep br)
               clear br
               generalize U14.alloc (.cells #[.string ⟨#[98]⟩] 9) = U17 at *
               generalize U14.heap.size = b57 at T57 ⊢
               refine hK.out _ _ (HKS.out _ BR.out) (fun hHeld2 => ?_)
               clear hK K
               try clear hHeld
               have hHeld := hHeld2
               clear hHeld2
               try simp only [Act.put, List.setIfInBounds_toArray, List.set_cons_zero, List.set_cons_succ]
               refine op_one (i := 56) (by as_aux_lemma => kernel_rfl) rfl (fun K hK => ?_)
               go_simp
               have C := find10_any (.pointer (some ⟨x, 0, none⟩)) (([([97], [([114, 111, 111, 109], [49])]), ([98], [([107, 105, 110, 100], [116]), ([114, 111, 111, 109], [50])]), ([99], [])] : List Ent)) (some ⟨b55, 0, none⟩) 1 1 [⟨[107, 105, 110, 100], true, a_u, 0, c_u, []⟩] U17 (Tix.out.keep BR.out) (by decide) T55.out (by intro e he; rw [List.mem_singleton] at he; subst he; exact (by omega : 0 ≤ 1000))
               rw [show findT ([([97], [([114, 111, 111, 109], [49])]), ([98], [([107, 105, 110, 100], [116]), ([114, 111, 111, 109], [50])]), ([99], [])] : List Ent) (trms [⟨[107, 105, 110, 100], true, a_u, 0, c_u, []⟩]) = [[98]] from (show findT ([([97], [([114, 111, 111, 109], [49])]), ([98], [([107, 105, 110, 100], [116]), ([114, 111, 111, 109], [50])]), ([99], [])] : List Ent) [([107, 105, 110, 100], true, [])] = [[98]] from by decide)] at C
               refine C.mono ?_
               clear C
               rintro e U18 ⟨a_f2, c_f2, rfl, h_f2, br⟩
               have Tf2 := Lib.hid h_f2
               clear h_f2
               replace BR := Lib.hid (BR.out.trans (br.mono BR.out.size))
               replace T55 := Lib.hid (T55.out.keep br)
               replace T57 := Lib.hid (T57.out.keep br)
               clear br
               rw [show ([[98]] : List Tx).length = 1 from rfl]
               replace Tf2 : Hid (TxAt U18 a_f2 1 c_f2 [[98]]) := Tf2
               try go_wp2_with fail
               refine hK.out _ _ (HKS.out _ BR.out) (fun hHeld2 => ?_)
               clear hK K
               try clear hHeld
               have hHeld := hHeld2
               clear hHeld2
               try simp only [Act.put, List.setIfInBounds_toArray, List.set_cons_zero, List.set_cons_succ]
               exact HREST a_f2 c_f2 b57 b55 U18 ⟨BR.out, Tf2.out, T57.out⟩
           · go_simp
             have T57 := Lib.hid (show TxAt (U13.alloc (.cells #[.string ⟨#[98]⟩] 9)) (some ⟨U13.heap.size, 0, none⟩) 1 1 [[98]] from tx_lit (l := [[98]]) (heap_new U13 _))
             have br := (Below.refl U13.heap.size U13).alloc (Nat.le_refl _) (.cells #[.string ⟨#[98]⟩] 9)
             replace BR := Lib.hid (BR.out.trans (br.mono BR.out.size))
             clear br
             generalize U13.alloc (.cells #[.string ⟨#[98]⟩] 9) = U19 at *
             generalize U13.heap.size = b57 at T57 ⊢
             refine hK.out _ _ (HKS.out _ BR.out) (fun hHeld2 => ?_)
             clear hK K
             try clear hHeld
             have hHeld := hHeld2
             clear hHeld2
             try simp only [Act.put, List.setIfInBounds_toArray, List.set_cons_zero, List.set_cons_succ]
             refine op_one (i := 55) (by as_aux_lemma => kernel_rfl) rfl (fun K hK => ?_)
             go_simp
             have T55 := Lib.hid (show TmsAt (U19.alloc (.cells #[.string (bs [107, 105, 110, 100]), .bool true, .slice a_u 0 c_u] 24)) (some ⟨U19.heap.size, 0, none⟩) 1 1 [⟨[107, 105, 110, 100], true, a_u, 0, c_u, []⟩] from ⟨TmAt.oneFT U19 ⟨[107, 105, 110, 100], true, a_u, 0, c_u, []⟩, fun e he => by rw [List.mem_singleton] at he; subst he; exact (Tu.out.keep (BR.out.alloc BR.out.size _))⟩)
             have br := (Below.refl U19.heap.size U19).alloc (Nat.le_refl _) (.cells #[.string (bs [107, 105, 110, 100]), .bool true, .slice a_u 0 c_u] 24)
             replace BR := Lib.hid (BR.out.trans (br.mono BR.out.size))
             replace T57 := Lib.hid (T57.out.keep br)
             clear br
             generalize U19.alloc (.cells #[.string (bs [107, 105, 110, 100]), .bool true, .slice a_u 0 c_u] 24) = U20 at *
             generalize U19.heap.size = b55 at T55 ⊢
             refine hK.out _ _ (HKS.out _ BR.out) (fun hHeld2 => ?_)
             clear hK K
             try clear hHeld
             have hHeld := hHeld2
             clear hHeld2
             try simp only [Act.put, List.setIfInBounds_toArray, List.set_cons_zero, List.set_cons_succ]
             refine op_one (i := 56) (by as_aux_lemma => kernel_rfl) rfl (fun K hK => ?_)
             go_simp
             have C := find10_any (.pointer (some ⟨x, 0, none⟩)) (([([97], [([114, 111, 111, 109], [49])]), ([98], [([107, 105, 110, 100], [116]), ([114, 111, 111, 109], [50])]), ([99], [])] : List Ent)) (some ⟨b55, 0, none⟩) 1 1 [⟨[107, 105, 110, 100], true, a_u, 0, c_u, []⟩] U20 (Tix.out.keep BR.out) (by decide) T55.out (by intro e he; rw [List.mem_singleton] at he; subst he; exact (by omega : 0 ≤ 1000))
             rw [show findT ([([97], [([114, 111, 111, 109], [49])]), ([98], [([107, 105, 110, 100], [116]), ([114, 111, 111, 109], [50])]), ([99], [])] : List Ent) (trms [⟨[107, 105, 110, 100], true, a_u, 0, c_u, []⟩]) = [[98]] from (show findT ([([97], [([114, 111, 111, 109], [49])]), ([98], [([107, 105, 110, 100], [116]), ([114, 111, 111, 109], [50])]), ([99], [])] : List Ent) [([107, 105, 110, 100], true, [])] = [[98]] from by decide)] at C
             refine C.mono ?_
             clear C
             rintro e U21 ⟨a_f2, c_f2, rfl, h_f2, br⟩
             have Tf2 := Lib.hid h_f2
             clear h_f2
             replace BR := Lib.hid (BR.out.trans (br.mono BR.out.size))
             replace T57 := Lib.hid (T57.out.keep br)
             replace T55 := Lib.hid (T55.out.keep br)
             clear br
             rw [show ([[98]] : List Tx).length = 1 from rfl]
             replace Tf2 : Hid (TxAt U21 a_f2 1 c_f2 [[98]]) := Tf2
             try go_wp2_with fail
             refine hK.out _ _ (HKS.out _ BR.out) (fun hHeld2 => ?_)
             clear hK K
             try clear hHeld
             have hHeld := hHeld2
             clear hHeld2
             try simp only [Act.put, List.setIfInBounds_toArray, List.set_cons_zero, List.set_cons_succ]
             exact HREST a_f2 c_f2 b57 b55 U21 ⟨BR.out, Tf2.out, T57.out⟩
         case rest =>
           clear BR
           intro a_f2 c_f2 b57 b55 U22 hf
           obtain ⟨hb, hTf2, hT57⟩ := hf
           have BR := Lib.hid hb
           clear hb
           have Tf2 := Lib.hid hTf2
           clear hTf2
           have T57 := Lib.hid hT57
           clear hT57
           try clear hHeld
           have hHeld := HKS.out _ BR.out
           try dsimp only
           refine op_one (i := 58) (by as_aux_lemma => kernel_rfl) rfl (fun K hK => ?_)
           go_simp
           have C := (same8_any a_f2 1 c_f2 [[98]] (some ⟨b57, 0, none⟩) 1 1 [[98]] U22 Tf2.out T57.out)
           rw [decide_eq_true (rfl : [[98]] = ([[98]] : List Tx))] at C
           refine C.mono ?_
           clear C
           rintro e U23 ⟨rfl, dr⟩
           have br := dr.bel
           clear dr
           replace BR := Lib.hid (BR.out.trans (br.mono BR.out.size))
           replace Tf2 := Lib.hid (Tf2.out.keep br)
           replace T57 := Lib.hid (T57.out.keep br)
           clear br
           try go_wp2_with fail
           refine hK.out _ _ (HKS.out _ BR.out) (fun hHeld2 => ?_)
           clear hK K
           try clear hHeld
           have hHeld := hHeld2
           clear hHeld2
           try simp only [Act.put, List.setIfInBounds_toArray, List.set_cons_zero, List.set_cons_succ]
           clear Tf2 T57
           as_aux_lemma =>
            refine op_take (i := 59) (v := ?_) rfl (by as_aux_lemma => kernel_rfl) (by as_aux_lemma => kernel_rfl) (by as_aux_lemma => kernel_rfl) (fun _ _ _ h => h) (Or.inl ⟨by rfl, ?_⟩) (by assumption) ?_
            rotate_left
            · (intro w hSw; (try dsimp only at hSw); go_simp) <;> (with_reducible rfl)
            try simp only [Act.put, List.setIfInBounds_toArray, List.set_cons_zero, List.set_cons_succ]
            refine op_take (i := 60) (v := ?_) rfl (by as_aux_lemma => kernel_rfl) (by as_aux_lemma => kernel_rfl) (by as_aux_lemma => kernel_rfl) (fun _ _ _ h => h) (Or.inl ⟨by rfl, ?_⟩) (by assumption) ?_
            rotate_left
            · (intro w hSw; (try dsimp only at hSw); go_simp) <;> (with_reducible rfl)
            try simp only [Act.put, List.setIfInBounds_toArray, List.set_cons_zero, List.set_cons_succ]
            refine op_take (i := 61) (v := ?_) rfl (by as_aux_lemma => kernel_rfl) (by as_aux_lemma => kernel_rfl) (by as_aux_lemma => kernel_rfl) (fun _ _ _ h => h) (Or.inl ⟨by rfl, ?_⟩) (by assumption) ?_
            rotate_left
            · (intro w hSw; (try dsimp only at hSw); go_simp) <;> (with_reducible rfl)
            try simp only [Act.put, List.setIfInBounds_toArray, List.set_cons_zero, List.set_cons_succ]
            apply meet3 (fun a_f3 c_f3 b63 w' => Below W17.heap.size W17 w' ∧ TxAt w' a_f3 3 c_f3 [[97], [98], [99]] ∧ TxAt w' (some ⟨b63, 0, none⟩) 3 3 [[97], [98], [99]])
            case walk =>
              intro HREST
              refine op_two (i := 62) (j := 63) (by as_aux_lemma => kernel_rfl) rfl rfl (fun K hK => ?_) (fun K hK => ?_)
              · go_simp
                have C := find10_any (.pointer (some ⟨x, 0, none⟩)) (([([97], [([114, 111, 111, 109], [49])]), ([98], [([107, 105, 110, 100], [116]), ([114, 111, 111, 109], [50])]), ([99], [])] : List Ent)) none 0 0 [] U23 (Tix.out.keep BR.out) (by decide) (TmsAt.nil _ _ _) (by simp)
                rw [show findT ([([97], [([114, 111, 111, 109], [49])]), ([98], [([107, 105, 110, 100], [116]), ([114, 111, 111, 109], [50])]), ([99], [])] : List Ent) (trms []) = [[97], [98], [99]] from by decide] at C
                refine C.mono ?_
                clear C
                rintro e U24 ⟨a_f3, c_f3, rfl, h_f3, br⟩
                have Tf3 := Lib.hid h_f3
                clear h_f3
                replace BR := Lib.hid (BR.out.trans (br.mono BR.out.size))
                clear br
                rw [show ([[97], [98], [99]] : List Tx).length = 3 from rfl]
                replace Tf3 : Hid (TxAt U24 a_f3 3 c_f3 [[97], [98], [99]]) := Tf3
                try go_wp2_with fail
                refine hK.out _ _ (HKS.out _ BR.out) (fun hHeld2 => ?_)
                clear hK K
                try clear hHeld
                have hHeld := hHeld2
                clear hHeld2
                try simp only [Act.put, List.setIfInBounds_toArray, List.set_cons_zero, List.set_cons_succ]
                refine op_one (i := 63) (by as_aux_lemma => kernel_rfl) rfl (fun K hK => ?_)
                go_simp
                have T63 := Lib.hid (show TxAt (U24.alloc (.cells #[.string ⟨#[97]⟩, .string ⟨#[98]⟩, .string ⟨#[99]⟩] 9)) (some ⟨U24.heap.size, 0, none⟩) 3 3 [[97], [98], [99]] from tx_lit (l := [[97], [98], [99]]) (heap_new U24 _))
                have br := (Below.refl U24.heap.size U24).alloc (Nat.le_refl _) (.cells #[.string ⟨#[97]⟩, .string ⟨#[98]⟩, .string ⟨#[99]⟩] 9)
                replace BR := Lib.hid (BR.out.trans (br.mono BR.out.size))
                replace Tf3 := Lib.hid (Tf3.out.keep br)
                clear br
                generalize U24.alloc (.cells #[.string ⟨#[97]⟩, .string ⟨#[98]⟩, .string ⟨#[99]⟩] 9) = U25 at *
                generalize U24.heap.size = b63 at T63 ⊢
                refine hK.out _ _ (HKS.out _ BR.out) (fun hHeld2 => ?_)
                clear hK K
                try clear hHeld
                have hHeld := hHeld2
                clear hHeld2
                try simp only [Act.put, List.setIfInBounds_toArray, List.set_cons_zero, List.set_cons_succ]
                exact HREST a_f3 c_f3 b63 U25 ⟨BR.out, Tf3.out, T63.out⟩
              · go_simp
                have T63 := Lib.hid (show TxAt (U23.alloc (.cells #[.string ⟨#[97]⟩, .string ⟨#[98]⟩, .string ⟨#[99]⟩] 9)) (some ⟨U23.heap.size, 0, none⟩) 3 3 [[97], [98], [99]] from tx_lit (l := [[97], [98], [99]]) (heap_new U23 _))
                have br := (Below.refl U23.heap.size U23).alloc (Nat.le_refl _) (.cells #[.string ⟨#[97]⟩, .string ⟨#[98]⟩, .string ⟨#[99]⟩] 9)
                replace BR := Lib.hid (BR.out.trans (br.mono BR.out.size))
                clear br
                generalize U23.alloc (.cells #[.string ⟨#[97]⟩, .string ⟨#[98]⟩, .string ⟨#[99]⟩] 9) = U26 at *
                generalize U23.heap.size = b63 at T63 ⊢
                refine hK.out _ _ (HKS.out _ BR.out) (fun hHeld2 => ?_)
                clear hK K
                try clear hHeld
                have hHeld := hHeld2
                clear hHeld2
                try simp only [Act.put, List.setIfInBounds_toArray, List.set_cons_zero, List.set_cons_succ]
                refine op_one (i := 62) (by as_aux_lemma => kernel_rfl) rfl (fun K hK => ?_)
                go_simp
                have C := find10_any (.pointer (some ⟨x, 0, none⟩)) (([([97], [([114, 111, 111, 109], [49])]), ([98], [([107, 105, 110, 100], [116]), ([114, 111, 111, 109], [50])]), ([99], [])] : List Ent)) none 0 0 [] U26 (Tix.out.keep BR.out) (by decide) (TmsAt.nil _ _ _) (by simp)
                rw [show findT ([([97], [([114, 111, 111, 109], [49])]), ([98], [([107, 105, 110, 100], [116]), ([114, 111, 111, 109], [50])]), ([99], [])] : List Ent) (trms []) = [[97], [98], [99]] from by decide] at C
                refine C.mono ?_
                clear C
                rintro e U27 ⟨a_f3, c_f3, rfl, h_f3, br⟩
                have Tf3 := Lib.hid h_f3
                clear h_f3
                replace BR := Lib.hid (BR.out.trans (br.mono BR.out.size))
                replace T63 := Lib.hid (T63.out.keep br)
                clear br
                rw [show ([[97], [98], [99]] : List Tx).length = 3 from rfl]
                replace Tf3 : Hid (TxAt U27 a_f3 3 c_f3 [[97], [98], [99]]) := Tf3
                try go_wp2_with fail
                refine hK.out _ _ (HKS.out _ BR.out) (fun hHeld2 => ?_)
                clear hK K
                try clear hHeld
                have hHeld := hHeld2
                clear hHeld2
                try simp only [Act.put, List.setIfInBounds_toArray, List.set_cons_zero, List.set_cons_succ]
                exact HREST a_f3 c_f3 b63 U27 ⟨BR.out, Tf3.out, T63.out⟩
            case rest =>
              clear BR
              intro a_f3 c_f3 b63 U28 hf
              obtain ⟨hb, hTf3, hT63⟩ := hf
              have BR := Lib.hid hb
              clear hb
              have Tf3 := Lib.hid hTf3
              clear hTf3
              have T63 := Lib.hid hT63
              clear hT63
              try clear hHeld
              have hHeld := HKS.out _ BR.out
              try dsimp only
              refine op_one (i := 64) (by as_aux_lemma => kernel_rfl) rfl (fun K hK => ?_)
              go_simp
              have C := (same8_any a_f3 3 c_f3 [[97], [98], [99]] (some ⟨b63, 0, none⟩) 3 3 [[97], [98], [99]] U28 Tf3.out T63.out)
              rw [decide_eq_true (rfl : [[97], [98], [99]] = ([[97], [98], [99]] : List Tx))] at C
              refine C.mono ?_
              clear C
              rintro e U29 ⟨rfl, dr⟩
              have br := dr.bel
              clear dr
              replace BR := Lib.hid (BR.out.trans (br.mono BR.out.size))
              replace Tf3 := Lib.hid (Tf3.out.keep br)
              replace T63 := Lib.hid (T63.out.keep br)
              clear br
              try go_wp2_with fail
              refine hK.out _ _ (HKS.out _ BR.out) (fun hHeld2 => ?_)
              clear hK K
              try clear hHeld
              have hHeld := hHeld2
              clear hHeld2
              try simp only [Act.put, List.setIfInBounds_toArray, List.set_cons_zero, List.set_cons_succ]
              clear Tf3 T63
              refine op_take (i := 65) (v := ?_) rfl (by as_aux_lemma => kernel_rfl) (by as_aux_lemma => kernel_rfl) (by as_aux_lemma => kernel_rfl) (fun _ _ _ h => h) (Or.inl ⟨by rfl, ?_⟩) (by assumption) ?_
              rotate_left
              · (intro w hSw; (try dsimp only at hSw); go_simp) <;> (with_reducible rfl)
              try simp only [Act.put, List.setIfInBounds_toArray, List.set_cons_zero, List.set_cons_succ]
              refine op_take (i := 66) (v := ?_) rfl (by as_aux_lemma => kernel_rfl) (by as_aux_lemma => kernel_rfl) (by as_aux_lemma => kernel_rfl) (fun _ _ _ h => h) (Or.inl ⟨by rfl, ?_⟩) (by assumption) ?_
              rotate_left
              · (intro w hSw; (try dsimp only at hSw); go_simp) <;> (with_reducible rfl)
              try simp only [Act.put, List.setIfInBounds_toArray, List.set_cons_zero, List.set_cons_succ]
              refine op_take (i := 67) (v := ?_) rfl (by as_aux_lemma => kernel_rfl) (by as_aux_lemma => kernel_rfl) (by as_aux_lemma => kernel_rfl) (fun _ _ _ h => h) (Or.inl ⟨by rfl, ?_⟩) (by assumption) ?_
              rotate_left
              · (intro w hSw; (try dsimp only at hSw); go_simp) <;> (with_reducible rfl)
              try simp only [Act.put, List.setIfInBounds_toArray, List.set_cons_zero, List.set_cons_succ]
              refine op_take (i := 68) (v := ?_) rfl (by as_aux_lemma => kernel_rfl) (by as_aux_lemma => kernel_rfl) (by as_aux_lemma => kernel_rfl) (fun _ _ _ h => h) (Or.inl ⟨by rfl, ?_⟩) (by assumption) ?_
              rotate_left
              · (intro w hSw; (try dsimp only at hSw); go_simp) <;> (with_reducible rfl)
              try simp only [Act.put, List.setIfInBounds_toArray, List.set_cons_zero, List.set_cons_succ]
              refine op_one (i := 69) (by as_aux_lemma => kernel_rfl) rfl (fun K hK => ?_)
              go_simp
              have C := labelsV U29 (.pointer (some ⟨x, 0, none⟩)) (([([97], [([114, 111, 111, 109], [49])]), ([98], [([107, 105, 110, 100], [116]), ([114, 111, 111, 109], [50])]), ([99], [])] : List Ent)) [97] (Tix.out.keep BR.out)
              rw [show (look ([([97], [([114, 111, 111, 109], [49])]), ([98], [([107, 105, 110, 100], [116]), ([114, 111, 111, 109], [50])]), ([99], [])] : List Ent) [97]).getD [] = ([([114, 111, 111, 109], [49])] : List Lb) from by decide] at C
              refine C.mono ?_
              clear C
              rintro e U30 ⟨a_g, c_g, rfl, h_g, br⟩
              have Tg := Lib.hid h_g
              clear h_g
              replace BR := Lib.hid (BR.out.trans (br.mono BR.out.size))
              clear br
              rw [show ([([114, 111, 111, 109], [49])] : List Lb).length = 1 from rfl]
              replace Tg : Hid (LbAt U30 a_g 1 c_g [([114, 111, 111, 109], [49])]) := Tg
              try go_wp2_with fail
              refine hK.out _ _ (HKS.out _ BR.out) (fun hHeld2 => ?_)
              clear hK K
              try clear hHeld
              have hHeld := hHeld2
              clear hHeld2
              try simp only [Act.put, List.setIfInBounds_toArray, List.set_cons_zero, List.set_cons_succ]
              refine op_one (i := 70) (by as_aux_lemma => kernel_rfl) rfl (fun K hK => ?_)
              go_simp
              have C := match10_any ⟨[114, 111, 111, 109], false, a_t, 2, c_t, [[49], [50]]⟩ a_g 1 c_g [([114, 111, 111, 109], [49])] U30 (Tt.out.keep BR.out) Tg.out
              rw [show matchT (TmT.trm ⟨[114, 111, 111, 109], false, a_t, 2, c_t, [[49], [50]]⟩) [([114, 111, 111, 109], [49])] = true from (show matchT ([114, 111, 111, 109], false, [[49], [50]]) [([114, 111, 111, 109], [49])] = true from by decide)] at C
              refine C.mono ?_
              clear C
              rintro e U31 ⟨rfl, br⟩
              replace BR := Lib.hid (BR.out.trans (br.mono BR.out.size))
              replace Tg := Lib.hid (Tg.out.keep br)
              clear br
              try go_wp2_with fail
              refine hK.out _ _ (HKS.out _ BR.out) (fun hHeld2 => ?_)
              clear hK K
              try clear hHeld
              have hHeld := hHeld2
              clear hHeld2
              try simp only [Act.put, List.setIfInBounds_toArray, List.set_cons_zero, List.set_cons_succ]
              clear Tg
              refine op_take (i := 71) (v := ?_) rfl (by as_aux_lemma => kernel_rfl) (by as_aux_lemma => kernel_rfl) (by as_aux_lemma => kernel_rfl) (fun _ _ _ h => h) (Or.inl ⟨by rfl, ?_⟩) (by assumption) ?_
              rotate_left
              · (intro w hSw; (try dsimp only at hSw); go_simp) <;> (with_reducible rfl)
              try simp only [Act.put, List.setIfInBounds_toArray, List.set_cons_zero, List.set_cons_succ]
              refine op_take (i := 72) (v := ?_) rfl (by as_aux_lemma => kernel_rfl) (by as_aux_lemma => kernel_rfl) (by as_aux_lemma => kernel_rfl) (fun _ _ _ h => h) (Or.inl ⟨by rfl, ?_⟩) (by assumption) ?_
              rotate_left
              · (intro w hSw; (try dsimp only at hSw); go_simp) <;> (with_reducible rfl)
              try simp only [Act.put, List.setIfInBounds_toArray, List.set_cons_zero, List.set_cons_succ]
              refine op_take (i := 73) (v := ?_) rfl (by as_aux_lemma => kernel_rfl) (by as_aux_lemma => kernel_rfl) (by as_aux_lemma => kernel_rfl) (fun _ _ _ h => h) (Or.inl ⟨by rfl, ?_⟩) (by assumption) ?_
              rotate_left
              · (intro w hSw; (try dsimp only at hSw); go_simp) <;> (with_reducible rfl)
              try simp only [Act.put, List.setIfInBounds_toArray, List.set_cons_zero, List.set_cons_succ]
              refine op_one (i := 74) (by as_aux_lemma => kernel_rfl) rfl (fun K hK => ?_)
              go_simp
              have C := match10_any ⟨[114, 111, 111, 109], false, a_t, 2, c_t, [[49], [50]]⟩ none 0 0 [] U31 (Tt.out.keep BR.out) (LbAt.nil _ _ _)
              rw [show matchT (TmT.trm ⟨[114, 111, 111, 109], false, a_t, 2, c_t, [[49], [50]]⟩) [] = false from (show matchT ([114, 111, 111, 109], false, [[49], [50]]) [] = false from by decide)] at C
              refine C.mono ?_
              clear C
              rintro e U32 ⟨rfl, br⟩
              replace BR := Lib.hid (BR.out.trans (br.mono BR.out.size))
              clear br
              try go_wp2_with fail
              refine hK.out _ _ (HKS.out _ BR.out) (fun hHeld2 => ?_)
              clear hK K
              try clear hHeld
              have hHeld := hHeld2
              clear hHeld2
              try simp only [Act.put, List.setIfInBounds_toArray, List.set_cons_zero, List.set_cons_succ]
              refine op_take (i := 75) (v := ?_) rfl (by as_aux_lemma => kernel_rfl) (by as_aux_lemma => kernel_rfl) (by as_aux_lemma => kernel_rfl) (fun _ _ _ h => h) (Or.inl ⟨by rfl, ?_⟩) (by assumption) ?_
              rotate_left
              · (intro w hSw; (try dsimp only at hSw); go_simp) <;> (with_reducible rfl)
              try simp only [Act.put, List.setIfInBounds_toArray, List.set_cons_zero, List.set_cons_succ]
              refine op_take (i := 76) (v := ?_) rfl (by as_aux_lemma => kernel_rfl) (by as_aux_lemma => kernel_rfl) (by as_aux_lemma => kernel_rfl) (fun _ _ _ h => h) (Or.inl ⟨by rfl, ?_⟩) (by assumption) ?_
              rotate_left
              · (intro w hSw; (try dsimp only at hSw); go_simp) <;> (with_reducible rfl)
              try simp only [Act.put, List.setIfInBounds_toArray, List.set_cons_zero, List.set_cons_succ]
              as_aux_lemma =>
               refine op_take (i := 77) (v := ?_) rfl (by as_aux_lemma => kernel_rfl) (by as_aux_lemma => kernel_rfl) (by as_aux_lemma => kernel_rfl) (fun _ _ _ h => h) (Or.inl ⟨by rfl, ?_⟩) (by assumption) ?_
               rotate_left
               · (intro w hSw; (try dsimp only at hSw); go_simp) <;> (with_reducible rfl)
               try simp only [Act.put, List.setIfInBounds_toArray, List.set_cons_zero, List.set_cons_succ]
               refine op_take (i := 78) (v := ?_) rfl (by as_aux_lemma => kernel_rfl) (by as_aux_lemma => kernel_rfl) (by as_aux_lemma => kernel_rfl) (fun _ _ _ h => h) (Or.inl ⟨by rfl, ?_⟩) (by assumption) ?_
               rotate_left
               · (intro w hSw; (try dsimp only at hSw); go_simp) <;> (with_reducible rfl)
               try simp only [Act.put, List.setIfInBounds_toArray, List.set_cons_zero, List.set_cons_succ]
               refine op_one (i := 79) (by as_aux_lemma => kernel_rfl) rfl (fun K hK => ?_)
               go_simp
               have C := right10_any ⟨[114, 111, 111, 109], false, a_t, 2, c_t, [[49], [50]]⟩ U32 (Tt.out.keep BR.out)
               rw [show decide (rightT (TmT.trm ⟨[114, 111, 111, 109], false, a_t, 2, c_t, [[49], [50]]⟩)) = true from (show decide (rightT ([114, 111, 111, 109], false, [[49], [50]])) = true from by decide)] at C
               refine C.mono ?_
               clear C
               rintro e U33 ⟨rfl, br⟩
               replace BR := Lib.hid (BR.out.trans (br.mono BR.out.size))
               clear br
               try go_wp2_with fail
               refine hK.out _ _ (HKS.out _ BR.out) (fun hHeld2 => ?_)
               clear hK K
               try clear hHeld
               have hHeld := hHeld2
               clear hHeld2
               try simp only [Act.put, List.setIfInBounds_toArray, List.set_cons_zero, List.set_cons_succ]
               refine op_take (i := 80) (v := ?_) rfl (by as_aux_lemma => kernel_rfl) (by as_aux_lemma => kernel_rfl) (by as_aux_lemma => kernel_rfl) (fun _ _ _ h => h) (Or.inl ⟨by rfl, ?_⟩) (by assumption) ?_
               rotate_left
               · (intro w hSw; (try dsimp only at hSw); go_simp) <;> (with_reducible rfl)
               try simp only [Act.put, List.setIfInBounds_toArray, List.set_cons_zero, List.set_cons_succ]
               refine op_take (i := 81) (v := ?_) rfl (by as_aux_lemma => kernel_rfl) (by as_aux_lemma => kernel_rfl) (by as_aux_lemma => kernel_rfl) (fun _ _ _ h => h) (Or.inl ⟨by rfl, ?_⟩) (by assumption) ?_
               rotate_left
               · (intro w hSw; (try dsimp only at hSw); go_simp) <;> (with_reducible rfl)
               try simp only [Act.put, List.setIfInBounds_toArray, List.set_cons_zero, List.set_cons_succ]
               refine op_one (i := 82) (by as_aux_lemma => kernel_rfl) rfl (fun K hK => ?_)
               go_simp
               have C := word_any [97] U33
               rw [show decide (wordB [97]) = true from by decide] at C
               refine C.mono ?_
               clear C
               rintro e U34 ⟨rfl, br⟩
               replace BR := Lib.hid (BR.out.trans (br.mono BR.out.size))
               clear br
               try go_wp2_with fail
               refine hK.out _ _ (HKS.out _ BR.out) (fun hHeld2 => ?_)
               clear hK K
               try clear hHeld
               have hHeld := hHeld2
               clear hHeld2
               try simp only [Act.put, List.setIfInBounds_toArray, List.set_cons_zero, List.set_cons_succ]
               refine op_take (i := 83) (v := ?_) rfl (by as_aux_lemma => kernel_rfl) (by as_aux_lemma => kernel_rfl) (by as_aux_lemma => kernel_rfl) (fun _ _ _ h => h) (Or.inl ⟨by rfl, ?_⟩) (by assumption) ?_
               rotate_left
               · (intro w hSw; (try dsimp only at hSw); go_simp) <;> (with_reducible rfl)
               try simp only [Act.put, List.setIfInBounds_toArray, List.set_cons_zero, List.set_cons_succ]
               refine op_take (i := 84) (v := ?_) rfl (by as_aux_lemma => kernel_rfl) (by as_aux_lemma => kernel_rfl) (by as_aux_lemma => kernel_rfl) (fun _ _ _ h => h) (Or.inl ⟨by rfl, ?_⟩) (by assumption) ?_
               rotate_left
               · (intro w hSw; (try dsimp only at hSw); go_simp) <;> (with_reducible rfl)
               try simp only [Act.put, List.setIfInBounds_toArray, List.set_cons_zero, List.set_cons_succ]
               refine op_one (i := 85) (by as_aux_lemma => kernel_rfl) rfl (fun K hK => ?_)
               go_simp
               have C := word_any [97, 61] U34
               rw [show decide (wordB [97, 61]) = false from by decide] at C
               refine C.mono ?_
               clear C
               rintro e U35 ⟨rfl, br⟩
               replace BR := Lib.hid (BR.out.trans (br.mono BR.out.size))
               clear br
               try go_wp2_with fail
               refine hK.out _ _ (HKS.out _ BR.out) (fun hHeld2 => ?_)
               clear hK K
               try clear hHeld
               have hHeld := hHeld2
               clear hHeld2
               try simp only [Act.put, List.setIfInBounds_toArray, List.set_cons_zero, List.set_cons_succ]
               refine op_take (i := 86) (v := ?_) rfl (by as_aux_lemma => kernel_rfl) (by as_aux_lemma => kernel_rfl) (by as_aux_lemma => kernel_rfl) (fun _ _ _ h => h) (Or.inl ⟨by rfl, ?_⟩) (by assumption) ?_
               rotate_left
               · (intro w hSw; (try dsimp only at hSw); go_simp) <;> (with_reducible rfl)
               try simp only [Act.put, List.setIfInBounds_toArray, List.set_cons_zero, List.set_cons_succ]
               refine op_take (i := 87) (v := ?_) rfl (by as_aux_lemma => kernel_rfl) (by as_aux_lemma => kernel_rfl) (by as_aux_lemma => kernel_rfl) (fun _ _ _ h => h) (Or.inl ⟨by rfl, ?_⟩) (by assumption) ?_
               rotate_left
               · (intro w hSw; (try dsimp only at hSw); go_simp) <;> (with_reducible rfl)
               try simp only [Act.put, List.setIfInBounds_toArray, List.set_cons_zero, List.set_cons_succ]
               refine op_take (i := 88) (v := ?_) rfl (by as_aux_lemma => kernel_rfl) (by as_aux_lemma => kernel_rfl) (by as_aux_lemma => kernel_rfl) (fun _ _ _ h => h) (Or.inl ⟨by rfl, ?_⟩) (by assumption) ?_
               rotate_left
               · (intro w hSw; (try dsimp only at hSw); go_simp) <;> (with_reducible rfl)
               try simp only [Act.put, List.setIfInBounds_toArray, List.set_cons_zero, List.set_cons_succ]
               refine op_take (i := 89) (v := ?_) rfl (by as_aux_lemma => kernel_rfl) (by as_aux_lemma => kernel_rfl) (by as_aux_lemma => kernel_rfl) (fun _ _ _ h => h) (Or.inl ⟨by rfl, ?_⟩) (by assumption) ?_
               rotate_left
               · (intro w hSw; (try dsimp only at hSw); go_simp) <;> (with_reducible rfl)
               try simp only [Act.put, List.setIfInBounds_toArray, List.set_cons_zero, List.set_cons_succ]
               refine op_take (i := 90) (v := ?_) rfl (by as_aux_lemma => kernel_rfl) (by as_aux_lemma => kernel_rfl) (by as_aux_lemma => kernel_rfl) (fun _ _ _ h => h) (Or.inl ⟨by rfl, ?_⟩) (by assumption) ?_
               rotate_left
               · (intro w hSw; (try dsimp only at hSw); go_simp) <;> (with_reducible rfl)
               try simp only [Act.put, List.setIfInBounds_toArray, List.set_cons_zero, List.set_cons_succ]
               refine op_one (i := 91) (by as_aux_lemma => kernel_rfl) rfl (fun K hK => ?_)
               go_simp
               have C := same10_any ⟨[114, 111, 111, 109], false, a_t, 2, c_t, [[49], [50]]⟩ ⟨[114, 111, 111, 109], false, a_t, 2, c_t, [[49], [50]]⟩ U35 (Tt.out.keep BR.out) (Tt.out.keep BR.out)
               rw [decide_eq_true (show (TmT.trm ⟨[114, 111, 111, 109], false, a_t, 2, c_t, [[49], [50]]⟩) = (TmT.trm ⟨[114, 111, 111, 109], false, a_t, 2, c_t, [[49], [50]]⟩) from rfl)] at C
               refine C.mono ?_
               clear C
               rintro e U36 ⟨rfl, br⟩
               replace BR := Lib.hid (BR.out.trans (br.mono BR.out.size))
               clear br
               try go_wp2_with fail
               refine hK.out _ _ (HKS.out _ BR.out) (fun hHeld2 => ?_)
               clear hK K
               try clear hHeld
               have hHeld := hHeld2
               clear hHeld2
               try simp only [Act.put, List.setIfInBounds_toArray, List.set_cons_zero, List.set_cons_succ]
               refine op_take (i := 92) (v := ?_) rfl (by as_aux_lemma => kernel_rfl) (by as_aux_lemma => kernel_rfl) (by as_aux_lemma => kernel_rfl) (fun _ _ _ h => h) (Or.inl ⟨by rfl, ?_⟩) (by assumption) ?_
               rotate_left
               · (intro w hSw; (try dsimp only at hSw); go_simp) <;> (with_reducible rfl)
               try simp only [Act.put, List.setIfInBounds_toArray, List.set_cons_zero, List.set_cons_succ]
               as_aux_lemma =>
                refine op_take (i := 93) (v := ?_) rfl (by as_aux_lemma => kernel_rfl) (by as_aux_lemma => kernel_rfl) (by as_aux_lemma => kernel_rfl) (fun _ _ _ h => h) (Or.inl ⟨by rfl, ?_⟩) (by assumption) ?_
                rotate_left
                · (intro w hSw; (try dsimp only at hSw); go_simp) <;> (with_reducible rfl)
                try simp only [Act.put, List.setIfInBounds_toArray, List.set_cons_zero, List.set_cons_succ]
                refine op_take (i := 94) (v := ?_) rfl (by as_aux_lemma => kernel_rfl) (by as_aux_lemma => kernel_rfl) (by as_aux_lemma => kernel_rfl) (fun _ _ _ h => h) (Or.inl ⟨by rfl, ?_⟩) (by assumption) ?_
                rotate_left
                · (intro w hSw; (try dsimp only at hSw); go_simp) <;> (with_reducible rfl)
                try simp only [Act.put, List.setIfInBounds_toArray, List.set_cons_zero, List.set_cons_succ]
                refine op_take (i := 95) (v := ?_) rfl (by as_aux_lemma => kernel_rfl) (by as_aux_lemma => kernel_rfl) (by as_aux_lemma => kernel_rfl) (fun _ _ _ h => h) (Or.inl ⟨by rfl, ?_⟩) (by assumption) ?_
                rotate_left
                · (intro w hSw; (try dsimp only at hSw); go_simp) <;> (with_reducible rfl)
                try simp only [Act.put, List.setIfInBounds_toArray, List.set_cons_zero, List.set_cons_succ]
                refine op_one (i := 96) (by as_aux_lemma => kernel_rfl) rfl (fun K hK => ?_)
                go_simp
                have C := same10_any ⟨[114, 111, 111, 109], false, a_t, 2, c_t, [[49], [50]]⟩ ⟨[107, 105, 110, 100], true, a_u, 0, c_u, []⟩ U36 (Tt.out.keep BR.out) (Tu.out.keep BR.out)
                rw [decide_eq_false (show ¬ (TmT.trm ⟨[114, 111, 111, 109], false, a_t, 2, c_t, [[49], [50]]⟩) = (TmT.trm ⟨[107, 105, 110, 100], true, a_u, 0, c_u, []⟩) from (show ¬ ([114, 111, 111, 109], false, [[49], [50]]) = ([107, 105, 110, 100], true, []) from by decide))] at C
                refine C.mono ?_
                clear C
                rintro e U37 ⟨rfl, br⟩
                replace BR := Lib.hid (BR.out.trans (br.mono BR.out.size))
                clear br
                try go_wp2_with fail
                refine hK.out _ _ (HKS.out _ BR.out) (fun hHeld2 => ?_)
                clear hK K
                try clear hHeld
                have hHeld := hHeld2
                clear hHeld2
                try simp only [Act.put, List.setIfInBounds_toArray, List.set_cons_zero, List.set_cons_succ]
                refine op_take (i := 97) (v := ?_) rfl (by as_aux_lemma => kernel_rfl) (by as_aux_lemma => kernel_rfl) (by as_aux_lemma => kernel_rfl) (fun _ _ _ h => h) (Or.inl ⟨by rfl, ?_⟩) (by assumption) ?_
                rotate_left
                · (intro w hSw; (try dsimp only at hSw); go_simp) <;> (with_reducible rfl)
                try simp only [Act.put, List.setIfInBounds_toArray, List.set_cons_zero, List.set_cons_succ]
                refine op_take (i := 98) (v := ?_) rfl (by as_aux_lemma => kernel_rfl) (by as_aux_lemma => kernel_rfl) (by as_aux_lemma => kernel_rfl) (fun _ _ _ h => h) (Or.inl ⟨by rfl, ?_⟩) (by assumption) ?_
                rotate_left
                · (intro w hSw; (try dsimp only at hSw); go_simp) <;> (with_reducible rfl)
                try simp only [Act.put, List.setIfInBounds_toArray, List.set_cons_zero, List.set_cons_succ]
                refine op_take (i := 99) (v := ?_) rfl (by as_aux_lemma => kernel_rfl) (by as_aux_lemma => kernel_rfl) (by as_aux_lemma => kernel_rfl) (fun _ _ _ h => h) (Or.inl ⟨by rfl, ?_⟩) (by assumption) ?_
                rotate_left
                · (intro w hSw; (try dsimp only at hSw); go_simp) <;> (with_reducible rfl)
                try simp only [Act.put, List.setIfInBounds_toArray, List.set_cons_zero, List.set_cons_succ]
                refine wpAnyH_done (by as_aux_lemma => kernel_rfl) ?_ _
                have BF := Lib.hid (B.out.trans (BR.out.mono B.out.size))
                go_wp2
                go_ret
                exact ⟨rfl, BF.out⟩
end Go.Proofs.YtifjbbiphekmmaaGreatDoor
