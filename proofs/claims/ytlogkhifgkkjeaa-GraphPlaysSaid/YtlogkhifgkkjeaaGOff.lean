/-
  Contract of the graph's takeFrom: all rules from a key are taken out.
-/
import Derived.Test.YtlogkhifgkkjeaaGTake
namespace Go.Proofs.Ytlogkhifgkkjeaa
open Go.RowKit
set_option linter.unusedVariables false
set_option linter.unusedSimpArgs false

/-- What is made by rules that are still there. -/
def restI (L l : List Ru) (d : Tx) : Option Ru := if ∃ r ∈ l, r.dst = d then none else intoL L d
theorem restI_nil (L : List Ru) (d : Tx) : restI L [] d = intoL L d := by unfold restI; rw [if_neg (by simp)]
theorem restI_snoc (L l : List Ru) (r : Ru) (d : Tx) : restI L (l ++ [r]) d = if d = r.dst then none else restI L l d := by
  unfold restI
  by_cases h : d = r.dst
  · rw [if_pos h, if_pos ⟨r, by simp, h.symm⟩]
  · rw [if_neg h]
    by_cases h2 : ∃ q ∈ l, q.dst = d
    · rw [if_pos h2]
      obtain ⟨q, hq, e⟩ := h2
      rw [if_pos ⟨q, by simp [hq], e⟩]
    · rw [if_neg h2, if_neg]
      rintro ⟨q, hq, e⟩
      rcases List.mem_append.1 hq with k | k
      · exact h2 ⟨q, k, e⟩
      · rw [List.mem_singleton] at k
        subst k
        exact h e.symm
theorem restI_off {L : List Ru} (h : GoodU L) (s d : Tx) : restI L (ofL L s) d = intoL (offU L s) d := by
  unfold restI
  by_cases h2 : ∃ r ∈ ofL L s, r.dst = d
  · rw [if_pos h2]
    obtain ⟨r, hr, e⟩ := h2
    refine (into_none.2 fun q hq hd => ?_).symm
    obtain ⟨a, b⟩ := mem_offU.1 hq
    have := h.one q a r (mem_ofL.1 hr).1 (hd.trans e.symm)
    rw [this] at b
    exact b (mem_ofL.1 hr).2
  · rw [if_neg h2]
    refine h.into_ext (h.filter _) (fun r hr => ?_)
    show r ∈ L ↔ r ∈ offU L s
    rw [mem_offU]
    exact ⟨fun k => ⟨k, fun e => h2 ⟨r, mem_ofL.2 ⟨k, e⟩, hr⟩⟩, fun k => k.1⟩

set_option maxRecDepth 100000 in
set_option maxHeartbeats 4000000 in
theorem goff_ok (w : World) (x bi bf : Nat) (F : Nat → Prop) (L : List Ru) (s : Tx) (h : GrAt w x bi bf F L) (hL : L.length ≤ 1000) :
    Calls Try.prog 35 #[.pointer (some ⟨x, 0, none⟩), .string (bs s)] w fun e w' => e = .returned (.int .i64 ((ofL L s).length : Int)) ∧ GrTurn w w' x bi bf F F (offU L s) := by
  have hG := Lib.hid (show GoodU (offU L s) from h.good.filter _)
  have hI := Lib.hid (restI_off h.good s)
  have hLen : (ofL L s).length ≤ 1000 := Nat.le_trans (ofL_le _ _) hL
  have M0 := Lib.hid h.mid
  have HFU := Lib.hid h.full
  have c1 := h.mid.cell.c1
  obtain ⟨LF, K, f1, f2, f3⟩ := h.mid.from_
  obtain ⟨a, cap, e0, hr0, hown⟩ := (f3.row s).shape
  have hl : (look LF s).getD (.slice none 0 0) = .slice a (ofL L s).length cap := by rw [f2, ← e0]; rfl
  have HF1 := Lib.hid f1
  have HR0 := Lib.hid hr0
  have HAB := Lib.hid (show ∀ ad, a = some ad → ad.block ≠ bi ∧ ad.block < w.heap.size from fun ad e => by
    obtain ⟨q1, q2, q3⟩ := h.mid.own_ne f3 (hown ad e)
    exact ⟨q2, h.mid.lt _ q1⟩)
  obtain ⟨n, hn⟩ : ∃ n, (ofL L s).length = n := ⟨_, rfl⟩
  have HN := Lib.hid hn
  have Mi := Lib.hid (show MidAt w x bi bf F (restI L ((ofL L s).take 0)) (ofL L) from by
    have e : restI L ((ofL L s).take 0) = intoL L := funext fun d => restI_nil L d
    rw [e]; exact h.mid)
  rw [hn] at hl hLen HR0 ⊢
  clear h hL f1 f2 f3 e0 hr0 hown hn
  go_enter Try.func35, Try.ntmps35
  go_wp2_with (first
    | (at_lookup; refine wpList_lookup_m _ rfl _ _ 61 rfl 9 51 Try.underlying61 Try.underlying9 _ (Try.zeroValue51 _) bf _ rfl HF1.out s _ rfl rfl _ hl ?_))
  clear c1 hl HF1
  go_loopw [22] (fun i wr => ∃ j : Nat, j ≤ n ∧ i = .int .i64 (j : Int) ∧ Hid (MidAt wr x bi bf F (restI L ((ofL L s).take j)) (ofL L)) ∧ Hid (Tu (fun i => i = bi) w wr)) (fun i _ => n - (intOf i).toNat)
  case atStart => exact ⟨0, Nat.zero_le _, rfl, Mi, Lib.hid (.refl _ _)⟩
  case round =>
    clear Mi
    obtain ⟨j, hj, rfl, M, T⟩ := hrel
    by_cases hjn : j < n
    · have hjz : (j : Int) < (n : Int) := by omega
      have hj0 : (0 : Int) ≤ (j : Int) := by omega
      obtain ⟨b, off, e1, hb, x0, x1, x2, x3, x4⟩ := (HR0.out.tu T.out (fun ad e => (HAB.out ad e).1)).at_ j hjn
      subst e1
      have HS := Lib.hid (show restI L ((ofL L s).take (j + 1)) = fun d => if d = (uA (ofL L s) j).dst then none else restI L ((ofL L s).take j) d from by
        rw [take_snoc_u (by rw [HN.out]; exact hjn)]
        exact funext fun d => restI_snoc L _ _ d)
      have B1 := (Below.refl wr.heap.size wr).alloc (Nat.le_refl _) (.cells #[.string (bs (uA (ofL L s) j).src), .string (bs (uA (ofL L s) j).dst), .int .i64 (uA (ofL L s) j).kind, .int .i64 (uA (ofL L s) j).size, .int .i64 (uA (ofL L s) j).align] 31)
      have X1 := BoxU.new 31 wr (uA (ofL L s) j)
      have M1 := M.out.keep B1
      have T1 := T.out.thenB B1
      generalize uA (ofL L s) j = r at *
      go_wp2_with fail
      generalize hW1 : wr.alloc (.cells #[.string (bs r.src), .string (bs r.dst), .int .i64 r.kind, .int .i64 r.size, .int .i64 r.align] 31) = W1 at *
      have HM1 := Lib.hid M1
      have HX1 := Lib.hid X1
      have HT1 := Lib.hid T1
      clear hW1 B1 M1 X1 x0 x1 x2 x3 x4 M T T1
      generalize wr.heap.size = B0 at *
      refine wp_region_still_tail 6 (by kernel_rfl) (by kernel_rfl) ?_
      simp only [List.take_succ_cons, List.take_zero, List.drop_succ_cons, List.drop_zero]
      change wpStill _ _ W1.drew (fun a' => wpList _ _ _ _ a' W1.drew) _ _
      have M2 := Lib.hid (HM1.out.keep ((Below.refl _ W1).drew))
      have X2 := Lib.hid (HX1.out.keep ((Below.refl _ W1).drew))
      have T2 := Lib.hid (HT1.out.trans (Tu.drew (fun i => i = bi) W1) (fun _ _ f => f))
      generalize W1.drew = W2 at *
      clear HM1 HX1 HT1
      have c0 := M2.out.cell.c0
      have x1 := X2.out.x1
      repeat still_step
      refine wpStill_nil ?_
      obtain ⟨LI, i1, i2⟩ := M2.out.into
      have HI1 := Lib.hid i1
      have HI2 := Lib.hid i2
      clear i1 i2
      go_wp2_with (first
        | (at_delete; refine wpList_delete_m _ rfl _ _ 60 9 rfl 31 Try.underlying60 Try.underlying9 bi _ rfl HI1.out r.dst _ rfl rfl ?_; intro w3 hm3 g3 hs3))
      have M3 := Lib.hid (M2.out.turnI g3 (IntoAt.del (J := restI L ((ofL L s).take (j + 1))) HI2.out hm3 (fun d => by rw [HS.out])))
      have T3 := Lib.hid (T2.out.trans (Tu.gb (F := fun i => i = bi) g3 rfl) (fun _ _ f => f))
      clear hm3 g3 hs3 HI1 HI2 M2 X2 T2 c0 x1 HS
      go_wp2
      go_roundw
      case rel => exact ⟨j + 1, by omega, by go_num, M3, T3⟩
      case measure => simp [intOf]; omega
    · have hjz : ¬ (j : Int) < (n : Int) := by omega
      obtain rfl : j = n := by omega
      rw [show (ofL L s).take j = ofL L s from List.take_of_length_le (by rw [HN.out]; exact Nat.le_refl _)] at M
      have M2 := Lib.hid (show MidAt wr x bi bf F (intoL (offU L s)) (ofL L) from by
        have e : restI L (ofL L s) = intoL (offU L s) := funext hI.out
        rw [← e]; exact M.out)
      clear M
      have c1 := M2.out.cell.c1
      obtain ⟨LF2, K2, f1, f2, f3⟩ := M2.out.from_
      have HF1 := Lib.hid f1
      have HF2 := Lib.hid f2
      have HF3 := Lib.hid f3
      clear f1 f2 f3
      go_wp2_with (first
        | (at_delete; refine wpList_delete_m _ rfl _ _ 61 9 rfl 51 Try.underlying61 Try.underlying9 bf _ rfl HF1.out s _ rfl rfl ?_; intro w9 hm9 g9 hs9))
      have M9 := Lib.hid (M2.out.dropO HF2.out HF3.out hm9 g9 (O' := ofL (offU L s)) (fun j => of_off L s j))
      have T9 := Lib.hid ((T.out.mono (G := F) (fun i _ e => e ▸ M0.out.fi)).trans (Tu.gb (F := F) g9 M0.out.ff) (fun _ _ f => f))
      go_ret
      exact ⟨rfl, ⟨M9.out, hG.out, (HFU.out.same (T.out.block bf M0.out.from_.lt (fun e => M0.out.ne e.symm))).dels HF1.out hm9 (fun _ _ h => h) (fun j hj => by rw [of_off, if_neg hj])⟩, fun i f => .inl f, T9.out⟩

end Go.Proofs.Ytlogkhifgkkjeaa
