/-
  Contract of the graph's take: a rule that is there is taken out.
-/
import Derived.Test.YtlogkhifgkkjeaaGPut
import Derived.Test.YtlogkhifgkkjeaaGDel
namespace Go.Proofs.Ytlogkhifgkkjeaa
open Go.RowKit
set_option linter.unusedVariables false
set_option linter.unusedSimpArgs false

def Two (w : World) (x B0 bf : Nat) (s : Tx) : Prop := w.cell? ⟨x, 1, none⟩ = some (mp bf) ∧ w.cell? ⟨B0, 0, none⟩ = some (.string (bs s))
theorem Six.two {w : World} {x B0 bf : Nat} {r : Ru} (h : Six w x B0 bf r) : Two w x B0 bf r.src := ⟨h.1, h.2.1⟩
theorem six_keep {w w' : World} {x B0 bf g : Nat} {r : Ru} (k : Six w x B0 bf r) (h : w.grownBy w' (some g)) (h1 : g ≠ x) (h2 : g ≠ B0) : Six w' x B0 bf r := by
  have t := Tu.gb (F := fun i => i = g) h rfl
  obtain ⟨h0, a1, a2, a3, a4, a5⟩ := k
  exact ⟨t.cell h0 (fun e => h1 (show x = g from e).symm), t.cell a1 (fun e => h2 (show B0 = g from e).symm), t.cell a2 (fun e => h2 (show B0 = g from e).symm), t.cell a3 (fun e => h2 (show B0 = g from e).symm), t.cell a4 (fun e => h2 (show B0 = g from e).symm), t.cell a5 (fun e => h2 (show B0 = g from e).symm)⟩

set_option maxRecDepth 100000 in
set_option maxHeartbeats 4000000 in
theorem gtake_ok (w : World) (x bi bf : Nat) (F : Nat → Prop) (L : List Ru) (r : Ru) (h : GrAt w x bi bf F L) (hL : L.length ≤ 1000) (hr : r ∈ L) :
    Calls Try.prog 34 #[.pointer (some ⟨x, 0, none⟩), ruV r] w fun e w' => e = .returned (.tuple #[]) ∧ ∃ F', GrTurn w w' x bi bf F F' (outU L r) := by
  have hG := Lib.hid (show GoodU (outU L r) from h.good.filter _)
  have hI := Lib.hid (into_out h.good hr)
  have hLen : (ofL L r.src).length ≤ 1000 := Nat.le_trans (ofL_le _ _) hL
  have hrs : r ∈ ofL L r.src := mem_ofL.2 ⟨hr, rfl⟩
  have hl0 : ofL L r.src ≠ [] := fun e => by rw [e] at hrs; cases hrs
  have B1 := (Below.refl w.heap.size w).alloc (Nat.le_refl _) (.cells #[.string (bs r.src), .string (bs r.dst), .int .i64 r.kind, .int .i64 r.size, .int .i64 r.align] 31)
  have X1 := BoxU.new 31 w r
  have M1 := h.mid.keep B1
  have hBx : x < w.heap.size := h.xlt
  have HM0 := Lib.hid h.mid
  have HFU := Lib.hid h.full
  clear h hL hr
  unfold ruV
  go_enter Try.func34, Try.ntmps34
  go_wp2_with fail
  generalize hW1 : w.alloc (.cells #[.string (bs r.src), .string (bs r.dst), .int .i64 r.kind, .int .i64 r.size, .int .i64 r.align] 31) = W1 at *
  have HB1 := Lib.hid B1
  have HM1 := Lib.hid M1
  have HX1 := Lib.hid X1
  clear hW1 B1 M1 X1
  generalize hBB : w.heap.size = B0 at *
  refine wp_region_still_tail 6 (by kernel_rfl) (by kernel_rfl) ?_
  simp only [List.take_succ_cons, List.take_zero, List.drop_succ_cons, List.drop_zero]
  change wpStill _ _ W1.drew (fun a' => wpList _ _ _ _ a' W1.drew) _ _
  have B2 := Lib.hid HB1.out.drew
  have M2 := Lib.hid (HM1.out.keep ((Below.refl _ W1).drew))
  have X2 := Lib.hid (HX1.out.keep ((Below.refl _ W1).drew))
  generalize W1.drew = W2 at *
  clear HB1 HM1 HX1
  have c0 := M2.out.cell.c0
  have x1 := X2.out.x1
  repeat still_step
  refine wpStill_nil ?_
  obtain ⟨LI, i1, i2⟩ := M2.out.into
  have HI1 := Lib.hid i1
  have HI2 := Lib.hid i2
  clear i1 i2
  go_wp2_with (first
    | (at_delete; refine wpList_delete_m _ rfl _ _ 60 9 rfl 31 Try.underlying60 Try.underlying9 bi _ rfl HI1.out r.dst _ rfl rfl ?_; intro w3 hm3 g3 hs3))
  have M3 := Lib.hid (M2.out.turnI g3 (IntoAt.del HI2.out hm3 hI.out))
  have T3 := Lib.hid ((Tu.of (F := F) (by rw [hBB]; exact B2.out)).trans (Tu.gb g3 M2.out.fi) (fun _ _ f => f))
  have HFU3 := Lib.hid (show FullAt w3 bf (ofL L) from HFU.out.same ((g3.block bf M2.out.from_.lt (by simpa using fun e => M2.out.ne e.symm)).trans (B2.out.block bf (by have := HM0.out.from_.lt; omega))))
  have X3 := Lib.hid (X2.out.tu (Tu.gb (F := fun i => i = bi) g3 rfl) (fun e => by have := HM0.out.into.lt; omega))
  clear hm3 g3 hs3 HI1 HI2 M2 X2 B2 c0 x1
  obtain ⟨LF, K, f1, f2, f3⟩ := M3.out.from_
  obtain ⟨g, cap, cur, e0, _⟩ := (f3.row r.src).solid hl0
  have HU := Lib.hid (show URow 31 w3 0 (.slice (some ⟨g, 0, none⟩) (ofL L r.src).length cap) (ofL L r.src) from by rw [← e0]; exact f3.row r.src)
  obtain ⟨m, hm⟩ : ∃ m, (ofL L r.src).length = m := ⟨_, rfl⟩
  have HMl := Lib.hid hm
  rw [hm] at e0 HU hLen
  have hlk : (Instr.lookup 61 (.map (some bf)) (.string (bs r.src)) false).run Try.prog w3.drew = .ok (.slice (some ⟨g, 0, none⟩) m cap) w3.drew := by
    have h := (show MapAt w3.drew bf LF from f1.same rfl).lookup Try.underlying61 Try.underlying9 (Try.zeroValue51 _) r.src false
    rw [h, f2, ← e0]; rfl
  have S3 := Lib.hid (six M3.out.cell X3.out)
  have c1 := S3.out.1
  have x0 := S3.out.2.1
  have HF1 := Lib.hid f1
  have HF2 := Lib.hid f2
  have HF3 := Lib.hid f3
  have HE0 := Lib.hid e0
  obtain ⟨hgF, _, hgf⟩ := M3.out.own_ne f3 (show (kV K r.src).ownBlock = some g from by rw [e0]; rfl)
  have hgx : g ≠ x := fun e => M3.out.nx (e ▸ hgF)
  have hgB : B0 ≠ g := fun e => by have := HM0.out.lt g hgF; omega
  have HDE := Lib.hid (gdel_any g m cap B0 (ofL L r.src) r w3.drew (HU.out.keep (Below.refl _ w3).drew) HMl.out hLen (X3.out.keep (Below.refl _ w3).drew) hgB hrs)
  generalize hO : outU (ofL L r.src) r = O at *
  have HO := Lib.hid hO
  clear f1 f2 f3 e0 hm hO hl0 hrs
  go_wp2_with fail
  have S3d := Lib.hid (six (M3.out.keep (Below.refl _ w3).drew).cell (X3.out.keep (Below.refl _ w3).drew))
  go_region_held3 (fun w' => w'.cell? ⟨x, 1, none⟩ = some (mp bf) ∧ w'.cell? ⟨B0, 0, none⟩ = some (.string (bs r.src)))
    (first
      | exact HE7.out.two
      | exact HE6.out.two
      | go_keep)
    (first
      | (go_at_call 51
         (with_reducible refine HDE.out.mono ?_)
         rintro e W6 ⟨rfl, r6, g6⟩
         have HE6 := Lib.hid (six_keep S3d.out g6 hgx (fun e => hgB e.symm))
         have HM6 := Lib.hid ((HF1.out.keep ((Below.refl _ w3).drew)).gb g6 (fun e => hgf (by cases e; rfl)))
         obtain ⟨w7, hrun7, hm7, g7, hs7⟩ := HM6.out.update (P := Try.prog) Try.underlying61 Try.underlying9 r.src (.slice (some ⟨g, 0, none⟩) O.length cap)
         have HE7 := Lib.hid (cells_map HE6.out g7 HM6.out.isMap))
      | fail)
  all_goals
    have g6' := g6
    rw [show (some g : Option Nat) = (kV K r.src).ownBlock from by rw [HE0.out]; rfl] at g6'
    obtain ⟨e1, e2, e3⟩ := M3.out.putO HF2.out HF3.out ((Below.refl _ w3).drew) g6' r6 (fun q hq => by cases hq; exact .inr (by rw [HE0.out]; rfl)) hm7 g7 (O' := ofL (outU L r)) (fun j => by
      by_cases hj : j = r.src
      · rw [if_pos hj, hj, of_out]; exact HO.out
      · rw [if_neg hj]; exact of_out_ne hj)
    have E1 := Lib.hid e1
    have E2 := Lib.hid (show ∀ i, (F i ∨ (Value.slice (some ⟨g, 0, none⟩) O.length cap).ownBlock = some i) → F i ∨ w.heap.size ≤ i from fun i hi => (e2 i hi).imp id (fun q => Nat.le_trans T3.out.size q))
    have E3 := Lib.hid (T3.out.trans e3 (fun _ _ f => f))
    have HFN := Lib.hid (fun (hs : ofL (outU L r) r.src ≠ []) => HFU3.out.ups HF1.out hm7 (fun j hj => of_out_ne hj) hs)
    have HFE := Lib.hid (fun (W : World) (LF2 : List (Tx × Value)) (m1 : MapAt w7 bf LF2) (m2 : MapAt W bf (dels LF2 r.src)) => show FullAt W bf (ofL (outU L r)) from
      HFU3.out.dels HF1.out m2 (fun k hk hm => by rw [m1.uniq hm7, keys_ups] at hm; exact hm.resolve_left hk) (fun j hj => of_out_ne hj))
    have x0' := HE7.out.2.1
    clear HDE S3 S3d HE6 HE7 HM6 r6 g6 g6' hrun7 hm7 g7 hs7 e1 e2 e3 c1 x0 hlk HF1 HF2 HF3 HE0 HU M3 T3 X3 HO HFU3
    go_wp2_with fail
    refine (isSource_ok w7 x bi bf _ _ r.src E1.out.cell E1.out.from_).mono ?_
    rintro e w' ⟨rfl, rfl⟩
    by_cases hz : ofL (outU L r) r.src ≠ []
    · rw [decide_eq_true hz]
      have HZ := Lib.hid hz
      clear hz
      go_wp2
      go_end0
      exact ⟨rfl, _, ⟨E1.out, hG.out, HFN.out HZ.out⟩, E2.out, E3.out⟩
    · rw [decide_eq_false hz]
      have HZ := Lib.hid (Classical.byContradiction hz)
      clear hz
      go_wp2_with fail
      have X7 := Lib.hid x0'
      refine wp_region_still_tail 6 (by kernel_rfl) (by kernel_rfl) ?_
      simp only [List.take_succ_cons, List.take_zero, List.drop_succ_cons, List.drop_zero]
      change wpStill _ _ w7.drew (fun a' => wpList _ _ _ _ a' w7.drew) _ _
      have M8 := Lib.hid (E1.out.keep (Below.refl _ w7).drew)
      have HFE8 := Lib.hid (fun (W : World) (LF2 : List (Tx × Value)) (m1 : MapAt w7.drew bf LF2) (m2 : MapAt W bf (dels LF2 r.src)) => HFE.out W LF2 (m1.same rfl) m2)
      have x8 : w7.drew.cell? ⟨B0, 0, none⟩ = some (.string (bs r.src)) := x0'
      have t8 := Tu.drew F w7
      clear x0'
      have T8 := Lib.hid (E3.out.trans t8 (fun _ _ f => f))
      clear t8
      generalize w7.drew = W8 at *
      have c1 := M8.out.cell.c1
      repeat still_step
      refine wpStill_nil ?_
      obtain ⟨LF8, K8, f1, f2, f3⟩ := M8.out.from_
      have HF1 := Lib.hid f1
      have HF2 := Lib.hid f2
      have HF3 := Lib.hid f3
      clear f1 f2 f3
      go_wp2_with (first
        | (at_delete; refine wpList_delete_m _ rfl _ _ 61 9 rfl 51 Try.underlying61 Try.underlying9 bf _ rfl HF1.out r.src _ rfl rfl ?_; intro w9 hm9 g9 hs9))
      have M9 := Lib.hid (M8.out.dropO HF2.out HF3.out hm9 g9 (O' := ofL (outU L r)) (fun j => by
        by_cases hj : j = r.src
        · rw [if_pos hj, hj]; exact HZ.out
        · rw [if_neg hj]))
      have T9 := Lib.hid (T8.out.trans (Tu.gb (F := F) g9 HM0.out.ff) (fun _ _ f => f))
      go_end0
      exact ⟨rfl, _, ⟨M9.out, hG.out, HFE8.out _ _ HF1.out hm9⟩, E2.out, T9.out⟩

end Go.Proofs.Ytlogkhifgkkjeaa
