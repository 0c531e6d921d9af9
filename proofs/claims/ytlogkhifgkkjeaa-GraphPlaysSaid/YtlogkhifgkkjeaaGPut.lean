/-
  Contract of the graph's put: a rule that is not there is laid in.
-/
import Derived.Test.YtlogkhifgkkjeaaGSearch
import Derived.Test.YtlogkhifgkkjeaaGIns
import Derived.StillTailTactics
namespace Go.Proofs.Ytlogkhifgkkjeaa
open Go.RowKit
set_option linter.unusedVariables false
set_option linter.unusedSimpArgs false

/-- A source's row is no map, nor the graph's cell. -/
theorem MidAt.own_ne {w : World} {x bi bf : Nat} {F : Nat → Prop} {I : Tx → Option Ru} {O : Tx → List Ru} {K : Tx → Option Value} (h : MidAt w x bi bf F I O) (h3 : RowsAt w F O K) {s : Tx} {g : Nat} (e : (kV K s).ownBlock = some g) : F g ∧ g ≠ bi ∧ g ≠ bf := by
  refine ⟨h3.ownV e, ?_⟩
  unfold kV at e
  cases e3 : K s with
  | none => rw [e3] at e; cases e
  | some z =>
    rw [e3] at e
    obtain ⟨cs, f, hcs⟩ := h3.cells e3 e
    constructor
    · intro q
      obtain ⟨es, c, hmm⟩ := h.into.isMap
      rw [q, hmm] at hcs; cases hcs
    · intro q
      obtain ⟨es, c, hmm⟩ := h.from_.isMap
      rw [q, hmm] at hcs; cases hcs
/-- The cells that a region loads, behind an insertion, behind a map's turning. -/
def Six (w : World) (x B0 bf : Nat) (r : Ru) : Prop := w.cell? ⟨x, 1, none⟩ = some (mp bf) ∧ w.cell? ⟨B0, 0, none⟩ = some (.string (bs r.src)) ∧ w.cell? ⟨B0, 1, none⟩ = some (.string (bs r.dst)) ∧ w.cell? ⟨B0, 2, none⟩ = some (.int .i64 r.kind) ∧ w.cell? ⟨B0, 3, none⟩ = some (.int .i64 r.size) ∧ w.cell? ⟨B0, 4, none⟩ = some (.int .i64 r.align)
theorem six {w : World} {x B0 bi bf : Nat} {r : Ru} (h : GrCell w x bi bf) (k : BoxU 31 w B0 r) : Six w x B0 bf r := ⟨h.c1, k.x0, k.x1, k.x2, k.x3, k.x4⟩
theorem cells_far {w w' : World} {x B0 bi bf : Nat} {r : Ru} {v : Value} {n : Nat} (k : BoxU 31 w B0 r) (h : GrCell w x bi bf) (g : w.grownBy w' v.ownBlock) (hf : ∀ g, v.ownBlock = some g → g < n ∧ g ≠ B0 ∧ g ≠ x ∧ g ≠ bf) : Six w' x B0 bf r := by
  have t : Tu (fun i => v.ownBlock = some i) w w' := .gbo g (fun b e => e)
  exact six (h.tu t (fun e => (hf _ e).2.2.1 rfl)) (k.tu t (fun e => (hf _ e).2.1 rfl))
theorem cells_map {w w' : World} {x B0 b bf : Nat} {r : Ru} (k : Six w x B0 bf r) (g : w.grownBy w' (some b)) (hb : ∃ es c, w.heap[b]? = some (.map es c)) : Six w' x B0 bf r := by
  have t := Tu.gb (F := fun i => i = b) g rfl
  have hne : ∀ a v, w.cell? a = some v → ¬ (fun i => i = b) a.block := fun a v hc e => by
    obtain ⟨es, c, hm⟩ := hb
    unfold World.cell? at hc
    rw [show a.block = b from e, hm] at hc
    cases hc
  obtain ⟨h0, h1, h2, h3, h4, h5⟩ := k
  exact ⟨t.cell h0 (hne _ _ h0), t.cell h1 (hne _ _ h1), t.cell h2 (hne _ _ h2), t.cell h3 (hne _ _ h3), t.cell h4 (hne _ _ h4), t.cell h5 (hne _ _ h5)⟩

theorem bsearch_x (a : Option Addr) (n c : Nat) (l : List Ru) (d : Tx) (w : World) (h : RuAt w a n c l) (hn : n ≤ 1000) (hs : l.Pairwise (fun a b => a.dst < b.dst)) (k : Nat) (hk : atU l d = k) :
    Calls Try.prog 47 #[.slice a n c, .string (bs d), .func (.func 48) #[] #[]] w (SeaP k w) := by
  subst hk; exact bsearch_any a n c l d w h hn hs

set_option maxRecDepth 100000 in
set_option maxHeartbeats 4000000 in
theorem gput_ok (w : World) (x bi bf : Nat) (F : Nat → Prop) (L : List Ru) (r : Ru) (h : GrAt w x bi bf F L) (hL : L.length ≤ 900) (hr : addE L r = 0) :
    Calls Try.prog 32 #[.pointer (some ⟨x, 0, none⟩), ruV r] w fun e w' => e = .returned (.tuple #[]) ∧ ∃ F', GrTurn w w' x bi bf F F' (insU r L) := by
  have hG := Lib.hid (h.good.ins hr)
  have hO := Lib.hid (fun j => of_ins_ne (s := j) h.good hr)
  have hS := Lib.hid (of_ins h.good hr)
  have hI := Lib.hid (into_ins h.good hr)
  have hD := Lib.hid (of_dst h.good r.src)
  have hLen : (ofL L r.src).length ≤ 900 := Nat.le_trans (ofL_le _ _) hL
  have B1 := (Below.refl w.heap.size w).alloc (Nat.le_refl _) (.cells #[.string (bs r.src), .string (bs r.dst), .int .i64 r.kind, .int .i64 r.size, .int .i64 r.align] 31)
  have X1 := BoxU.new 31 w r
  have M1 := h.mid.keep B1
  have hBx : x < w.heap.size := h.xlt
  have HM0 := Lib.hid h.mid
  have HFU := Lib.hid h.full
  clear h hL hr
  unfold ruV
  go_enter Try.func32, Try.ntmps32
  go_wp2_with fail
  generalize hW1 : w.alloc (.cells #[.string (bs r.src), .string (bs r.dst), .int .i64 r.kind, .int .i64 r.size, .int .i64 r.align] 31) = W1 at *
  have HB1 := Lib.hid B1
  have HM1 := Lib.hid M1
  have HX1 := Lib.hid X1
  clear hW1 B1 M1 X1
  generalize hBB : w.heap.size = B0 at *
  refine wp_region_still_tail 7 (by kernel_rfl) (by kernel_rfl) ?_
  simp only [List.take_succ_cons, List.take_zero, List.drop_succ_cons, List.drop_zero]
  change wpStill _ _ W1.drew (fun a' => wpList _ _ _ _ a' W1.drew) _ _
  have B2 := Lib.hid HB1.out.drew
  have M2 := Lib.hid (HM1.out.keep ((Below.refl _ W1).drew))
  have X2 := Lib.hid (HX1.out.keep ((Below.refl _ W1).drew))
  generalize W1.drew = W2 at *
  clear HB1 HM1 HX1
  have c0 := M2.out.cell.c0
  have x0 := X2.out.x0
  have x1 := X2.out.x1
  have x2 := X2.out.x2
  have x3 := X2.out.x3
  have x4 := X2.out.x4
  repeat still_step
  refine wpStill_nil ?_
  obtain ⟨LI, i1, i2⟩ := M2.out.into
  have HI1 := Lib.hid i1
  have HI2 := Lib.hid i2
  clear i1 i2
  go_wp2_with (first
    | (at_mapUpdate; refine wpList_mapUpdate_m _ rfl _ _ _ 60 rfl 9 31 Try.underlying60 Try.underlying9 bi _ rfl HI1.out r.dst _ rfl rfl (ruV r) rfl ?_; intro w3 hm3 g3 hs3))
  have M3 := Lib.hid (M2.out.turnI g3 (IntoAt.put HI2.out hm3 hI.out))
  have T3 := Lib.hid ((Tu.of (F := F) (by rw [hBB]; exact B2.out)).trans (Tu.gb g3 M2.out.fi) (fun _ _ f => f))
  have HFU3 := Lib.hid (show FullAt w3 bf (ofL L) from HFU.out.same ((g3.block bf M2.out.from_.lt (by simpa using fun e => M2.out.ne e.symm)).trans (B2.out.block bf (by have := HM0.out.from_.lt; omega))))
  have X3 := Lib.hid (X2.out.tu (Tu.gb (F := fun i => i = bi) g3 rfl) (fun e => by have := HM0.out.into.lt; omega))
  clear hm3 g3 hs3 HI1 HI2 M2 X2 B2 c0 x0 x1 x2 x3 x4
  obtain ⟨LF, K, f1, f2, f3⟩ := M3.out.from_
  obtain ⟨a, cap, e0, hr0, _⟩ := (f3.row r.src).shape
  have hlk : ∀ n, (Instr.lookup 61 (.map (some bf)) (.string (bs r.src)) false).run Try.prog (w3.drewN n) = .ok (.slice a (ofL L r.src).length cap) (w3.drewN n) := fun n => by
    have h := (show MapAt (w3.drewN n) bf LF from f1.same rfl).lookup Try.underlying61 Try.underlying9 (Try.zeroValue51 _) r.src false
    rw [h, f2, ← e0]; rfl
  have c1 := M3.out.cell.c1
  have x0 := X3.out.x0
  have x1 := X3.out.x1
  have HF1 := Lib.hid f1
  have HF2 := Lib.hid f2
  have HF3 := Lib.hid f3
  have HE0 := Lib.hid e0
  have HR0 := Lib.hid hr0
  obtain ⟨m, hm⟩ : ∃ m, (ofL L r.src).length = m := ⟨_, rfl⟩
  have HMl := Lib.hid hm
  rw [hm] at hlk hLen HE0 HR0
  clear f1 f2 f3 e0 hr0 hm
  go_quiet (fail)
  have hd4 : Below w3.heap.size w3 (w3.drewN nq) := gb_below_none ((show Drew w3 (w3.drewN nq) from ⟨nq, rfl⟩).gb none)
  generalize w3.drewN nq = W4 at *
  clear hlk c1 x0 x1
  obtain ⟨p, hp⟩ : ∃ p, atU (ofL L r.src) r.dst = p := ⟨_, rfl⟩
  have hpm : p ≤ m := by rw [← hp, ← HMl.out]; exact atU_le _ _
  have HSE := Lib.hid (fun W (hW : RuAt W a m cap (ofL L r.src)) => bsearch_x a m cap (ofL L r.src) r.dst W hW (by omega) hD.out p hp)
  rw [hp] at hS
  clear hp
  have X4 := Lib.hid (X3.out.keep hd4)
  have x1 := X4.out.x1
  have R4 := Lib.hid (HR0.out.keep hd4)
  go_wp2_with fail
  refine (HSE.out _ R4.out).mono ?_
  rintro e w5 ⟨fnd, rfl, b5⟩
  have B5 := Lib.hid (hd4.trans (b5.mono hd4.size))
  clear x1 X4 R4 HSE hd4 b5
  have X5 := Lib.hid (X3.out.keep B5.out)
  have x0 := X5.out.x0
  have x1 := X5.out.x1
  have x2 := X5.out.x2
  have x3 := X5.out.x3
  have x4 := X5.out.x4
  have c1 := (M3.out.keep B5.out).cell.c1
  have hB05 : B0 < w5.heap.size := X5.out.lt
  have B6 := Lib.hid (show Below w3.heap.size w3 (w5.alloc (.cells #[.string (bs r.src), .string (bs r.dst), .int .i64 r.kind, .int .i64 r.size, .int .i64 r.align] 31)).drew from (B5.out.alloc B5.out.size _).drew)
  have X6 := Lib.hid (show BoxU 31 (w5.alloc (.cells #[.string (bs r.src), .string (bs r.dst), .int .i64 r.kind, .int .i64 r.size, .int .i64 r.align] 31)).drew w5.heap.size r from BoxU.new 31 w5 r)
  have R6 := Lib.hid (show URow 31 (w5.alloc (.cells #[.string (bs r.src), .string (bs r.dst), .int .i64 r.kind, .int .i64 r.size, .int .i64 r.align] 31)).drew 0 (.slice a m cap) (ofL L r.src) from by
    have h := (HF3.out.row r.src).keep B6.out
    rw [HE0.out] at h
    exact h)
  have HOW := Lib.hid (show ∀ g, (Value.slice a m cap).ownBlock = some g → g < w3.heap.size ∧ g ≠ B0 ∧ g ≠ x ∧ g ≠ bf from fun g hg => by
    rw [← HE0.out] at hg
    obtain ⟨hf, h1, h2⟩ := M3.out.own_ne HF3.out hg
    refine ⟨M3.out.lt g hf, fun e => ?_, fun e => M3.out.nx (e ▸ hf), h2⟩
    have := HM0.out.lt g hf
    omega)
  have HIN := Lib.hid (gins_any (.slice a m cap) w5.heap.size p (ofL L r.src) r _ R6.out (by rw [HMl.out]; exact hpm) (by rw [HMl.out]; omega) X6.out (fun e => by
    have := (HOW.out _ e).1
    have := B5.out.size
    omega))
  have X6b := Lib.hid (X3.out.keep B6.out)
  have C6b := Lib.hid ((M3.out.keep B6.out).cell)
  go_wp2_with fail
  go_region_held3 (fun w' => w'.cell? ⟨x, 1, none⟩ = some (mp bf) ∧ w'.cell? ⟨B0, 0, none⟩ = some (.string (bs r.src)) ∧ w'.cell? ⟨B0, 1, none⟩ = some (.string (bs r.dst)) ∧ w'.cell? ⟨B0, 2, none⟩ = some (.int .i64 r.kind) ∧ w'.cell? ⟨B0, 3, none⟩ = some (.int .i64 r.size) ∧ w'.cell? ⟨B0, 4, none⟩ = some (.int .i64 r.align))
    (first
      | exact HE7.out
      | exact HE6.out
      | go_keep)
    (first
      | (go_at_call 49
         (with_reducible refine HIN.out.mono ?_)
         rintro e W6 ⟨v', rfl, r6, g6, n6⟩
         have HE6 := Lib.hid (cells_far X6b.out C6b.out g6 HOW.out)
         have HM6 := Lib.hid ((HF1.out.keep B6.out).gb g6 (fun e => (HOW.out _ e.symm).2.2.2 rfl))
         obtain ⟨w7, hrun7, hm7, g7, hs7⟩ := HM6.out.update (P := Try.prog) Try.underlying61 Try.underlying9 r.src v'
         have HE7 := Lib.hid (cells_map HE6.out g7 HM6.out.isMap))
      | fail)
  rw [← HE0.out] at g6 n6
  obtain ⟨e1, e2, e3⟩ := M3.out.putO HF2.out HF3.out B6.out g6 r6 n6 hm7 g7 (O' := ofL (insU r L)) (fun j => by
    by_cases hj : j = r.src
    · rw [if_pos hj, hj]; exact hS.out
    · rw [if_neg hj]; exact hO.out j hj)
  have E := Lib.hid (show GrTurn w w7 x bi bf F (fun i => F i ∨ v'.ownBlock = some i) (insU r L) from
    ⟨⟨e1, hG.out, HFU3.out.ups HF1.out hm7 hO.out (by rw [hS.out]; simp)⟩, fun i hi => (e2 i hi).imp id (fun q => Nat.le_trans T3.out.size q), T3.out.trans e3 (fun _ _ f => f)⟩)
  clear HIN X6b C6b HE6 HE7 HM6 r6 g6 n6 hrun7 hm7 g7 hs7 e1 e2 e3 R6 X6 B6 c1 x0 x1 x2 x3 x4
  go_end0
  exact ⟨rfl, _, E.out⟩

end Go.Proofs.Ytlogkhifgkkjeaa
