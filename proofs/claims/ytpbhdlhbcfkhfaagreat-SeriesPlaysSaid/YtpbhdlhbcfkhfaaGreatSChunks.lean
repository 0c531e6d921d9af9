/-
  Contracts of series.Chunks and series.Copy.
-/
import Derived.Test.YtpbhdlhbcfkhfaaGreatSSmall
namespace Go.Proofs.YtpbhdlhbcfkhfaaGreat
open Go.RowKit
set_option linter.unusedVariables false
set_option linter.unusedSimpArgs false

/-- A row of ints of the call's own. -/
def IRow (w : World) (base : Nat) (v : Value) (ns : List Int) : Prop := w.ownsRow base 3 1 v ns.length (ns.map fun n => .int .i64 n)
theorem IRow.nil (w : World) (base : Nat) : IRow w base (.slice none 0 0) [] := World.ownsRow_nil w base _ _
theorem info_int : (Tryz.prog.info? 3).map (fun i => (i.zero, i.size, i.bytes)) = some (some (.int .i64 0), 1, 8) := by kernel_rfl
theorem IRow.own {w : World} {base : Nat} {v : Value} {ns : List Int} (h : IRow w base v ns) : ∀ r, v.ownBlock = some r → base ≤ r ∧ ∃ cs f, w.heap[r]? = some (.cells cs 3 f) := by
  intro r hr
  rcases h.2 with ⟨rfl, e⟩ | ⟨g, cap, cur, rfl, hb, hg, _⟩
  · simp [Value.ownBlock] at hr
  · simp [Value.ownBlock] at hr
    subst hr
    exact ⟨hb, _, _, hg⟩
theorem IRow.keepN {w w' : World} {base : Nat} {v : Value} {ns : List Int} (h : IRow w base v ns) (g : w.grownBy w' none) : IRow w' base v ns := by
  refine World.ownsRow.kept h g ?_
  rcases h.2 with ⟨rfl, e⟩ | ⟨g', cap, cur, rfl, hb, hg, _⟩
  · exact .inl rfl
  · exact .inr (by simp [Value.ownBlock])
theorem IRow.keepB {w w' : World} {base : Nat} {v : Value} {ns : List Int} (h : IRow w base v ns) (g : Below w.heap.size w w') : IRow w' base v ns := h.keepN (gb_below g)
theorem IRow.shape {w : World} {base : Nat} {v : Value} {ns : List Int} (h : IRow w base v ns) : ∃ a cap, v = .slice a ns.length cap ∧ ∀ i, i < ns.length → ∃ b, a = some ⟨b, 0, none⟩ ∧ b < w.heap.size ∧ w.cell? ⟨b, i, none⟩ = some (.int .i64 (ns.getD i 0)) := by
  rcases h.2 with ⟨rfl, e⟩ | ⟨g, cap, cur, rfl, hb, hg, hle, hmx, hsz, htk⟩
  · have : ns = [] := List.eq_nil_of_length_eq_zero e
    subst this
    exact ⟨none, 0, rfl, fun i hi => by simp at hi⟩
  · refine ⟨_, cap, rfl, fun i hi => ⟨g, rfl, heap_lt hg, ?_⟩⟩
    have e : (cur.toList.take (ns.length * 1))[i]? = (ns.map fun n => Value.int .i64 n)[i]? := by rw [htk]
    rw [List.getElem?_take, if_pos (by omega), Array.getElem?_toList, List.getElem?_map, List.getElem?_eq_getElem hi] at e
    rw [cell_of hg, e, List.getD_eq_getElem?_getD, List.getElem?_eq_getElem hi]; rfl
theorem wpList_append_int {w : World} {ops : Array Oper} {rest : List Oper} {o : Oper} {a : Act} {Q : Exit → Act → World → Prop} (hw : Region.wanted o (yielded ops a.tmps) = true) (s x : Operand)
    (ho : o.op = .call { callee := .builtin .append, args := #[s, x], argTypes := #[73, 73] })
    (base : Nat) (v : Value) (ns : List Int) (hs : a.eval s = v) (hown : IRow w base v ns) (b c : Nat) (n : Int) (hx : a.eval x = .slice (some ⟨b, 0, none⟩) 1 c) (hl : w.cell? ⟨b, 0, none⟩ = some (.int .i64 n)) (hb : ns.length ≤ 1048576) (hbase : base ≤ w.heap.size)
    (h : ∀ v' w', IRow w' base v' (ns ++ [n]) → w.grownBy w' v.ownBlock → wpList Tryz.prog ops Q rest (a.put o.dst v') w') : wpList Tryz.prog ops Q (o :: rest) a w := by
  obtain ⟨i0, hi, hz0, hz1, hz2⟩ := info_parts info_int
  refine wpList_step fun K hK => ?_
  rw [if_pos hw]
  refine wp_append_own w s x 73 ho base 3 i0 _ 1 8 Tryz.underlying73 hi hz0 hz1 hz2 rfl (by omega) v ns.length _ hs hown ⟨b, 0, none⟩ 1 c [.int .i64 n] hx rfl ?_ (by intro u hu; simp at hu; subst hu; rfl) (by unfold maxLen; omega) (by omega) hbase ?_
  · intro j u hj
    cases j with
    | zero => simp at hj; subst hj; simpa [Addr.add] using hl
    | succ j => simp at hj
  · intro v' w' h2 h3 _
    refine hK _ _ (h v' w' ?_ h3)
    unfold IRow
    rw [List.length_append, List.map_append]; exact h2
theorem Chs.keepI {w w' : World} {sz : Int} {L : List (Nat × List (Int × Int))} {base : Nat} {v : Value} {ns : List Int} (h : Chs w sz L) (hown : IRow w base v ns) (g : w.grownBy w' v.ownBlock) : Chs w' sz L := by
  intro x hx
  cases hv : v.ownBlock with
  | none => rw [hv] at g; exact CAt.keepN (h x hx) g
  | some r =>
    rw [hv] at g
    obtain ⟨_, cs, f, h2⟩ := hown.own r hv
    have hx' := h x hx
    refine CAt.keep hx' g (fun e => ?_) (noSamp_of h2 (by decide))
    obtain ⟨a', cap', hc', _⟩ := hx'
    rw [e, h2] at hc'
    simp at hc'
theorem IRow.bel {w w' w0 : World} {B base : Nat} {v : Value} {ns : List Int} (hb : Below B w0 w) (hs : B ≤ w.heap.size) (hown : IRow w base v ns) (hB : B ≤ base) (g : w.grownBy w' v.ownBlock) : Below B w0 w' :=
  hb.grown g hs (fun k hk => Nat.le_trans hB (hown.own k hk).1)
def ChunksP (Z : List (List (Int × Int))) (w : World) (e : Ending) (w' : World) : Prop := ∃ v, e = .returned v ∧ IRow w' w.heap.size v (Z.map fun z => (usedL z : Int)) ∧ Below w.heap.size w w'

set_option maxRecDepth 100000 in
set_option maxHeartbeats 2000000 in
theorem chunks_mem (b : Nat) (sz ret pol mx line : Int) (L : List (Nat × List (Int × Int))) (w : World) (h : SMem w b sz ret pol mx line L) (hs : 128 ≤ sz) (hLn : L.length ≤ 100000) (hlz : (zs L).flatten.length ≤ 100000) :
    Calls Tryz.prog 48 #[.pointer (some ⟨b, 0, none⟩)] w (ChunksP (zs L) w) := by
  obtain ⟨a, cap, hc, hpt, hk⟩ := h
  have HC := Lib.hid hc
  have HPT := Lib.hid hpt
  have HK := Lib.hid hk
  clear hc hpt hk
  obtain ⟨NL, hNL⟩ : ∃ NL, L.length = NL := ⟨_, rfl⟩
  rw [hNL] at HC HPT hLn
  have HNL := Lib.hid hNL
  clear hNL
  go_enter Tryz.func48, Tryz.ntmps48
  go_wp2_with fail
  refine (slist_cell b sz _ _ _ _ a NL cap w HC.out (by omega)).mono ?_
  rintro e w' ⟨rfl, rfl⟩
  go_wp2_with fail
  go_loopw [3, 9] (fun v i wr => ∃ j : Nat, j ≤ NL ∧ i = .int .i64 (j : Int) ∧ IRow wr w.heap.size v (((zs L).take j).map fun z => (usedL z : Int)) ∧ Below w.heap.size w wr) (fun _ i _ => NL - (intOf i).toNat)
  case atStart => exact ⟨0, Nat.zero_le _, rfl, by simpa using IRow.nil _ _, Below.refl _ _⟩
  case round =>
    obtain ⟨j, hj, rfl, rI, B2⟩ := hrel
    have s2 := B2.size
    by_cases hjn : j < NL
    · obtain ⟨pb, po, hpe, hpb, x0⟩ := HPT.out.at_ j hjn
      subst hpe
      unfold ptr at x0
      have x1 := (B2.cell (p := ⟨pb, po + j, none⟩) hpb).trans x0
      have hjL : j < L.length := by rw [HNL.out]; exact hjn
      have HQ : Hid (PCk wr ((bl L).getD j 0) sz ((zs L).getD j [])) := Lib.hid ((HK.out.keepB B2).get (i := j) hjL)
      have hzl : ((zs L).getD j []).length ≤ 100000 := Nat.le_trans (flat_len_get _ _) hlz
      have HS := Lib.hid (show ((zs L).take (j + 1)).map (fun z => (usedL z : Int)) = ((zs L).take j).map (fun z => (usedL z : Int)) ++ [(usedL ((zs L).getD j []) : Int)] from by
        rw [List.take_succ_eq_append_getElem (by rw [zs_len]; exact hjL), List.map_append, chunk_get (by rw [zs_len]; exact hjL)]; rfl)
      have hlen : (((zs L).take j).map fun z => (usedL z : Int)).length ≤ 1048576 := by rw [List.length_map, List.length_take]; omega
      have hj0 : (0 : Int) ≤ (j : Int) := by omega
      have hj1 : (j : Int) < (NL : Int) := by omega
      generalize ((zs L).take j).map (fun z => (usedL z : Int)) = ns at *
      generalize (bl L).getD j 0 = q at *
      generalize (zs L).getD j [] = z at *
      have HR := Lib.hid rI
      clear x0 rI
      go_wp2_with fail
      refine (used_ok q sz z _ HQ.out (by omega) (by omega)).mono ?_
      rintro e W3 ⟨rfl, b3⟩
      have r3 := (HR.out.keepB b3).keepN (World.grownBy_alloc W3 (.cells #[.int .i64 (usedL z : Int)] 3) none)
      have B3 := B2.trans (b3.mono s2)
      have B4 := B3.alloc B3.size (.cells #[.int .i64 (usedL z : Int)] 3)
      have n4 : (W3.alloc (.cells #[.int .i64 (usedL z : Int)] 3)).cell? ⟨W3.heap.size, 0, none⟩ = some (.int .i64 (usedL z : Int)) := by rw [cell_of (heap_new W3 _)]; rfl
      have s4 := B4.size
      clear b3 B3 x1
      go_wp2_with (at_builtin; (refine wpList_append_int ?_ (.tmp 13) (.tmp 16) rfl w.heap.size _ ns rfl r3 W3.heap.size 1 (usedL z : Int) rfl n4 hlen s4 ?_))
      intro v5 W5 r5 g5
      have B5 := r3.bel B4 s4 (Nat.le_refl _) g5
      have HR5 := Lib.hid r5
      clear r3 B4 n4 s4 r5 g5
      go_wp2
      go_roundw
      case rel => exact ⟨j + 1, by omega, by go_num, by rw [HS.out]; exact HR5.out, B5⟩
      case measure => simp [intOf]; omega
    · obtain rfl : NL = j := by omega
      have HT := Lib.hid (show (zs L).take NL = zs L from by rw [← HNL.out, ← zs_len, List.take_length])
      rw [HT.out] at rI
      go_wp2
      go_ret
      exact ⟨_, rfl, rI, B2⟩

end Go.Proofs.YtpbhdlhbcfkhfaaGreat
