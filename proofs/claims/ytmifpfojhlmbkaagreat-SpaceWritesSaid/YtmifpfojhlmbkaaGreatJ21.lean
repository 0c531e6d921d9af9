/-
  Contracts.
-/
import Derived.Test.YtmifpfojhlmbkaaGreatJ13
import Derived.Test.YtmifpfojhlmbkaaGreatJ18
import Derived.Test.YtmifpfojhlmbkaaGreatJ20
import Derived.ArgAppend
namespace Go.Proofs.YtmifpfojhlmbkaaGreat
open Lib (hid)
set_option maxRecDepth 100000
set_option maxHeartbeats 16000000
open Go.RowKit Go.Shelf
set_option linter.unusedVariables false
set_option linter.unusedSimpArgs false
attribute [local go_sem] Oper.semAt_some
def encS (x : Int × Int) : Array Value := #[.agg #[.int .i64 x.1, .int .i64 x.2]]
theorem add_at (b off j : Nat) : Addr.add ⟨b, off, none⟩ j = ⟨b, off + j, none⟩ := by simp [Addr.add]
theorem cell_two_new {W : World} {x y : Value} {t : TypeId} : ∀ j u, [x, y][j]? = some u → (W.alloc (.cells #[x, y] t)).cell? ((⟨W.heap.size, 0, none⟩ : Addr).add j) = some u := by
  intro j u hj
  have h : (W.alloc (.cells #[x, y] t)).heap[W.heap.size]? = some (.cells #[x, y] t (0, 0)) := heap_new W _
  rw [add_at, Nat.zero_add, cell_of h, ← hj]
  simp
theorem ownsRow_from {w : World} {base : Nat} {e : TypeId} {size : Nat} {v : Value} {n : Nat} {xs : List Value} (h : w.ownsRow base e size v n xs) {k : Nat} (hk : v.ownBlock = some k) : base ≤ k ∧ ∃ c f, w.heap[k]? = some (.cells c e f) := by
  rcases h.2 with ⟨rfl, _⟩ | ⟨g, cap, cur, rfl, hb, hg, _⟩
  · simp [Value.ownBlock] at hk
  · simp [Value.ownBlock] at hk
    subst hk
    exact ⟨hb, _, _, hg⟩
theorem run_append_far {P : Program} (w : World) (base : Nat) (t ty e : TypeId) (i : TypeInfo) (z : Value) (size bytes : Nat) (ht : P.underlying t = some (.slice e)) (hi : P.info? e = some i) (hz : i.zero = some z)
    (hsize : i.size = size) (hby : i.bytes = bytes) (hzs : z.cells.size = size) (hsz : 0 < size)
    (v : Value) (n : Nat) (xs : List Value) (hown : w.ownsRow base e size v n xs)
    (a : Addr) (m c : Nat) (news : List Value) (hl : news.length = m * size) (hnews : ∀ j u, news[j]? = some u → w.cell? (a.add j) = some u) (h1 : ∀ u ∈ news, u.oneCell' = true)
    (h63 : n + m ≤ maxLen) (hbytes : (n + m) * bytes ≤ 140737488355328) (hbase : base ≤ w.heap.size) :
    ∃ v' w', (Builtin.append_ #[t, t] ty #[v, .slice (some a) m c]).run P w = .ok v' w' ∧ w'.ownsRow base e size v' (n + m) (xs ++ news) ∧ w.grownBy w' v.ownBlock ∧ (∀ k, v'.ownBlock = some k → v.ownBlock = some k ∨ w.heap.size ≤ k) := by
  obtain ⟨v', w', hr, ho, hg, _⟩ := run_append_own (P := P) w base t ty e i z size bytes ht hi hz hsize hby hzs hsz v n xs hown a m c news hl hnews h1 h63 hbytes hbase
  refine ⟨v', w', hr, ho, hg, fun k hk => ?_⟩
  rcases hown.2 with ⟨rfl, h0⟩ | ⟨g, cap, cur, rfl, hb, hgc, hle, hmx, hcs, htk⟩
  · subst h0
    obtain ⟨v2, w2, hr2, ho2, _⟩ := run_append_own (P := P) w w.heap.size t ty e i z size bytes ht hi hz hsize hby hzs hsz (.slice none 0 0) 0 xs ⟨hown.1, .inl ⟨rfl, rfl⟩⟩ a m c news hl hnews h1 h63 hbytes (Nat.le_refl _)
    rw [hr] at hr2
    simp only [Result.ok.injEq] at hr2
    rw [← hr2.1] at ho2
    exact .inr (ownsRow_from ho2 hk).1
  · by_cases hroom : n + m ≤ cap
    · obtain ⟨w2, hr2, _⟩ := run_append_fits (P := P) w base t ty e i size ht hi hsize g n cap xs hown a m c news hl hnews h1 hroom
      rw [hr] at hr2
      simp only [Result.ok.injEq] at hr2
      rw [hr2.1] at hk
      exact .inl hk
    · obtain ⟨v2, w2, hr2, ho2, _⟩ := run_append_arg_grows (P := P) w t ty e i z size bytes ht hi hz hsize hby hzs hsz ⟨g, 0, none⟩ n cap xs hown.1 (by
        intro j u hj
        have hjl : j < n * size := by rw [← hown.1]; exact (List.getElem?_eq_some_iff.1 hj).1
        rw [add_at, Nat.zero_add, cell_of hgc]
        rw [← htk, List.getElem?_take, if_pos hjl, Array.getElem?_toList] at hj
        exact hj) a m c news hl hnews (by omega) h63 hbytes
      rw [hr] at hr2
      simp only [Result.ok.injEq] at hr2
      rw [← hr2.1] at ho2
      exact .inr (ownsRow_from ho2 hk).1
theorem wpListIn_append_far {F : Fence} {n : Nat} {P : Program} (w : World) {ops : Array Oper} {rest : List Oper} {o : Oper} {a : Act} {Q : Exit → Act → World → Prop}
    (hg : o.guard = none) (s x : Operand) (t : TypeId) (hop : o.op = Op.call { callee := Callee.builtin Builtin.append, args := #[s, x], argTypes := #[t, t] })
    (base : Nat) (e : TypeId) (i : TypeInfo) (z : Value) (size bytes : Nat) (h1 : P.underlying t = some (.slice e)) (h2 : P.info? e = some i) (h3 : i.zero = some z) (h4 : i.size = size) (h5 : i.bytes = bytes) (h6 : z.cells.size = size) (h7 : 0 < size)
    (v : Value) (k : Nat) (xs : List Value) (hs : a.eval s = v) (hown : w.ownsRow base e size v k xs) (ad : Addr) (m c : Nat) (news : List Value) (hx : a.eval x = .slice (some ad) m c) (hn : news.length = m * size)
    (hc : ∀ j u, news[j]? = some u → w.cell? (ad.add j) = some u) (h1c : ∀ u ∈ news, u.oneCell' = true) (b1 : k + m ≤ maxLen) (b2 : (k + m) * bytes ≤ 140737488355328) (b3 : base ≤ w.heap.size)
    (hK : ∀ v' w', w'.ownsRow base e size v' (k + m) (xs ++ news) → w.grownBy w' v.ownBlock → (∀ j, v'.ownBlock = some j → v.ownBlock = some j ∨ w.heap.size ≤ j) → wpListIn F n P ops Q rest (a.put o.dst v') w') :
    wpListIn F n P ops Q (o :: rest) a w := by
  refine wpListIn_plain hg fun K hK' => ?_
  obtain ⟨v', w', hrun, r1, r2, r3⟩ := run_append_far (P := P) w base t o.type e i z size bytes h1 h2 h3 h4 h5 h6 h7 v k xs hown ad m c news hn hc h1c b1 b2 b3
  unfold Oper.wpIn
  refine ⟨?_, ?_⟩
  · simp [Oper.about, hop, resolve, Target.leads, Sem.run_pure]
  · rw [Oper.semAt_plain F _ _ (by rw [hop]; intro c hc'; cases hc')]
    simp [execOp, hop, resolve, invoke, builtin, hs, hx, hrun, Result.andThen]
    exact hK' _ _ (hK v' w' r1 r2 r3)
def GM (B : Nat) (W : World) (k : Nat) : Prop := k = B ∨ ∃ v, Boxed W B 52 v ∧ v.ownBlock = some k
def GI (w : World) (pre : List (Int × Int)) (W : World) : Prop := (∃ v, Boxed W w.heap.size 52 v ∧ W.ownsRow w.heap.size 27 2 v pre.length (smpCells pre) ∧ True) ∧ Below w.heap.size w W
theorem GI.own (w : World) {B : Nat} (hB : w.heap.size ≤ B) : OwnFrom B (GI w) :=
  OwnFrom.and (Own.from (holdsRow_own w.heap.size w.heap.size 52 27 2 (fun pre : List (Int × Int) => pre.length) (fun pre => smpCells pre) (fun _ _ => True)) _) (ownFrom_below (Nat.le_refl _) hB)
theorem boxed_eq {W : World} {B : Nat} {t : TypeId} {u v : Value} (h : Boxed W B t u) (k : Boxed W B t v) : u = v := by
  have h1 : W.heap[B]? = _ := h
  rw [show W.heap[B]? = _ from k] at h1
  simpa using h1.symm
theorem GM.ok (w : World) {B : Nat} (hB : w.heap.size ≤ B) : MineOk B (GI w) (GM w.heap.size) := by
  refine ⟨?_, ?_⟩
  · rintro pre X Y row k ⟨⟨v, hv, hrow, _⟩, _⟩ hg hr (rfl | ⟨u, hu, hk⟩)
    · exact .inl rfl
    · have hY : Boxed Y w.heap.size 52 v := hv.kept hg (fun e => by
        obtain ⟨_, o, ho, hc⟩ := hr _ e.symm
        rw [show X.heap[w.heap.size]? = _ from hv] at ho; cases ho; cases hc)
      rw [boxed_eq hu hY] at hk
      exact .inr ⟨v, hv, hk⟩
  · rintro pre X k ⟨⟨v, hv, hrow, _⟩, _⟩ (rfl | ⟨u, hu, hk⟩)
    · exact ⟨_, hv, rfl⟩
    · rw [boxed_eq hu hv] at hk
      obtain ⟨h1, c, f, h2⟩ := ownsRow_from hrow hk
      exact ⟨_, h2, rfl⟩
theorem gathered_any (gf : Nat) (lb : Array Value) (xs : List (Int × Int)) (w : World) (eg : ∀ args w, (callFunc gf args).run Tryz.prog w = .ok (.enter gf args) w) (R : Nat → Prop) (hR : ∀ k, R k → k < w.heap.size) (hseq : SeqAll gf lb encS xs R w) (hn : xs.length ≤ 100000) (hx : All64 xs) :
    Calls Tryz.prog 66 #[.func (.func gf) #[] lb] w (LaidP xs w) := by
  obtain ⟨i0, hi, hz0, hz1, hz2⟩ := info_parts info_samp
  refine (callsIn_wide (n := 0)).1 ?_
  refine callsIn_of_wp_marks Tryz.func66 rfl trivial ?_ rfl
  simp only [Tryz.ntmps66, List.size_toArray, List.length_cons, List.length_nil, Nat.reduceAdd, Nat.reduceSub, Array.replicate_succ, Array.replicate_zero, List.push_toArray, List.append_toArray, List.nil_append, List.cons_append]
  gi_wp2
  have bO := Boxed.new w 52 (.slice none 0 0)
  have hB0 : Below w.heap.size w (w.alloc (.cells #[.slice none 0 0] 52)) := (Below.refl _ w).alloc (Nat.le_refl _) _
  refine range_out (gf := gf) (lb := lb) rfl eg hseq hB0 (fun _ => rfl) (GI w) (GM w.heap.size) (GI.own w (by simp)) (GM.ok w (by simp))
    (fun k hk e => by
      have hk' := hR k hk
      rcases e with e | ⟨u, hu, e⟩
      · omega
      · rw [boxed_eq hu bO] at e; simp [Value.ownBlock] at e)
    ⟨⟨_, bO, World.ownsRow_nil _ _ _ _, trivial⟩, hB0⟩
    (fun x a' W => ∃ Bx, w.heap.size < Bx ∧ W.heap[Bx]? = some (.cells #[.int .i64 x.1, .int .i64 x.2] 27 (0, 0)) ∧ a' = { tmps := #[.func (.func gf) #[] lb, undef, .slice none 0 0, .pointer (some ⟨w.heap.size, 0, none⟩), .pointer (some ⟨Bx, 0, none⟩), .func (.func gf) #[] lb, .agg #[.int .i64 x.1, .int .i64 x.2], undef, undef, undef, undef, undef], defers := [] })
    ?hAx ?assign ?body ?done
  case hAx =>
    rintro x a' _ X Y row ⟨Bx, h1, h2, h3⟩ hg hr
    refine ⟨Bx, h1, ?_, h3⟩
    rw [hg.block Bx (heap_lt h2) (fun e => ?_)]
    · exact h2
    · obtain ⟨_, o, ho, hc⟩ := hr Bx e.symm
      rw [h2] at ho; cases ho; cases hc
  case assign =>
    rintro m l pre x rest W K hxs ⟨⟨v, hv, hrow, _⟩, hB⟩ hK
    unfold encS
    gi_wp2
    exact hK _ _ (World.grownBy_alloc W _ none) ⟨⟨v, hv.alloc _, hrow.alloc _, trivial⟩, hB.alloc hB.size _⟩ ⟨W.heap.size, hv.lt, heap_new W _, rfl⟩
  case body =>
    rintro m l pre x rest a' W hxs hl ⟨r, hr⟩ ⟨⟨v, hv, hrow, _⟩, hB⟩ ⟨Bx, hBx, hX, rfl⟩
    have hc := hv.cell
    have x0 : W.cell? ⟨Bx, 0, none⟩ = some (.int .i64 x.1) := by rw [cell_of hX]; rfl
    have x1 : W.cell? ⟨Bx, 1, none⟩ = some (.int .i64 x.2) := by rw [cell_of hX]; rfl
    have hpl : pre.length < 100000 := by rw [hxs] at hn; simp at hn; omega
    have hsB := hB.size
    gi_wp2_with (gi_at_builtin; refine wpListIn_append_far _ rfl _ _ 52 rfl w.heap.size 27 i0 _ 2 16 Tryz.underlying52 hi hz0 hz1 hz2 rfl (by decide) _ _ _ rfl (hrow.alloc _) ⟨W.heap.size, 0, none⟩ 1 1 [.int .i64 x.1, .int .i64 x.2] rfl rfl cell_two_new (by simp [Value.oneCell']) (by unfold maxLen; omega) (by omega) (by simp; omega) ?_; intro v' w1 hown' hgrow hfar; obtain ⟨g', cap', rfl⟩ := ownsRow_succ hown'; obtain ⟨hv1, hv2, hr2, hk2, hb2⟩ := hv.appended (by decide) hrow hB.size (Nat.le_refl _) hown' hgrow; have hc1 := hv1.cell; have hf1 := hv1.frozen)
    refine ⟨⟨hb2.os, hb2.tape, hb2.output, hb2.size, fun k hk hm => ⟨?_, ?_⟩⟩, ⟨_, hv2, by rw [smpCells_snoc, List.length_append]; exact hr2, trivial⟩, hB.trans hb2⟩
    · have hkB : k ≠ w.heap.size := fun e => hm (.inl e)
      rw [heap_set_ne hkB, hgrow.block k (by simp; omega) (fun e => hm (.inr ⟨v, hv, e.symm⟩))]
      exact Below.heap_alloc _ _ _ hk
    · rintro (e | ⟨u, hu, e⟩)
      · exact hm (.inl e)
      · rw [boxed_eq hu hv2] at e
        rcases hfar k e with h | h
        · exact hm (.inr ⟨v, hv, h⟩)
        · simp at h; omega
  case done =>
    rintro D W hD ⟨⟨v, hv, hrow, _⟩, hB⟩ hK
    have hc := hv.cell
    gi_wp2
    refine ⟨by simp, .inl ⟨_, _, rfl, run_takeDeferred hK, ?_⟩⟩
    obtain ⟨ad, cp, rfl, hlst⟩ := owns_lst rfl hx (by omega) (ownsRow_putObj hrow (.deferred none) hK rfl)
    exact ⟨_, results_tmp rfl _ _ _, ad, cp, rfl, hlst, hB.trans ((Below.refl _ W).grown (grownBy_putObj' W D _) (Nat.le_trans hB.size (Nat.le_refl _)) (fun k e => by cases e; simp at hD; omega))⟩
open Go.RowKit
theorem last_flat {Z : List (List (Int × Int))} (h0 : 0 < Z.length) (hn : ∀ z ∈ Z, z ≠ []) : tOf Z.flatten (Z.flatten.length - 1) = tOf (Z.getD (Z.length - 1) []) ((Z.getD (Z.length - 1) []).length - 1) ∧ vOf Z.flatten (Z.flatten.length - 1) = vOf (Z.getD (Z.length - 1) []) ((Z.getD (Z.length - 1) []).length - 1) := by
  have h1 : Z.length - 1 < Z.length := by omega
  have e : Z.flatten = (Z.take (Z.length - 1)).flatten ++ Z.getD (Z.length - 1) [] := by
    rw [← take_flat Z (Z.length - 1) h1, show Z.length - 1 + 1 = Z.length from by omega, List.take_length]
  have hp : 0 < (Z.getD (Z.length - 1) []).length := by
    have := hn (Z.getD (Z.length - 1) []) (by rw [chunk_get h1]; exact List.getElem_mem h1)
    cases hz : Z.getD (Z.length - 1) [] with
    | nil => exact absurd hz this
    | cons a l => simp
  generalize Z.getD (Z.length - 1) [] = y at *
  generalize (Z.take (Z.length - 1)).flatten = x at *
  rw [e]
  have := getD_app_right x y ((x ++ y).length - 1) (by rw [List.length_append]; omega)
  rw [show (x ++ y).length - 1 - x.length = y.length - 1 from by rw [List.length_append]; omega] at this
  exact ⟨by unfold tOf; rw [this], by unfold vOf; rw [this]⟩
theorem last_ser (b : Nat) (sz : Int) (s : Ser) (w : World) (h : SerAt w b sz s) (hs : 128 ≤ sz) (hn : s.z.length ≤ 100000) :
    Calls Tryz.prog 49 #[.pointer (some ⟨b, 0, none⟩)] w (EndP s.z (s.z.length - 1) w) := by
  obtain ⟨L, ⟨a, cap, hc, hpt, hk⟩, hg, hf⟩ := h
  have hne := good_ne hg
  have hLn : L.length ≤ 100000 := by have := flat_ge hne; rw [hf, zs_len] at this; omega
  have hlz : (zs L).flatten.length ≤ 1048576 := by rw [hf]; omega
  have B0 := (Below.refl w.heap.size w).alloc (Nat.le_refl _) (.cells #[.int .i64 0, .int .i64 0] 27)
  have hn0 := heap_new w (.cells #[.int .i64 0, .int .i64 0] 27)
  have hblt := hc.lt
  have s0 : w.heap.size < (w.alloc (.cells #[.int .i64 0, .int .i64 0] 27)).heap.size := by simp
  have HC := hid (hc.keep (World.grownBy_alloc w (.cells #[.int .i64 0, .int .i64 0] 27) none) (by simp))
  have HK := hid (hk.keepN (World.grownBy_alloc w (.cells #[.int .i64 0, .int .i64 0] 27) none))
  have HPT := hid (hpt.keepN (World.grownBy_alloc w (.cells #[.int .i64 0, .int .i64 0] 27) none))
  have HN := hid hn0
  by_cases hL : L.length = 0
  · have hL' : L = [] := List.eq_nil_of_length_eq_zero hL
    subst hL'
    have hz : s.z = [] := by rw [← hf]; rfl
    rw [hz]
    clear hz hL hc hpt hk hf hn0
    go_enter Tryz.func49, Tryz.ntmps49
    go_wp2_with fail
    generalize w.alloc (.cells #[.int .i64 0, .int .i64 0] 27) = W1 at *
    refine (slist_cell b sz _ _ _ _ a 0 cap W1 HC.out (by omega)).mono ?_
    rintro e w' ⟨rfl, rfl⟩
    have c0 : W1.cell? ⟨w.heap.size, 0, none⟩ = some (.int .i64 0) := by rw [cell_of HN.out]; rfl
    have c1 : W1.cell? ⟨w.heap.size, 1, none⟩ = some (.int .i64 0) := by rw [cell_of HN.out]; rfl
    have f0 := frozen_of (o := 0) HN.out
    have f1 := frozen_of (o := 1) HN.out
    go_wp2
    have r0 := heap_set (o := 0) (v := .int .i64 0) HN.out
    have r1 := heap_set (o := 1) (v := .int .i64 0) r0
    have j0 := (cell_of (o := 0) r1).trans (by rfl : _ = some (Value.int .i64 0))
    have j1 := (cell_of (o := 1) r1).trans (by rfl : _ = some (Value.int .i64 0))
    clear r0 r1
    exact bodyPost_ret (v := .tuple #[.agg #[.int .i64 0, .int .i64 0], .bool false]) (by simp [results, Tryz.results49, go_sem, j0, j1]) rfl ⟨rfl, (B0.setCell (Nat.le_refl _) _).setCell (Nat.le_refl _) _⟩
  · have HE := hid (last_flat (by rw [zs_len]; omega) hne)
    rw [hf] at HE
    have hz0 : 0 < s.z.length := by have := flat_ge hne; rw [hf, zs_len] at this; omega
    obtain ⟨NL, hNL⟩ : ∃ NL, L.length = NL + 1 := ⟨L.length - 1, by omega⟩
    rw [zs_len, hNL, Nat.add_sub_cancel] at HE
    have hkL : NL < L.length := by omega
    have HQ : Hid (PCk _ ((bl L).getD NL 0) sz ((zs L).getD NL [])) := hid (HK.out.get (i := NL) hkL)
    have hzl : ((zs L).getD NL []).length ≤ 1048576 := Nat.le_trans (flat_len_get _ _) hlz
    rw [hNL] at HC HPT hLn
    obtain ⟨pb, po, hpe, hpb, x0⟩ := HPT.out.at_ NL (by omega)
    subst hpe
    have HX0 := hid x0
    have HHZ := hid (show decide (0 < s.z.length) = true from by simp; omega)
    have HZP := hid (show decide (0 < ((zs L).getD NL []).length) = true from by
      have := hne ((zs L).getD NL []) (by rw [chunk_get (by rw [zs_len]; exact hkL)]; exact List.getElem_mem _)
      cases hz : (zs L).getD NL [] with
      | nil => exact absurd hz this
      | cons a l => simp)
    clear hc hpt hk hf hn0 hNL x0 hL
    unfold EndP
    rw [HE.out.1, HE.out.2, HHZ.out]
    generalize (bl L).getD NL 0 = q at *
    generalize (zs L).getD NL [] = z at *
    obtain ⟨T, hT⟩ : ∃ T, tOf z (z.length - 1) = T := ⟨_, rfl⟩
    obtain ⟨V, hV⟩ : ∃ V, vOf z (z.length - 1) = V := ⟨_, rfl⟩
    rw [hT, hV]
    have HT := hid hT
    have HV := hid hV
    clear hT hV
    have hne0 : (((NL + 1 : Nat) : Int) == 0) = false := by rw [beq_eq_false_iff_ne]; omega
    have hq : ((NL + 1 : Nat) : Int) - 1 = (NL : Int) := by omega
    have hq0 : (0 : Int) ≤ (NL : Int) := by omega
    go_enter Tryz.func49, Tryz.ntmps49
    go_wp2_with fail
    generalize w.alloc (.cells #[.int .i64 0, .int .i64 0] 27) = W1 at *
    refine (slist_cell b sz _ _ _ _ _ _ cap W1 HC.out (by omega)).mono ?_
    rintro e w' ⟨rfl, rfl⟩
    have x0 := HX0.out
    unfold ptr at x0
    go_wp2_with fail
    refine (end_at HT.out HV.out HZP.out (last_ok q sz z W1 HQ.out (by omega) hzl)).mono ?_
    rintro e W2 ⟨rfl, b2⟩
    have HN2 := hid ((b2.block w.heap.size s0).trans HN.out)
    have B2 := B0.trans (b2.mono B0.size)
    have c0 : W2.cell? ⟨w.heap.size, 0, none⟩ = some (.int .i64 0) := by rw [cell_of HN2.out]; rfl
    have c1 : W2.cell? ⟨w.heap.size, 1, none⟩ = some (.int .i64 0) := by rw [cell_of HN2.out]; rfl
    have f0 := frozen_of (o := 0) HN2.out
    have f1 := frozen_of (o := 1) HN2.out
    clear x0 b2
    go_wp2
    have r0 := heap_set (o := 0) (v := .int .i64 T) HN2.out
    have r1 := heap_set (o := 1) (v := .int .i64 V) r0
    have j0 := (cell_of (o := 0) r1).trans (by rfl : _ = some (Value.int .i64 T))
    have j1 := (cell_of (o := 1) r1).trans (by rfl : _ = some (Value.int .i64 V))
    clear r0 r1
    exact bodyPost_ret (v := .tuple #[.agg #[.int .i64 T, .int .i64 V], .bool true]) (by simp [results, Tryz.results49, go_sem, j0, j1]) rfl ⟨rfl, (B2.setCell (Nat.le_refl _) _).setCell (Nat.le_refl _) _⟩
theorem len_ser (b : Nat) (sz : Int) (s : Ser) (w : World) (h : SerAt w b sz s) (hs : 128 ≤ sz) (hn : s.z.length ≤ 100000) :
    Calls Tryz.prog 58 #[.pointer (some ⟨b, 0, none⟩)] w fun e w' => e = .returned (.int .i64 (s.z.length : Int)) ∧ w = w' := by
  obtain ⟨L, ⟨a, cap, hc, hpt, hk⟩, hg, hf⟩ := h
  have hne := good_ne hg
  have hLn : L.length ≤ 100000 := by have := flat_ge hne; rw [hf, zs_len] at this; omega
  have HC := hid hc
  have HPT := hid hpt
  have HK := hid hk
  have HALL := hid (show sumTo (zs L) L.length = s.z.length from by rw [← zs_len, sumTo_all, hf])
  have HLE := hid (show ∀ j, sumTo (zs L) j ≤ 100000 from fun j => by have := sumTo_le (zs L) j; rw [hf] at this; omega)
  clear hc hpt hk hf hg hne
  obtain ⟨NL, hNL⟩ : ∃ NL, L.length = NL := ⟨_, rfl⟩
  rw [hNL] at HC HPT hLn HALL
  have HNL := hid hNL
  clear hNL
  go_enter Tryz.func58, Tryz.ntmps58
  go_wp2_with fail
  refine (slist_cell b sz _ _ _ _ a NL cap w HC.out (by omega)).mono ?_
  rintro e w' ⟨rfl, rfl⟩
  go_wp2_with fail
  go_loop [3, 9] (fun m i => ∃ j : Nat, j ≤ NL ∧ i = .int .i64 (j : Int) ∧ m = .int .i64 (sumTo (zs L) j : Int)) (fun _ i => NL - (intOf i).toNat)
  case atStart => exact ⟨0, Nat.zero_le _, rfl, by simp [sumTo]⟩
  case round =>
    obtain ⟨j, hj, rfl, rfl⟩ := hrel
    by_cases hjn : j < NL
    · obtain ⟨pb, po, hpe, hpb, x0⟩ := HPT.out.at_ j hjn
      subst hpe
      unfold ptr at x0
      have hjL : j < L.length := by rw [HNL.out]; exact hjn
      have HQ : Hid (PCk w ((bl L).getD j 0) sz ((zs L).getD j [])) := hid (HK.out.get (i := j) hjL)
      have HS := hid (sumTo_succ (zs L) j (by rw [zs_len]; exact hjL))
      have h1 := HLE.out j
      have h2 := HLE.out (j + 1)
      rw [HS.out] at h2
      have hj0 : (0 : Int) ≤ (j : Int) := by omega
      have hj1 : (j : Int) < (NL : Int) := by omega
      generalize (bl L).getD j 0 = q at *
      generalize (zs L).getD j [] = z at *
      generalize sumTo (zs L) j = sm at *
      go_wp2_with fail
      refine (len_ok q sz z _ HQ.out (by omega)).mono ?_
      rintro e w' ⟨rfl, rfl⟩
      generalize z.length = m at *
      go_wp2
      go_round
      case rel => exact ⟨j + 1, by omega, by go_num, by rw [HS.out]; go_num⟩
      case measure => simp [intOf]; omega
    · obtain rfl : NL = j := by omega
      rw [HALL.out]
      go_wp2
      go_ret
      exact ⟨rfl, rfl⟩
end Go.Proofs.YtmifpfojhlmbkaaGreat
