/-
  Contracts of the functions of package delta that read samples: getWhole, getPair, getSamples, Decode: what 'decS' and 'decAll' say of the bits.
  Condition (Decode): the text has at most 2^47 bytes.
-/
import Derived.Test.YtoanifeffegkiaaDGet
import Derived.Test.YtoanifeffegkiaaDEnc
namespace Go.Proofs.Ytoanifeffegkiaa
open Go.RowKit
set_option linter.unusedVariables false
set_option linter.unusedSimpArgs false

def WholeP (b : Nat) (bs : List Bool) (p n : Nat) (w : World) (e : Ending) (w' : World) : Prop :=
  ∃ u : Nat, e = .returned (.tuple #[.int .u64 (u : Int), .int .i64 0]) ∧ Hid (u = num ((bs.drop p).take n)) ∧ u < 18446744073709551616 ∧ RdAt w' b bs (p + n) ∧ w.grownBy w' (some b)
set_option maxHeartbeats 400000 in
theorem whole_ok (b : Nat) (bs : List Bool) (p : Nat) (w : World) (hr : RdAt w b bs p) (h : p + 64 ≤ bs.length) :
    Calls Try.prog 51 #[.pointer (some ⟨b, 0, none⟩)] w (WholeP b bs p 64 w) := by
  have hc := get_okI b bs p 64 w hr (by omega) (by omega) (by rw [show (64 : Int).toNat = 64 from rfl]; exact h)
  rw [show (64 : Int).toNat = 64 from rfl] at hc
  go_enter Try.func51, Try.ntmps51
  go_wp2_with fail
  refine hc.mono ?_
  rintro e W2 ⟨rfl, hr2, g2⟩
  have hlt := num_take_lt64 bs p 64 (by omega)
  clear hc hr
  obtain ⟨u, hu⟩ : ∃ u, u = num ((bs.drop p).take 64) := ⟨_, rfl⟩
  rw [← hu] at hlt ⊢
  have HU := Lib.hid hu
  clear hu
  go_wp2
  go_ret2
  exact ⟨u, rfl, HU, hlt, hr2, g2⟩
set_option maxHeartbeats 400000 in
theorem whole_short (b : Nat) (bs : List Bool) (p : Nat) (w : World) (hr : RdAt w b bs p) (h : bs.length < p + 64) :
    Calls Try.prog 51 #[.pointer (some ⟨b, 0, none⟩)] w fun e w' => e = .returned (.tuple #[.int .u64 0, .int .i64 3]) ∧ Drew w w' := by
  have hc := get_shortI b bs p 64 w hr (by omega) (by omega) (by rw [show (64 : Int).toNat = 64 from rfl]; exact h)
  go_enter Try.func51, Try.ntmps51
  go_wp2_with fail
  refine hc.mono ?_
  rintro e W2 ⟨rfl, d2⟩
  clear hc
  go_wp2
  go_ret2
  exact ⟨rfl, d2⟩

/-- A function that reads a number: what it tells where the Reader stands at p; with 0 the Reader stands behind the number then. -/
def RdsP (b : Nat) (bs : List Bool) (p u n : Nat) (er : Int) (w : World) (e : Ending) (w' : World) : Prop :=
  e = .returned (.tuple #[.int .u64 (u : Int), .int .i64 er]) ∧ (∃ q, RdAt w' b bs q ∧ (er = 0 → q = p + n)) ∧ w.grownBy w' (some b)
def Reads (f : Nat) (b : Nat) (bs : List Bool) (p : Nat) (u n : Nat) (er : Int) : Prop :=
  (∀ (x : Value) (w : World), (callFunc f #[x]).run Try.prog w = .ok (.enter f #[x]) w) ∧ u < 18446744073709551616 ∧ (er ≠ 0 → u = 0) ∧ ∀ w, RdAt w b bs p → Calls Try.prog f #[.pointer (some ⟨b, 0, none⟩)] w (RdsP b bs p u n er w)
theorem reads_get (b : Nat) (bs : List Bool) (p u n : Nat) (er : Int) (hg : gets (bs.drop p) = (u, n, er)) : Reads 26 b bs p u n er := by
  refine ⟨fun _ _ => rfl, ?_, ?_, fun w hr => ?_⟩
  · rcases gets_err hg with h | h
    · subst h; exact (gets_ok hg).1
    · omega
  · intro h
    rcases gets_err hg with h' | h'
    · exact absurd h' h
    · exact h'.1
  · refine (dget_any b bs p u n er w hr hg).mono ?_
    rintro e w' ⟨rfl, hr', g⟩
    exact ⟨rfl, ⟨_, hr', fun _ => rfl⟩, g⟩
theorem reads_whole (b : Nat) (bs : List Bool) (p : Nat) (h : p + 64 ≤ bs.length) : Reads 51 b bs p (num ((bs.drop p).take 64)) 64 0 := by
  refine ⟨fun _ _ => rfl, num_take_lt64 bs p 64 (by omega), by simp, fun w hr => ?_⟩
  refine (whole_ok b bs p w hr h).mono ?_
  rintro e w' ⟨u, rfl, hu, _, hr', g⟩
  exact ⟨by rw [hu.out], ⟨_, hr', fun _ => rfl⟩, g⟩
theorem reads_short (b : Nat) (bs : List Bool) (p : Nat) (h : bs.length < p + 64) : Reads 51 b bs p 0 0 3 := by
  refine ⟨fun _ _ => rfl, by omega, by simp, fun w hr => ?_⟩
  refine (whole_short b bs p w hr h).mono ?_
  rintro e w' ⟨rfl, d⟩
  exact ⟨rfl, ⟨p, hr.keep (d.gb none) (by simp), by simp⟩, d.gb _⟩

def PairP (b : Nat) (bs : List Bool) (u v : Nat) (er : Int) (q : Nat) (w : World) (e : Ending) (w' : World) : Prop :=
  e = .returned (.tuple #[.int .u64 (u : Int), .int .u64 (v : Int), .int .i64 er]) ∧ (∃ q', RdAt w' b bs q' ∧ (er = 0 → q' = q)) ∧ w.grownBy w' (some b)

set_option maxHeartbeats 400000 in
theorem pair_ok (f b : Nat) (bs : List Bool) (p u n v m : Nat) (w : World) (hr : RdAt w b bs p) (h1 : Reads f b bs p u n 0) (h2 : Reads f b bs (p + n) v m 0) :
    Calls Try.prog 50 #[.pointer (some ⟨b, 0, none⟩), .func (Fn.func f) #[] #[]] w (PairP b bs u v 0 (p + n + m) w) := by
  obtain ⟨hcf, hu, _, hc1⟩ := h1
  obtain ⟨_, hv, _, hc2⟩ := h2
  have H1 := Lib.hid hc1
  have H2 := Lib.hid hc2
  clear hc1 hc2
  go_enter Try.func50, Try.ntmps50
  go_wp2_with fail
  refine (H1.out _ hr).mono ?_
  rintro e W2 ⟨rfl, ⟨q, hr2, hq⟩, g2⟩
  obtain rfl := hq rfl
  clear hq hr
  go_wp2_with fail
  refine (H2.out _ hr2).mono ?_
  rintro e W3 ⟨rfl, ⟨q, hr3, hq⟩, g3⟩
  obtain rfl := hq rfl
  clear hq hr2
  go_wp2
  go_ret3
  exact ⟨rfl, ⟨_, hr3, fun _ => rfl⟩, gb_trans g2 g3⟩
set_option maxHeartbeats 400000 in
theorem pair_err1 (f b : Nat) (bs : List Bool) (p u n : Nat) (er : Int) (w : World) (hr : RdAt w b bs p) (he : er ≠ 0) (h1 : Reads f b bs p u n er) :
    Calls Try.prog 50 #[.pointer (some ⟨b, 0, none⟩), .func (Fn.func f) #[] #[]] w (PairP b bs 0 0 er 0 w) := by
  obtain ⟨hcf, hu, hz, hc1⟩ := h1
  obtain rfl := hz he
  have H1 := Lib.hid hc1
  have hne : (er != 0) = true := bne_iff_ne.2 he
  have HE := Lib.hid he
  clear hc1 hz he
  go_enter Try.func50, Try.ntmps50
  go_wp2_with fail
  refine (H1.out _ hr).mono ?_
  rintro e W2 ⟨rfl, ⟨q, hr2, hq⟩, g2⟩
  clear hq hr
  go_wp2
  go_ret3
  exact ⟨rfl, ⟨_, hr2, fun h => absurd h HE.out⟩, g2⟩
set_option maxHeartbeats 400000 in
theorem pair_err2 (f b : Nat) (bs : List Bool) (p u n v m : Nat) (er : Int) (w : World) (hr : RdAt w b bs p) (he : er ≠ 0) (h1 : Reads f b bs p u n 0) (h2 : Reads f b bs (p + n) v m er) :
    Calls Try.prog 50 #[.pointer (some ⟨b, 0, none⟩), .func (Fn.func f) #[] #[]] w (PairP b bs 0 0 er 0 w) := by
  obtain ⟨hcf, hu, _, hc1⟩ := h1
  obtain ⟨_, hv, hz, hc2⟩ := h2
  obtain rfl := hz he
  have H1 := Lib.hid hc1
  have H2 := Lib.hid hc2
  have hne : (er != 0) = true := bne_iff_ne.2 he
  have HE := Lib.hid he
  clear hc1 hc2 hz he
  go_enter Try.func50, Try.ntmps50
  go_wp2_with fail
  refine (H1.out _ hr).mono ?_
  rintro e W2 ⟨rfl, ⟨q, hr2, hq⟩, g2⟩
  obtain rfl := hq rfl
  clear hq hr
  go_wp2_with fail
  refine (H2.out _ hr2).mono ?_
  rintro e W3 ⟨rfl, ⟨q, hr3, hq⟩, g3⟩
  clear hq hr2
  go_wp2
  go_ret3
  exact ⟨rfl, ⟨_, hr3, fun h => absurd h HE.out⟩, gb_trans g2 g3⟩

def lenV : Value → Nat
  | .slice _ n _ => n
  | _ => 0
theorem owns_sl {W : World} {base : Nat} {v : Value} {e : TypeId} {k n : Nat} {cs : List Value} (hown : W.ownsRow base e k v n cs) : ∃ ad cp, v = .slice ad n cp := by
  rcases hown.2 with ⟨rfl, rfl⟩ | ⟨g, cp, cur, rfl, _⟩
  · exact ⟨none, 0, rfl⟩
  · exact ⟨_, cp, rfl⟩
theorem getD_snoc (out : List (Int × Int)) (x : Int × Int) : (out ++ [x]).getD out.length (0, 0) = x := by
  rw [List.getD_eq_getElem?_getD, List.getElem?_append_right (Nat.le_refl _)]; simp
theorem decS_last {n j : Nat} {l : List Bool} {e : Int} (h : decS j l = .error e) (hj : j ≤ n) : decS n l = .error e := by
  have := decS_errs h (n - j)
  rwa [show j + (n - j) = n from by omega] at this

/-- What getSamples tells. -/
def SmpP (b : Nat) (bs : List Bool) (n : Nat) (d : Except Int (List (Int × Int) × Int × List Bool)) (w : World) (e : Ending) (w' : World) : Prop :=
  w.grownBy w' (some b) ∧ match d with
  | .error er => er ≠ 0 ∧ e = .returned (.tuple #[.slice none 0 0, .int .i64 er])
  | .ok (out, _, rest) => ∃ ad cp, e = .returned (.tuple #[.slice ad n cp, .int .i64 0]) ∧ SampAt w' ad n cp out ∧ (∀ x, ad = some x → w.heap.size ≤ x.block) ∧ RdAt w' b bs (bs.length - rest.length) ∧ rest.length ≤ bs.length

/-- A row of one sample. -/
theorem own_one (W : World) (base : Nat) (x : Int × Int) (hb : base ≤ W.heap.size) :
    (W.alloc (.cells #[.int .i64 x.1, .int .i64 x.2] 59)).ownsRow base 59 2 (.slice (some ⟨W.heap.size, 0, none⟩) 1 1) 1 (smpCells [x]) :=
  ⟨by simp [smpCells], .inr ⟨W.heap.size, 1, _, rfl, hb, heap_new W _, Nat.le_refl _, by unfold maxLen; omega, rfl, rfl⟩⟩
theorem two_cells (W : World) (x y : Value) (t : TypeId) : ∀ j u, [x, y][j]? = some u → (W.alloc (.cells #[x, y] t)).cell? ((⟨W.heap.size, 0, none⟩ : Addr).add j) = some u := by
  intro j u hj
  match j, hj with
  | 0, hj => simp at hj; subst hj; rw [show ((⟨W.heap.size, 0, none⟩ : Addr).add 0) = ⟨W.heap.size, 0, none⟩ from rfl, cell_of (heap_new W _)]; rfl
  | 1, hj => simp at hj; subst hj; rw [show ((⟨W.heap.size, 0, none⟩ : Addr).add 1) = ⟨W.heap.size, 1, none⟩ from rfl, cell_of (heap_new W _)]; rfl

theorem decOne_ok (bs : List Bool) (b : Nat) (h : b + b ≤ bs.length) : decOne b bs = .ok ([(wrap64 (num (bs.take b) : Int), wrap64 (num ((bs.drop b).take b) : Int))], 0, bs.drop (b + b)) := by
  rw [decOne, if_neg (by omega)]
theorem decOne_no (bs : List Bool) (b : Nat) (h : bs.length < b + b) : decOne b bs = .error 3 := by rw [decOne, if_pos h]

/-- An append to a row of the call's own leaves the Reader, the walk, and old memory as they were. -/
theorem rd_grown {w W W' : World} {b kb base p j : Nat} {bs : List Bool} {z : List (Int × Int)} {x : Int × Int} {st : Int} {v : Value} {n : Nat} {cs : List Value} (hr : RdAt W b bs p) (hk : WkAt W kb x st) (hown : W.ownsRow base 59 2 v n cs)
    (hb : b < base) (hkb : kb < base) (hg : W.grownBy W' v.ownBlock) (hG : w.grownBy W (some b)) (hle : w.heap.size ≤ base) (hs : base ≤ W.heap.size) : RdAt W' b bs p ∧ WkAt W' kb x st ∧ w.grownBy W' (some b) ∧ base ≤ W'.heap.size := by
  have hs' := Nat.le_trans hs hg.size
  have hob : ∀ k, v.ownBlock = some k → base ≤ k := fun k hk => (hown.lt k hk).1
  have hne : ∀ c, c < base → some c ≠ v.ownBlock := by
    intro c hc e
    have := hob c e.symm
    omega
  refine ⟨hr.keep hg (hne b hb), ?_, ?_, hs'⟩
  · unfold WkAt at *
    rw [hg.block kb (heap_lt hk) (hne kb hkb)]; exact hk
  · exact ⟨hg.os.trans hG.os, hg.tape.trans hG.tape, hg.output.trans hG.output, Nat.le_trans hG.size hg.size, fun i hi hr => (hg.block i (Nat.lt_of_lt_of_le hi hG.size) (hne i (by omega))).trans (hG.block i hi hr)⟩

theorem grown_keep_own {W W' : World} {base e size n b : Nat} {v : Value} {cs : List Value} (hown : W.ownsRow base e size v n cs) (hg : W.grownBy W' (some b)) (hb : b < base) : W'.ownsRow base e size v n cs :=
  hown.kept hg (by right; intro h; have := (hown.lt b h).1; omega)

set_option maxRecDepth 100000 in
set_option maxHeartbeats 1000000 in
theorem samples_any (b : Nat) (bs : List Bool) (n : Nat) (w : World) (hr : RdAt w b bs 0) (hn : n ≤ 100000) :
    Calls Try.prog 40 #[.pointer (some ⟨b, 0, none⟩), .int .i64 (n : Int)] w (SmpP b bs n (decS n bs) w) := by
  have hle := hr.le
  by_cases h0 : n = 0
  · subst h0
    go_enter Try.func40, Try.ntmps40
    go_wp2
    go_ret2
    exact ⟨gb_refl _ _, none, 0, rfl, SampAt.nil _, by simp, by rw [Nat.sub_self]; exact hr, Nat.le_refl _⟩
  · have hne : ((n : Int) == 0) = false := by rw [beq_eq_false_iff_ne]; omega
    by_cases h1 : bs.length < 64 + 64
    · have HD := Lib.hid (show decS n bs = .error 3 from by
        have := decS_errs (n := 1) (l := bs) (e := 3) (by rw [decS]; exact decOne_no bs 64 h1) (n - 1)
        rwa [show 1 + (n - 1) = n from by omega] at this)
      have hp : Calls Try.prog 50 #[.pointer (some ⟨b, 0, none⟩), .func (Fn.func 51) #[] #[]] w (PairP b bs 0 0 3 0 w) := by
        by_cases h2 : bs.length < 0 + 64
        · exact pair_err1 _ b bs 0 0 0 3 w hr (by omega) (reads_short b bs 0 h2)
        · exact pair_err2 _ b bs 0 _ 64 0 0 3 w hr (by omega) (reads_whole b bs 0 (by omega)) (reads_short b bs (0 + 64) (by omega))
      go_enter Try.func40, Try.ntmps40
      go_wp2_with fail
      refine hp.mono ?_
      rintro e W2 ⟨rfl, _, g2⟩
      clear hp hr
      go_wp2
      go_ret2
      refine ⟨g2, ?_⟩
      rw [HD.out]
      exact ⟨by omega, rfl⟩
    · have h1' : 64 + 64 ≤ bs.length := by omega
      have hp := pair_ok _ b bs 0 _ 64 _ 64 w hr (reads_whole b bs 0 (by omega)) (reads_whole b bs (0 + 64) (by omega))
      have HD1 := Lib.hid (show decS 1 bs = _ from decOne_ok bs 64 h1')
      rw [show bs.drop 0 = bs from rfl, Nat.zero_add] at hp
      have u1 := num_take_lt64 bs 0 64 (by omega)
      have u2 := num_take_lt64 bs 64 64 (by omega)
      rw [List.drop_zero] at u1
      generalize num (bs.take 64) = T at *
      generalize num ((bs.drop 64).take 64) = V at *
      go_enter Try.func40, Try.ntmps40
      go_wp2_with fail
      refine hp.mono ?_
      rintro e W2 ⟨rfl, ⟨q, hr2, hq⟩, g2⟩
      obtain rfl := hq rfl
      clear hp hr hq
      go_wp2
      have X0 : Hid (decS 1 bs = .ok ([(wrap64 (T : Int), wrap64 (V : Int))], 0, bs.drop (64 + 64))) := HD1
      clear HD1 u1 u2 h1
      generalize wrap64 (T : Int) = t at *
      generalize wrap64 (V : Int) = v at *
      have hbl := hr2.lt
      have hbk := hr2.lt
      have hr3 := hr2.keep (World.grownBy_alloc W2 (.cells #[.int .i64 t, .int .i64 v, .int .i64 0] 70) none) (by simp)
      have g3 := gb_trans g2 (World.grownBy_alloc W2 (.cells #[.int .i64 t, .int .i64 v, .int .i64 0] 70) (some b))
      have hk3 : WkAt (W2.alloc (.cells #[.int .i64 t, .int .i64 v, .int .i64 0] 70)) W2.heap.size (t, v) 0 := heap_new W2 _
      have s3 : W2.heap.size + 1 = (W2.alloc (.cells #[.int .i64 t, .int .i64 v, .int .i64 0] 70)).heap.size := by simp
      have hwk : w.heap.size ≤ W2.heap.size := g2.size
      clear hr2 g2
      generalize W2.alloc (.cells #[.int .i64 t, .int .i64 v, .int .i64 0] 70) = W3 at *
      generalize W2.heap.size = kb at *
      rw [s3]
      have hr4 := hr3.keep (World.grownBy_alloc W3 (.cells #[.int .i64 t, .int .i64 v] 59) none) (by simp)
      have g4 := gb_trans g3 (World.grownBy_alloc W3 (.cells #[.int .i64 t, .int .i64 v] 59) (some b))
      have hk4 : WkAt (W3.alloc (.cells #[.int .i64 t, .int .i64 v] 59)) kb (t, v) 0 := by
        unfold WkAt at *
        exact heap_old hk3
      have ho4 := own_one W3 (kb + 1) (t, v) (by omega)
      have s4 : kb + 1 ≤ (W3.alloc (.cells #[.int .i64 t, .int .i64 v] 59)).heap.size := by simp; omega
      simp only at ho4
      clear hr3 g3 hk3
      generalize W3.alloc (.cells #[.int .i64 t, .int .i64 v] 59) = W4 at *
      generalize W3.heap.size = rb at *
      clear s3
      obtain ⟨i0, hi, hz0, hz1, hz2⟩ := info_parts info_samp
      go_loopw [10] (fun v wr => ∃ (i q : Nat) (out : List (Int × Int)) (st : Int), i + 1 ≤ n ∧ out.length = i + 1 ∧ Hid (decS (i + 1) bs = .ok (out, st, bs.drop q)) ∧ q ≤ bs.length ∧ wr.ownsRow (kb + 1) 59 2 v (i + 1) (smpCells out) ∧
        WkAt wr kb (out.getD i (0, 0)) st ∧ RdAt wr b bs q ∧ w.grownBy wr (some b) ∧ kb + 1 ≤ wr.heap.size) (fun v _ => n - lenV v)
      case atStart => exact ⟨0, 64 + 64, [(t, v)], 0, by omega, rfl, X0, by omega, ho4, hk4, hr4, g4, s4⟩
      case round =>
        obtain ⟨i, q, out, st, hin, hol, HD, hq, hown, hk, hr5, g5, s5⟩ := hrel
        clear hr4 g4 hk4 ho4 s4 X0
        obtain ⟨ad, cp, rfl⟩ := owns_sl hown
        by_cases hlt : i + 1 < n
        · have hlt' : ((i + 1 : Nat) : Int) < (n : Int) := by omega
          obtain ⟨a1, m1, e1, hg1⟩ : ∃ a1 m1 e1, gets (bs.drop q) = (a1, m1, e1) := ⟨_, _, _, rfl⟩
          by_cases he1 : e1 = 0
          · subst he1
            have hg1' := gets_ok hg1
            obtain ⟨a2, m2, e2, hg2⟩ : ∃ a2 m2 e2, gets (bs.drop (q + m1)) = (a2, m2, e2) := ⟨_, _, _, rfl⟩
            have hg2d : gets ((bs.drop q).drop m1) = (a2, m2, e2) := by rw [List.drop_drop]; exact hg2
            by_cases he2 : e2 = 0
            · subst he2
              have hg2' := gets_ok hg2
              have HDN := Lib.hid (decS_more HD.out hg1 hg2d)
              rw [List.drop_drop] at HDN
              have hp := pair_ok _ b bs q _ _ _ _ wr hr5 (reads_get b bs q a1 m1 0 hg1) (reads_get b bs (q + m1) a2 m2 0 hg2)
              have ha1 := hg1'.1
              have ha2 := hg2'.1
              have hm12 : q + m1 + m2 ≤ bs.length := by
                have k1 := hg1'.2.2.1
                have k2 := hg2'.2.2.1
                simp at k1 k2
                omega
              clear hg1 hg2 hg1' hg2' hg2d HD
              have hol' := Lib.hid hol
              clear hol
              go_wp2_with fail
              refine hp.mono ?_
              rintro e W6 ⟨rfl, ⟨q', hr6, hq'⟩, g6⟩
              obtain rfl := hq' rfl
              have hk6 : WkAt W6 kb (out.getD i (0, 0)) st := by
                unfold WkAt at *
                rw [g6.block kb (heap_lt hk) (by simp; omega)]; exact hk
              have ho6 := grown_keep_own hown g6 (by omega)
              have g6' := gb_trans g5 g6
              have s6 := Nat.le_trans s5 g6.size
              clear hp hr5 hq' g6 hk hown g5 s5
              go_wp2_with fail
              refine (along_any kb _ st a1 a2 _ hk6 ha1 ha2).mono ?_
              rintro e W7 ⟨rfl, hk7, g7⟩
              have hr7 := hr6.keep g7 (by simp; omega)
              have ho7 := grown_keep_own ho6 g7 (by omega)
              have g7' : w.grownBy W7 (some b) := ⟨g7.os.trans g6'.os, g7.tape.trans g6'.tape, g7.output.trans g6'.output, Nat.le_trans g6'.size g7.size, fun c hc hr => (g7.block c (Nat.lt_of_lt_of_le hc g6'.size) (by simp; omega)).trans (g6'.block c hc hr)⟩
              have s7 := Nat.le_trans s6 g7.size
              clear hk6 hr6 ho6 g6' s6 g7
              obtain ⟨x, hx⟩ : ∃ x, x = nextS (out.getD i (0, 0)) st a1 a2 := ⟨_, rfl⟩
              rw [← hx] at hk7 HDN ⊢
              clear hx
              obtain ⟨xt, xv⟩ := x
              simp only
              generalize wrap64 (st + zagZ a1) = st' at *
              have HON : Hid (∀ u ∈ [Value.int .i64 xt, Value.int .i64 xv], u.oneCell' = true) := by
                intro u hu
                simp at hu
                rcases hu with rfl | rfl <;> rfl
              go_wp2_with (at_builtin; refine wpList_append_own _ rfl _ _ 23 rfl (kb + 1) 59 i0 _ 2 16 Try.underlying23 hi hz0 hz1 hz2 rfl (by decide) _ _ _ rfl (ho7.alloc _) ⟨W7.heap.size, 0, none⟩ 1 1 [.int .i64 xt, .int .i64 xv] rfl rfl (two_cells _ _ _ _) HON.out (by unfold maxLen; omega) (by omega) (by simp; omega) ?_)
              intro v8 W8 ho8 g8 _
              have hr7a := hr7.keep (World.grownBy_alloc W7 (.cells #[.int .i64 xt, .int .i64 xv] 59) none) (by simp)
              have hk7a : WkAt (W7.alloc (.cells #[.int .i64 xt, .int .i64 xv] 59)) kb (xt, xv) st' := by
                unfold WkAt at *
                exact heap_old hk7
              obtain ⟨hr8, hk8, g8', s8⟩ := rd_grown (j := 0) (z := []) hr7a hk7a (ho7.alloc _) (by omega) (by omega) g8 (gb_alloc g7' _) (by omega) (by simp; omega)
              obtain ⟨ad8, cp8, rfl⟩ := owns_sl ho8
              clear hr7 hr7a hk7 hk7a ho7 g7' g8 s7
              go_wp2
              go_roundw
              case rel =>
                refine ⟨i + 1, q + m1 + m2, out ++ [(xt, xv)], st', by omega, by simp [hol'.out], ?_, hm12, ?_, ?_, hr8, g8', s8⟩
                · rw [← Nat.add_assoc] at HDN; exact HDN
                · rw [smpCells_snoc]; exact ho8
                · rw [← hol'.out, getD_snoc]; exact hk8
              case measure => simp [lenV]; omega
            · have HDE := Lib.hid (decS_last (decS_err2 HD.out hg1 hg2d he2) (show i + 2 ≤ n from hlt))
              have hp := pair_err2 _ b bs q _ _ _ _ _ wr hr5 he2 (reads_get b bs q a1 m1 0 hg1) (reads_get b bs (q + m1) a2 m2 e2 hg2)
              have hb2 : (e2 != 0) = true := bne_iff_ne.2 he2
              have HE2 := Lib.hid he2
              clear hg1 hg2 hg1' hg2d HD he2 hol
              go_wp2_with fail
              refine hp.mono ?_
              rintro e W6 ⟨rfl, _, g6⟩
              clear hp hr5 hown hk
              go_wp2
              go_ret2
              refine ⟨gb_trans g5 g6, ?_⟩
              rw [HDE.out]
              exact ⟨HE2.out, rfl⟩
          · have HDE := Lib.hid (decS_last (decS_err1 HD.out hg1 he1) (show i + 2 ≤ n from hlt))
            have hp := pair_err1 _ b bs q _ _ _ wr hr5 he1 (reads_get b bs q a1 m1 e1 hg1)
            have hb1 : (e1 != 0) = true := bne_iff_ne.2 he1
            have HE1 := Lib.hid he1
            clear hg1 HD he1 hol
            go_wp2_with fail
            refine hp.mono ?_
            rintro e W6 ⟨rfl, _, g6⟩
            clear hp hr5 hown hk
            go_wp2
            go_ret2
            refine ⟨gb_trans g5 g6, ?_⟩
            rw [HDE.out]
            exact ⟨HE1.out, rfl⟩
        · have HNI := Lib.hid (show n = i + 1 from by omega)
          have hge : ¬ ((i : Int) + 1 < (n : Int)) := by omega
          have hall := (enc_decS _ _ _ _ _ HD.out).2.1
          have ho' : wr.ownsRow (kb + 1) 59 2 (.slice ad (i + 1) cp) out.length (smpCells out) := by rw [hol]; exact hown
          obtain ⟨ad', cp', e', hs', hbk'⟩ := owns_samps hall (by omega) ho'
          rw [hol] at e' hs'
          simp only [Value.slice.injEq] at e'
          obtain ⟨rfl, hii, rfl⟩ := e'
          clear hii
          have HS := Lib.hid hs'
          have HBK := Lib.hid hbk'
          clear hs' hbk' ho' hown hol hall hne hlt
          go_wp2
          go_ret2
          refine ⟨g5, ?_⟩
          have hni := HNI.out
          subst hni
          rw [HD.out]
          refine ⟨ad, cp, rfl, HS.out, fun x hx => ?_, ?_, ?_⟩
          · have := (HBK.out x hx).2; omega
          · rw [show bs.length - (bs.drop q).length = q from by simp; omega]; exact hr5
          · simp

/-- What Decode tells. -/
def DecP (n : Nat) (d : Except Int (List (Int × Int))) (w : World) (e : Ending) (w' : World) : Prop :=
  Below w.heap.size w w' ∧ match d with
  | .error er => er ≠ 0 ∧ e = .returned (.tuple #[.slice none 0 0, .int .i64 er])
  | .ok out => ∃ ad cp, e = .returned (.tuple #[.slice ad n cp, .int .i64 0]) ∧ SampAt w' ad n cp out ∧ (∀ x, ad = some x → w.heap.size ≤ x.block)

set_option maxHeartbeats 400000 in
theorem decode_arg (s : ByteArray) (many n : Int) (w : World) (hs : s.size ≤ 140737488355328) (h : n < 0 ∨ 100000 < n ∨ many < 0 ∨ 8 * (s.size : Int) < many) :
    Calls Try.prog 20 #[.string s, .int .i64 many, .int .i64 n] w fun e w' => e = .returned (.tuple #[.slice none 0 0, .int .i64 1]) ∧ w = w' := by
  by_cases h1 : n < 0
  · go_enter Try.func20, Try.ntmps20
    go_wp2
    go_ret2
    exact ⟨rfl, rfl⟩
  · by_cases h2 : 100000 < n
    · go_enter Try.func20, Try.ntmps20
      go_wp2
      go_ret2
      exact ⟨rfl, rfl⟩
    · have h3 : many < 0 ∨ 8 * (s.size : Int) < many := by omega
      have H3 := Lib.hid h3
      clear h h3
      have hle : n ≤ 100000 := by omega
      have hge : 0 ≤ n := by omega
      go_enter Try.func20, Try.ntmps20
      go_wp2_with fail
      refine (read_bad s many _ hs H3.out).mono ?_
      rintro e w' ⟨rfl, rfl⟩
      go_wp2
      go_ret2
      exact ⟨rfl, rfl⟩

set_option maxRecDepth 100000 in
set_option maxHeartbeats 1000000 in
theorem decode_any (s : ByteArray) (many n : Int) (w : World) (hs : s.size ≤ 140737488355328) (h0 : 0 ≤ n) (h1 : n ≤ 100000) (hm0 : 0 ≤ many) (hm1 : many ≤ 8 * (s.size : Int)) :
    Calls Try.prog 20 #[.string s, .int .i64 many, .int .i64 n] w (DecP n.toNat (decAll n.toNat (bitsL s.data.toList many.toNat)) w) := by
  obtain ⟨n, rfl⟩ := Int.eq_ofNat_of_zero_le h0
  rw [Int.toNat_natCast]
  have hrd := read_okI s many w hs hm0 hm1
  generalize bitsL s.data.toList many.toNat = bs at *
  go_enter Try.func20, Try.ntmps20
  go_wp2_with fail
  refine hrd.mono ?_
  clear hrd
  rintro e W2 ⟨b, rfl, hr2, hb, B2⟩
  have s2 := B2.size
  go_wp2_with fail
  refine (samples_any b bs n _ hr2 (by omega)).mono ?_
  rintro e W3 ⟨g3, hd⟩
  have B3 := bel_gb B2 s2 hb g3
  have hle := hr2.le
  clear hr2
  match hdd : decS n bs with
  | .error er =>
    rw [hdd] at hd
    obtain ⟨her, rfl⟩ := hd
    have hne : (er != 0) = true := bne_iff_ne.2 her
    have HE := Lib.hid her
    have HD := Lib.hid hdd
    clear her hdd
    go_wp2
    go_ret2
    refine ⟨B3, ?_⟩
    rw [decAll, HD.out]
    exact ⟨HE.out, rfl⟩
  | .ok (out, st, rest) =>
    rw [hdd] at hd
    obtain ⟨ad, cp, rfl, hsa, hbk, hr3, hrl⟩ := hd
    have HD := Lib.hid hdd
    have HSA := Lib.hid hsa
    have HBK := Lib.hid hbk
    clear hdd hsa hbk
    go_wp2_with fail
    refine (left_any b bs _ _ hr3).mono ?_
    rintro e W4 ⟨rfl, d4⟩
    have B4 := bel_gbn B3 B3.size (d4.gb none)
    have hsa4 := HSA.out.keep (gb_below_none (d4.gb none))
    have HSA4 := Lib.hid hsa4
    clear hr3 d4 hsa4 HSA
    rw [show ((bs.length : Int) - ((bs.length - rest.length : Nat) : Int)) = (rest.length : Int) from by omega]
    by_cases hre : rest = []
    · have HR := Lib.hid hre
      have hl0 : (rest.length : Int) = 0 := by rw [hre]; rfl
      rw [hl0]
      clear hre hl0
      go_wp2
      go_ret2
      refine ⟨B4, ?_⟩
      rw [decAll, HD.out]
      simp only [HR.out, if_true]
      exact ⟨ad, cp, rfl, HSA4.out, fun x hx => by have := HBK.out x hx; omega⟩
    · have hl0 : 0 < rest.length := List.length_pos_iff.2 hre
      have hl1 : (0 : Int) < (rest.length : Int) := by omega
      have HR := Lib.hid hre
      clear hre
      generalize rest.length = L at *
      go_wp2
      go_ret2
      refine ⟨B4, ?_⟩
      rw [decAll, HD.out]
      simp only [if_neg HR.out]
      exact ⟨by omega, rfl⟩

end Go.Proofs.Ytoanifeffegkiaa
