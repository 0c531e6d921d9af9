/-
  Contracts of a series' calls over known values.
-/
import Derived.Test.YtpbhdlhbcfkhfaaGreatSPlus
import Derived.Test.YtpbhdlhbcfkhfaaGreatSFall
import Derived.Test.YtpbhdlhbcfkhfaaGreatSCopy
import Derived.Test.YtpbhdlhbcfkhfaaGreatRSame
namespace Go.Proofs.YtpbhdlhbcfkhfaaGreat
open Go.RowKit
set_option linter.unusedVariables false
set_option linter.unusedSimpArgs false

theorem add_at5 (b : Nat) (sz : Int) (s s' : Ser) (T V p er : Int) (w : World) (hE : addE s T V p = er) (hA : addS5 s T V p = s') (h : SerAt w b sz s) (hS : Std s) (hs : 128 ≤ sz) (hs2 : sz ≤ 4096) (hn : s.z.length ≤ 90000) (hV : in64 V) :
    Calls Tryz.prog 6 #[.pointer (some ⟨b, 0, none⟩), .agg #[.int .i64 T, .int .i64 V], .int .i64 p] w (PutP b sz er s' w) := by
  subst hE hA; exact add_ser b sz s T V p w h hS hs hs2 hn hV
theorem del_at5 (b : Nat) (sz : Int) (s s' : Ser) (x y : Int) (n : Nat) (w : World) (hN : dropN s.z x y = n) (hD : delS s x y = s') (h : SerAt w b sz s) (hs : 128 ≤ sz) (hs2 : sz ≤ 4096) (hr : Rising s.z) (hn : s.z.length ≤ 100000) :
    Calls Tryz.prog 8 #[.pointer (some ⟨b, 0, none⟩), .int .i64 x, .int .i64 y] w (NumS b sz n s' w) := by
  subst hN hD; exact del_any b sz s x y w h hs hs2 hr hn
/-- How many chunks there are. -/
def ChunksQ (sz : Int) (n : Nat) (w : World) (e : Ending) (w' : World) : Prop := ∃ v Z, e = .returned v ∧ Good sz Z ∧ Z.flatten.length = n ∧ IRow w' w.heap.size v (Z.map fun z => (usedL z : Int)) ∧ Below w.heap.size w w'
theorem chunks_ser (b : Nat) (sz : Int) (s : Ser) (w : World) (h : SerAt w b sz s) (hs : 128 ≤ sz) (hn : s.z.length ≤ 100000) :
    Calls Tryz.prog 48 #[.pointer (some ⟨b, 0, none⟩)] w (ChunksQ sz s.z.length w) := by
  obtain ⟨L, hM, hg, hf⟩ := h
  have hl : L.length ≤ 100000 := by have := flat_ge (good_ne hg); rw [hf, zs_len] at this; omega
  refine (chunks_mem b sz _ _ _ _ L w hM hs hl (by rw [hf]; exact hn)).mono ?_
  rintro e w' ⟨v, h1, h2, h3⟩
  exact ⟨v, zs L, h1, hg, by rw [hf], h2, h3⟩
theorem snew_at (sz ret p : Int) (w : World) (hs : 128 ≤ sz) (hs2 : sz ≤ 4096) (hk : keepB ret p) :
    Calls Tryz.prog 4 #[.int .i64 sz, .int .i64 ret, .int .i64 p] w fun e w' => ∃ b, e = .returned (.tuple #[.pointer (some ⟨b, 0, none⟩), .int .i64 0]) ∧ SerAt w' b sz (newSer ret p) ∧ w.heap.size ≤ b ∧ Below w.heap.size w w' := by
  refine (snew_ok sz ret p w hs hs2 hk).mono ?_
  rintro e w' ⟨h1, h2, h3, h4⟩
  exact ⟨_, h1, h2, h3, h4⟩

def kn0 : Ser := ⟨10, 3, -1, 0, []⟩
def kn1 : Ser := ⟨10, 3, 5, 0, [(5, 1)]⟩
def kn2 : Ser := ⟨10, 3, 20, 10, [(20, 2)]⟩
def kn3 : Ser := ⟨10, 3, 20, 10, [(10, 3), (20, 2)]⟩
def kn4 : Ser := ⟨10, 3, 20, 10, [(10, 3)]⟩
theorem kn_a1 : addE kn0 5 1 0 = 0 ∧ addS5 kn0 5 1 0 = kn1 := ⟨by decide, by rfl⟩
theorem kn_a2 : addE kn1 20 2 0 = 0 ∧ addS5 kn1 20 2 0 = kn2 := ⟨by decide, by rfl⟩
theorem kn_a3 : addE kn2 9 3 0 = 7 ∧ addS5 kn2 9 3 0 = kn2 := ⟨by decide, by rfl⟩
theorem kn_a4 : addE kn2 10 3 0 = 0 ∧ addS5 kn2 10 3 0 = kn3 := ⟨by decide, by rfl⟩
theorem kn_a5 : addE kn3 20 7 1 = 8 ∧ addS5 kn3 20 7 1 = kn3 := ⟨by decide, by rfl⟩
theorem kn_g1 : getL kn3.z 20 = (2, 0) := by decide
theorem kn_g2 : getL kn3.z 5 = (0, 5) := by decide
theorem kn_d : dropN kn3.z 20 30 = 1 ∧ delS kn3 20 30 = kn4 := ⟨by decide, by rfl⟩
theorem kn_b : (kn3.z.filter (inB 0 100)).reverse = [(20, 2), (10, 3)] := by rfl
theorem kn_r : kn4.z.filter (inB 0 50) = [(10, 3)] := by rfl
theorem kn_s0 : Std kn0 := Std.new (ret := 10) (p := 3) (by decide)
theorem kn_s1 : Std kn1 := kn_a1.2 ▸ kn_s0.add 5 1 0 ⟨by omega, by omega⟩
theorem kn_s2 : Std kn2 := kn_a2.2 ▸ kn_s1.add 20 2 0 ⟨by omega, by omega⟩
theorem kn_s3 : Std kn3 := kn_a4.2 ▸ kn_s2.add 10 3 0 ⟨by omega, by omega⟩
theorem kn_s4 : Std kn4 := kn_d.2 ▸ kn_s3.del 20 30
theorem one_chunk {sz : Int} {Z : List (List (Int × Int))} (h : Good sz Z) (hn : Z.flatten.length = 1) : Z.length = 1 := by
  have h1 := flat_ge (good_ne h)
  cases Z with
  | nil => simp at hn
  | cons a l => rw [hn] at h1; simp only [List.length_cons] at h1 ⊢; omega
theorem Lst.two (w : World) (a b c d : Int) (ha : in64 a) (hb : in64 b) (hc : in64 c) (hd : in64 d) : Lst (w.alloc (.cells #[.int .i64 a, .int .i64 b, .int .i64 c, .int .i64 d] 33)) (some ⟨w.heap.size, 0, none⟩) 2 2 [(a, b), (c, d)] := by
  have h : (w.alloc (.cells #[.int .i64 a, .int .i64 b, .int .i64 c, .int .i64 d] 33)).heap[w.heap.size]? = some (.cells (smpCells [(a, b), (c, d)]).toArray 33 (0, 0)) := heap_new w _
  exact lst_whole (all64_app (all64_one ha hb) (all64_one hc hd)) rfl (by omega) h

end Go.Proofs.YtpbhdlhbcfkhfaaGreat
