/-
  The statement 'DeltaWrites' of layer 2: for every number and every samples, the number's code, its size, and the samples' bits, are as the document says.
  No condition.
-/
import Derived.Test.YtoanifeffegkiaaDKnown
import Derived.Test.YtoanifeffegkiaaREnc
import Derived.Test.YtoanifeffegkiaaRefC
import Derived.ShutString
import Derived.ChangeOld
namespace Go.Proofs.Ytoanifeffegkiaa
namespace deltaWrites
open Go.ChangeShapes Go.WideShapes Go.ChangeAt Go.RowKit
set_option linter.unusedVariables false
set_option linter.unusedSimpArgs false

theorem own : ownKnob Try.prog.godebug = none := by kernel_rfl
theorem laidOut : laidOutB Try.prog = true := by kernel_rfl

/-- A row of bits, as a slice that lies there. -/
def BlsP (l : List Bool) (w : World) (e : Ending) (w' : World) : Prop :=
  ∃ ad cp, e = .returned (.slice ad l.length cp) ∧ l.length ≤ cp ∧ BoolsAt w' ad l.length l ∧ Below w.heap.size w w'
theorem bits_bls {l : List Bool} {w w' : World} {e : Ending} (h : BitsP l w e w') : BlsP l w e w' := by
  obtain ⟨v, rfl, hv, b⟩ := h
  obtain ⟨ad, cp, rfl, hc, hb, _⟩ := owns_bools hv
  exact ⟨ad, cp, rfl, hc, hb, b⟩
theorem bools_gb {w w' : World} {a : Option Addr} {len : Nat} {xs : List Bool} (h : BoolsAt w a len xs) (hb : Below w.heap.size w w') : BoolsAt w' a len xs := h.keep hb

set_option maxRecDepth 100000 in
set_option maxHeartbeats 4000000 in
theorem walk (u : Int) (a : Option Addr) (len cap : Nat) (z : List (Int × Int)) (w : World) (hu : (Lit.int .u64 u).wf = true) (hz : SampAt w a len cap z) :
    Calls Try.prog 3 #[.int .u64 u, .slice a len cap] w fun e w' => e = .returned (.bool true) ∧ Below w.heap.size w w' := by
  have hlen := hz.2.2.1
  have hub := bounds_u64 hu
  clear hu
  obtain ⟨u, rfl⟩ := Int.eq_ofNat_of_zero_le hub.1
  have hul : u < 18446744073709551616 := by omega
  clear hub
  by_cases h60 : 60 < len
  · go_enter Try.func3, Try.ntmps3
    go_wp2_with fail
    refine (known_any _).mono ?_
    rintro e W4 ⟨rfl, b4⟩
    go_wp2
    go_ret
    exact ⟨rfl, b4⟩
  · have hcs := csize_le u
    have hcl := code_length u
    have HCL := Lib.hid hcl
    have hel := encTo_le z len
    clear hcl
    go_enter Try.func3, Try.ntmps3
    go_wp2_with fail
    have B1 := (Below.refl w.heap.size w).alloc (Nat.le_refl _) (.cells #[.pointer none, .int .u64 0, .int .i64 0] 28)
    have hw1 := wr_new w
    have s1 : w.heap.size + 1 ≤ (w.alloc (.cells #[.pointer none, .int .u64 0, .int .i64 0] 28)).heap.size := by simp
    generalize w.alloc (.cells #[.pointer none, .int .u64 0, .int .i64 0] 28) = W1 at *
    have hp := dput_any w.heap.size [] u W1 hw1 (by simp) hul
    rw [List.nil_append] at hp
    refine hp.mono ?_
    clear hp
    rintro e W2 ⟨rfl, hw2, g2⟩
    have B2 := bel_gb B1 (by omega) (Nat.le_refl _) g2
    have s2 := Nat.le_trans s1 g2.size
    clear hw1 B1 s1 g2
    go_wp2_with fail
    refine (rcode_any u _ hul).mono ?_
    intro e W3 h3
    obtain ⟨ac, cc, rfl, hcc, hc3, b3⟩ := bits_bls h3
    have hw3 := hw2.keep_none (gb_below b3)
    have B3 := bel_gbn B2 (by omega) (gb_below b3)
    have s3 := Nat.le_trans s2 b3.size
    rw [HCL.out] at hcc hc3 ⊢
    clear h3 hw2 B2 s2 b3
    obtain ⟨C, hC⟩ : ∃ C, C = code u := ⟨_, rfl⟩
    rw [← hC] at hw3 hc3 HCL
    clear hC
    have hz3 := hz.keep B3
    go_wp2_with fail
    refine (dencode_any a len cap z _ hz3 (by omega)).mono ?_
    rintro e W4 ⟨rfl, b4⟩
    have hw4 := hw3.keep_none (gb_below b4)
    have hc4 := hc3.keep b4
    have hz4 := hz3.keep b4
    have B4 := bel_gbn B3 (by omega) (gb_below b4)
    have s4 := Nat.le_trans s3 b4.size
    clear hw3 hc3 hz3 B3 s3 b4
    go_wp2_with fail
    refine (rencode_any a len cap z _ hz4 (by omega)).mono ?_
    intro e W5 h5
    obtain ⟨ae, ce, rfl, hce, he5, b5⟩ := bits_bls h5
    have hw5 := hw4.keep_none (gb_below b5)
    have hc5 := hc4.keep b5
    have hz5 := hz4.keep b5
    have B5 := bel_gbn B4 (by omega) (gb_below b5)
    have s5 := Nat.le_trans s4 b5.size
    clear h5 hw4 hc4 hz4 B4 s4 b5
    have hdb := fun W (h : SampAt W a len cap z) => dbits_any a len cap z W h (by omega)
    have HDB := Lib.hid hdb
    clear hdb
    obtain ⟨E, hE⟩ : ∃ E, E = encTo z len := ⟨_, rfl⟩
    rw [← hE] at he5 hel hce HDB ⊢
    clear hE
    have hEL : E.length ≤ 8160 := by omega
    have hCC := HCL.out
    go_wp2_with fail
    refine (bytes_any w.heap.size _ _ hw5 (by omega)).mono ?_
    rintro e W6 ⟨rfl, b6⟩
    have hw6 := hw5.keep_none (gb_below b6)
    have hc6 := hc5.keep b6
    have he6 := he5.keep b6
    have hz6 := hz5.keep b6
    have B6 := bel_gbn B5 (by omega) (gb_below b6)
    have s6 := Nat.le_trans s5 b6.size
    clear hw5 hc5 he5 hz5 B5 s5 b6 hCC
    go_wp2_with fail
    refine (rbytes_any ac (csize u) cc C _ hc6 (by omega) hcc).mono ?_
    rintro e W7 ⟨rfl, b7⟩
    have hw7 := hw6.keep_none (gb_below b7)
    have he7 := he6.keep b7
    have hz7 := hz6.keep b7
    have B7 := bel_gbn B6 (by omega) (gb_below b7)
    have s7 := Nat.le_trans s6 b7.size
    clear hw6 hc6 he6 hz6 B6 s6 b7
    go_wp2_with fail
    refine (len_any w.heap.size _ _ hw7).mono ?_
    rintro e w' ⟨rfl, rfl⟩
    rw [HCL.out]
    clear hw7
    go_wp2_with fail
    refine (size_any u _ hul).mono ?_
    rintro e w' ⟨rfl, rfl⟩
    go_wp2_with fail
    refine (rbytes_any ae E.length ce E _ he7 (by omega) hce).mono ?_
    rintro e W8 ⟨rfl, b8⟩
    have hz8 := hz7.keep b8
    have B8 := bel_gbn B7 (by omega) (gb_below b8)
    have s8 := Nat.le_trans s7 b8.size
    clear he7 hz7 B7 s7 b8
    go_wp2_with fail
    refine (HDB.out _ hz8).mono ?_
    rintro e W9 ⟨rfl, b9⟩
    have B9 := bel_gbn B8 (by omega) (gb_below b9)
    have s9 := Nat.le_trans s8 b9.size
    clear hz8 B8 s8 b9
    go_wp2_with fail
    refine (dput_nil u _ hul).mono ?_
    rintro e w' ⟨rfl, rfl⟩
    go_wp2_with fail
    refine (known_any _).mono ?_
    rintro e W10 ⟨rfl, b10⟩
    have B10 := bel_gbn B9 (by omega) (gb_below b10)
    clear b10 B9
    go_wp2
    go_ret
    exact ⟨rfl, B10⟩

set_option maxRecDepth 100000 in
theorem lifted (os : Os) (started : os.Started) (H : Type) (enc : TypeId × Value → H) :
    ReturnsInHanded {} Try.checked os 3 .any (Rows.deltaWritesSpec.pre6 enc Try.prog Try.f3 Rows.deltaWritesRow.domain false) (Rows.deltaWritesSpec.post enc Try.prog Try.f3 false true false false) := by
  refine returnsInHanded_of_change (C := Try.checked) own started (by kernel_rfl) Try.func3
    (ChangeSpec.witness6 (enc := enc) (C := Try.checked) false ⟨#[], #[.int .u64 0, .slice none 0 0], []⟩ 8 (by kernel_rfl) (by kernel_rfl) (by kernel_rfl) (by kernel_rfl)) ?_
  intro W base args ds gs before hval0 hW hcnd _
  have hval : ∀ (j : Nat) t v, Try.f3.params[j]? = some t → args[j]? = some v → Value.okWide Try.prog W .any base t v := hval0
  have hW' := hW
  obtain ⟨p, q, hA0, hV, rfl, hfz, hnd⟩ := hW
  have hA : DataW.TrodAll enc Try.prog W 0 (fun _ => true) true Try.f3.params.toList args.toList ds p := hA0
  rw [Try.params3] at hA hval
  obtain ⟨v0, vs0, d0, ds0, p0, q0, hargs, rfl, rfl, h0, r0⟩ := trodAll_cons hA
  obtain ⟨v1, vs1, d1, ds1, p1, q1, rfl, rfl, rfl, h1, r1⟩ := trodAll_cons r0
  obtain ⟨rfl, rfl, rfl⟩ := trodAll_nil r1
  obtain rfl : args = #[v0, v1] := by cases args; simp_all
  obtain ⟨rfl, rfl⟩ := trodVars_none hV
  obtain ⟨a0, rfl, rfl, rfl, w0⟩ := open_int Try.underlying22 (hval 0 22 v0 rfl rfl) h0
  obtain ⟨a1, len1, cap1, rfl⟩ := okWide_slice Try.underlying23 (hval 1 23 v1 rfl rfl)
  have k1 := h1
  have lt1 : ∀ x ∈ p1, x.block < W.heap.size := by obtain ⟨m, hm⟩ := k1; exact DataW.trod_lt m _ _ _ hm
  obtain ⟨z1, w1⟩ := open_samps h1
  clear hA0 hval0
  refine (walk a0 a1 len1 cap1 z1 W w0 w1).mono fun e W' ⟨he, bel⟩ => ?_
  subst he
  exact ⟨_, rfl, _, _, _, [], _, [], hW', trodAll_mk1 (shut_bool Try.underlying4 _), (trodAll_cons_mk (shut_int Try.underlying22 w0) (trodAll_cons_mk (Below.trod laidOut (by kernel_rfl) (of_decide_eq_true (by kernel_rfl)) k1 bel lt1) trodAll_mk0)), rfl, bel.frame _, fun h => by cases h⟩

theorem over : Rows.deltaWritesRow.holds Try.pinned (OpenSpec.ofChange Rows.deltaWritesSpec) :=
  OpenClaim.holds_of_wide 3 Try.f3 rfl rfl rfl rfl rfl rfl rfl ⟨rfl, rfl, rfl, rfl, rfl⟩ rfl rfl rfl rfl rfl (by kernel_rfl) Try.func3 (by kernel_rfl)
    (of_decide_eq_true (by kernel_rfl)) (by unfold Func.isWrapper; first | (rw [if_pos (by decide +kernel)]; kernel_rfl) | (rw [if_neg (by decide +kernel)]; exact ⟨rfl, rfl⟩))
    (fun os started H enc _ => lifted os started H enc)

theorem proved : Rows.DeltaWritesSaid := over
end deltaWrites
theorem deltaWrites_holds : Rows.DeltaWritesSaid := deltaWrites.proved
#print axioms deltaWrites_holds
end Go.Proofs.Ytoanifeffegkiaa
