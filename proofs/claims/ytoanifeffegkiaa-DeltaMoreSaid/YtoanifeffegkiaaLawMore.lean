/-
  The statement 'DeltaMore' of layer 2: for every samples and one more, that one needs as many bits as the codes of its step less the last one, and of its value less the last one; the bits ahead stay as they were.
  No condition.
-/
import Derived.Test.YtoanifeffegkiaaDKnown
import Derived.Test.YtoanifeffegkiaaAlike
import Derived.ShutString
import Derived.ChangeOld
import Derived.Deep.AppendLies
import Derived.Deep.DeepCutAuto
import Derived.Lib.SmallJoins
namespace Go.Proofs.Ytoanifeffegkiaa
namespace deltaMore
open Go.ChangeShapes Go.WideShapes Go.ChangeAt Go.RowKit
set_option linter.unusedVariables false
set_option linter.unusedSimpArgs false

theorem own : ownKnob Try.prog.godebug = none := by kernel_rfl
theorem laidOut : laidOutB Try.prog = true := by kernel_rfl

theorem open_sample {H : Type} {enc : TypeId × Value → H} {W : World} {r : Reach} {b0 : Nat} {v : Value} {d : DataW H} {p : List MemPlace}
    (hv : Value.okWide Try.prog W r b0 59 v) (h : DataW.Trod enc Try.prog W 0 (fun _ => true) true 59 v d p) :
    ∃ z : Int × Int, v = .agg #[.int .i64 z.1, .int .i64 z.2] ∧ in64 z.1 ∧ in64 z.2 := by
  obtain ⟨v0, v1, y0, y1, n, rfl, _, _, h0, h1⟩ := Go.Joins.open_agg2 Try.underlying59 (by kernel_rfl) (by kernel_rfl) hv h
  obtain ⟨n0, e0, _, w0⟩ := DataW.trod_int Try.underlying3 h0
  obtain ⟨n1, e1, _, w1⟩ := DataW.trod_int Try.underlying3 h1
  simp at e0 e1
  subst e0 e1
  exact ⟨(n0, n1), rfl, bounds_i64 w0, bounds_i64 w1⟩

theorem snoc_left (z : List (Int × Int)) (x : Int × Int) (i : Nat) (h : i < z.length) : (z ++ [x]).getD i (0, 0) = z.getD i (0, 0) := by
  rw [List.getD_eq_getElem?_getD, List.getElem?_append_left h, List.getD_eq_getElem?_getD]
theorem snoc_last (z : List (Int × Int)) (x : Int × Int) (n : Nat) (h : z.length = n) : (z ++ [x]).getD n (0, 0) = x := by
  subst h; exact getD_snoc z x
theorem enc_snoc (z : List (Int × Int)) (x : Int × Int) (n : Nat) (h : z.length = n) : encTo (z ++ [x]) n = encTo z n :=
  encTo_congr n fun i hi => snoc_left z x i (by omega)
/-- One sample more. -/
theorem more_len (z : List (Int × Int)) (x : Int × Int) (q : Nat) (h : z.length = q + 2) :
    (encTo (z ++ [x]) (q + 3)).length = (encTo z (q + 2)).length + csize (zigZ (wrap64 (wrap64 (x.1 - tOf z (q + 1)) - wrap64 (tOf z (q + 1) - tOf z q)))) + csize (zigZ (wrap64 (x.2 - vOf z (q + 1)))) := by
  rw [encTo_len_step, enc_snoc z x (q + 2) h]
  have e1 : tNum (z ++ [x]) (q + 1) = zigZ (wrap64 (wrap64 (x.1 - tOf z (q + 1)) - wrap64 (tOf z (q + 1) - tOf z q))) := by
    rw [tNum, stepOf, stepOf]
    unfold tOf
    rw [snoc_last z x (q + 2) h, snoc_left z x (q + 1) (by omega), snoc_left z x q (by omega)]
  have e2 : vNum (z ++ [x]) (q + 1) = zigZ (wrap64 (x.2 - vOf z (q + 1))) := by
    rw [vNum]
    unfold vOf
    rw [snoc_last z x (q + 2) h, snoc_left z x (q + 1) (by omega)]
  rw [e1, e2]
theorem enc_pre (z : List (Int × Int)) (x : Int × Int) (q : Nat) (h : z.length = q + 2) : (encTo (z ++ [x]) (q + 3)).take (encTo z (q + 2)).length = encTo z (q + 2) := by
  rw [show encTo (z ++ [x]) (q + 3) = _ from encTo_step (z ++ [x]) (q + 1), enc_snoc z x (q + 2) h, List.append_assoc, List.take_append_of_le_length (Nat.le_refl _), List.take_length]
/-- The first bits of a text that has bits. -/
theorem read_part (l m : List Bool) (k : Int) (w : World) (hl : l.length ≤ 1125899906842624) (hm : l.take m.length = m) (hk : k = (m.length : Int)) :
    Calls Try.prog 21 #[.string ⟨(packL l).toArray⟩, .int .i64 k] w (ReadP m w) := by
  subst hk
  have hml : m.length ≤ l.length := by
    have := congrArg List.length hm
    rw [List.length_take] at this
    omega
  have hs := str_size (packL l)
  rw [packL_length] at hs
  have h := read_okI ⟨(packL l).toArray⟩ (m.length : Int) w (by rw [hs]; omega) (by omega) (by rw [hs]; omega)
  rw [Int.toNat_natCast] at h
  have e : bitsL (⟨(packL l).toArray⟩ : ByteArray).data.toList m.length = m := by
    have h1 := bitsL_pack l
    have h2 : (bitsL (packL l) l.length).take m.length = bitsL (packL l) m.length := by
      unfold bitsL
      rw [← List.map_take, List.take_range, Nat.min_eq_left hml]
    rw [h1, hm] at h2
    exact h2.symm
  rw [e] at h
  exact h

theorem samp_news {W : World} {b off len cap : Nat} {z : List (Int × Int)} (h : SampAt W (some ⟨b, off, none⟩) len cap z) : ∀ j u, (smpCells z)[j]? = some u → W.cell? ((⟨b, off, none⟩ : Addr).add j) = some u := by
  intro j u hj
  obtain ⟨h1, h2, h3, h4, h5⟩ := h
  have hjl : j < z.length * 2 := by rw [← smpCells_length]; exact (List.getElem?_eq_some_iff.1 hj).1
  have ha : (⟨b, off, none⟩ : Addr).add j = ⟨b, off + j, none⟩ := by unfold Addr.add; split <;> simp_all
  rcases h5 with h0 | ⟨b', off', e, hlt, hc⟩
  · omega
  · simp only [Option.some.injEq, Addr.mk.injEq] at e
    obtain ⟨rfl, rfl, _⟩ := e
    obtain ⟨g1, g2⟩ := hc (j / 2) (by omega)
    obtain ⟨k1, k2⟩ := smpCells_get z (j / 2) (by omega)
    rw [ha]
    rcases (show j = j / 2 * 2 ∨ j = j / 2 * 2 + 1 by omega) with e | e
    · rw [← e] at k1
      rw [k1] at hj
      cases hj
      rw [show off + j = off + j / 2 * 2 from by omega]; exact g1
    · rw [← e] at k2
      rw [k2] at hj
      cases hj
      rw [show off + j = off + j / 2 * 2 + 1 from by omega]; exact g2
theorem enc_own {W : World} {base g n cp : Nat} {cs : List Value} (zz : List (Int × Int)) (m : Nat) (hall : All64 zz) (hm : zz.length = m) (hm2 : m ≤ 1048576) (hn : n = m) (hcs : cs = smpCells zz) (hown : W.ownsRow base 59 2 (.slice (some ⟨g, 0, none⟩) n cp) n cs) :
    Calls Try.prog 13 #[.slice (some ⟨g, 0, none⟩) n cp] W (EncP (encTo zz m) W) := by
  subst hn hcs
  have ho : W.ownsRow base 59 2 (.slice (some ⟨g, 0, none⟩) n cp) zz.length (smpCells zz) := by rw [hm]; exact hown
  obtain ⟨ad, cp', e, hs, _⟩ := owns_samps hall (by omega) ho
  rw [hm] at e hs
  simp only [Value.slice.injEq] at e
  obtain ⟨rfl, _, rfl⟩ := e
  exact dencode_any _ n cp zz W hs hm2
/-- The first append: onto an empty row of the call's own. -/
theorem step_first {P : Program} (w : World) {ops : Array Oper} {o : Oper} {a : Act} {K : Act → World → Prop} {Q : Exit → Act → World → Prop} {E : Prop} (hgd : o.guard = none) (s x : Operand) (t : TypeId)
    (ho : o.op = .call { callee := .builtin .append, args := #[s, x], argTypes := #[t, t] })
    (base : Nat) (e : TypeId) (i : TypeInfo) (z : Value) (size bytes : Nat) (ht : P.underlying t = some (.slice e)) (hi : P.info? e = some i) (hz : i.zero = some z)
    (hsize : i.size = size) (hby : i.bytes = bytes) (hzs : z.cells.size = size) (hsz : 0 < size)
    (v : Value) (hs : a.eval s = v) (hown : w.ownsRow base e size v 0 [])
    (ad : Addr) (m c : Nat) (news : List Value) (hx : a.eval x = .slice (some ad) m c) (hl : news.length = m * size) (hnews : ∀ j u, news[j]? = some u → w.cell? (ad.add j) = some u) (h1 : ∀ u ∈ news, u.oneCell' = true)
    (hm : 0 < m) (h63 : m ≤ maxLen) (hbytes : m * bytes ≤ 140737488355328) (hbase : base ≤ w.heap.size)
    (h : ∀ g cap w', w'.ownsRow base e size (.slice (some ⟨g, 0, none⟩) m cap) m news → w.grownBy w' v.ownBlock → g < w'.heap.size → K (a.put o.dst (.slice (some ⟨g, 0, none⟩) m cap)) w') :
    if Region.wanted o (yielded ops a.tmps) = true then Oper.wp P o a w K Q else E := by
  refine step_append_lies w hgd s x t ho base e i z size bytes ht hi hz hsize hby hzs hsz v 0 [] hs hown ad m c news hx hl hnews h1 hm (by rw [Nat.zero_add]; exact h63) (by rw [Nat.zero_add]; exact hbytes) hbase _ rfl ?_
  intro g cap w' h2 h3 _ h5
  rw [Nat.zero_add] at h2 ⊢
  exact h g cap w' h2 h3 h5
theorem below_own {H : Nat} {W0 W W' : World} {g n c : Nat} (B : Below H W0 W) (hH : H ≤ W.heap.size) (hg : H ≤ g) (hgr : W.grownBy W' (Value.slice (some ⟨g, 0, none⟩) n c).ownBlock) : Below H W0 W' :=
  B.grown hgr hH (fun k hk => by simp [Value.ownBlock] at hk; omega)
theorem news_far {W W' : World} {k : Nat} {t : TypeId} {row : Option Nat} {u v : Value} (hX : W.heap[k]? = some (.cells #[u, v] t (0, 0))) (hg : W.grownBy W' row) (hne : some k ≠ row) : ∀ j y, [u, v][j]? = some y → W'.cell? ((⟨k, 0, none⟩ : Addr).add j) = some y := by
  have h : W'.heap[k]? = some (.cells #[u, v] t (0, 0)) := by rw [hg.block k (heap_lt hX) hne]; exact hX
  intro j y hj
  match j, hj with
  | 0, hj => simp at hj; subst hj; rw [show ((⟨k, 0, none⟩ : Addr).add 0) = ⟨k, 0, none⟩ from rfl, cell_of h]; rfl
  | 1, hj => simp at hj; subst hj; rw [show ((⟨k, 0, none⟩ : Addr).add 1) = ⟨k, 1, none⟩ from rfl, cell_of h]; rfl
theorem row_none (W : World) (base : Nat) (hb : base ≤ W.heap.size) : (W.alloc (.cells #[] 59)).ownsRow base 59 2 (.slice (some ⟨W.heap.size, 0, none⟩) 0 0) 0 [] :=
  World.ownsRow_made W #[] 0 hb (by unfold maxLen; omega) (by simp)

set_option maxRecDepth 100000 in
set_option maxHeartbeats 8000000 in
theorem walk (a : Option Addr) (len cap : Nat) (z : List (Int × Int)) (x : Int × Int) (w : World) (hz : SampAt w a len cap z) (hx : in64 x.1 ∧ in64 x.2) :
    Calls Try.prog 8 #[.slice a len cap, .agg #[.int .i64 x.1, .int .i64 x.2]] w fun e w' => e = .returned (.bool true) ∧ Below w.heap.size w w' := by
  have hlen := hz.2.2.1
  have hlc := hz.2.1
  obtain ⟨T, V⟩ := x
  simp only at hx ⊢
  rcases (show len < 2 ∨ 60 < len ∨ (2 ≤ len ∧ len ≤ 60) by omega) with h2 | h60 | ⟨h2, h60⟩
  · have h2I : (len : Int) < 2 := by omega
    clear hx
    go_enter Try.func8, Try.ntmps8
    go_wp2_with fail
    refine (known_any _).mono ?_
    rintro e W4 ⟨rfl, b4⟩
    have B4 := bel_gbn ((Below.refl w.heap.size w).alloc (Nat.le_refl _) _) (by simp) (gb_below b4)
    clear b4
    go_wp2
    go_ret
    exact ⟨rfl, B4⟩
  · have h2I : ¬ (len : Int) < 2 := by omega
    have h60I : (60 : Int) < (len : Int) := by omega
    clear hx
    go_enter Try.func8, Try.ntmps8
    go_wp2_with fail
    refine (known_any _).mono ?_
    rintro e W4 ⟨rfl, b4⟩
    have B4 := bel_gbn ((Below.refl w.heap.size w).alloc (Nat.le_refl _) _) (by simp) (gb_below b4)
    clear b4
    go_wp2
    go_ret
    exact ⟨rfl, B4⟩
  · obtain ⟨q, hq⟩ : ∃ q, len = q + 2 := ⟨len - 2, by omega⟩
    obtain ⟨p, hp⟩ : ∃ p, p = q + 1 := ⟨_, rfl⟩
    have h2I : ¬ (len : Int) < 2 := by omega
    have h60I : ¬ (60 : Int) < (len : Int) := by omega
    have HZL := Lib.hid hz.1
    have HALL := Lib.hid hz.2.2.2.1
    have HZ := Lib.hid hz
    obtain ⟨b, off, rfl, hb, hcs⟩ := hz.all (by omega)
    obtain ⟨c0, c1⟩ := hcs p (by omega)
    obtain ⟨d0, d1⟩ := hcs q (by omega)
    have HML := Lib.hid (more_len z (T, V) q (by rw [HZL.out]; exact hq))
    have HPR := Lib.hid (enc_pre z (T, V) q (by rw [HZL.out]; exact hq))
    have hel := encTo_le z len
    have hel2 := encTo_le (z ++ [(T, V)]) (len + 1)
    rw [← hp, show q + 3 = len + 1 from by omega, show q + 2 = len from hq.symm] at HML
    rw [show q + 3 = len + 1 from by omega, show q + 2 = len from hq.symm] at HPR
    simp only at HML
    have HXX := Lib.hid hx
    clear hz hcs hx
    obtain ⟨T1, hT1⟩ : ∃ T1, tOf z p = T1 := ⟨_, rfl⟩
    obtain ⟨T0, hT0⟩ : ∃ T0, tOf z q = T0 := ⟨_, rfl⟩
    obtain ⟨V1, hV1⟩ : ∃ V1, vOf z p = V1 := ⟨_, rfl⟩
    rw [hT1] at c0 HML
    rw [hT0] at d0 HML
    rw [hV1] at c1 HML
    clear hT1 hT0 hV1
    have hpI : IntKind.i64.wrap ((len : Int) - 1) = (p : Int) := by rw [IntWalk.i64_in _ ⟨by omega, by omega⟩]; omega
    have hqI : IntKind.i64.wrap ((len : Int) - 2) = (q : Int) := by rw [IntWalk.i64_in _ ⟨by omega, by omega⟩]; omega
    have hp0 : (0 : Int) ≤ (p : Int) := by omega
    have hp1 : (p : Int) < (len : Int) := by omega
    have hq0 : (0 : Int) ≤ (q : Int) := by omega
    have hq1 : (q : Int) < (len : Int) := by omega
    have C0 := Lib.hid c0
    have C1 := Lib.hid c1
    have HPI := Lib.hid hpI
    have HQ := Lib.hid hq
    have HP := Lib.hid hp
    clear hq hp
    go_enter Try.func8, Try.ntmps8
    go_wp2_with fail
    have B1 := (Below.refl w.heap.size w).alloc (Nat.le_refl _) (.cells #[.int .i64 T, .int .i64 V] 59)
    have n1 := heap_new w (.cells #[.int .i64 T, .int .i64 V] 59)
    have s1 : w.heap.size + 1 ≤ (w.alloc (.cells #[.int .i64 T, .int .i64 V] 59)).heap.size := by simp
    generalize w.alloc (.cells #[.int .i64 T, .int .i64 V] 59) = W1 at *
    rw [← B1.cell hb] at c0 c1 d0 d1
    go_quiet (fail)
    have hdr : Drew W1 (W1.drewN nq) := ⟨nq, rfl⟩
    have B2 := bel_gbn B1 (by omega) (hdr.gb none)
    have s2 := Nat.le_trans s1 (hdr.gb none).size
    have n2 : (W1.drewN nq).heap[w.heap.size]? = some (.cells #[.int .i64 T, .int .i64 V] 59 (0, 0)) := n1
    clear B1 s1 n1 hdr c0 c1 d0 d1 hqI hpI
    generalize W1.drewN nq = W2 at *
    obtain ⟨st, hst⟩ : ∃ st, wrap64 (T1 - T0) = st := ⟨_, rfl⟩
    rw [hst] at HML ⊢
    clear hst
    have hz2 := HZ.out.keep B2
    go_wp2_with fail
    refine (dencode_any _ len cap z _ hz2 (by omega)).mono ?_
    rintro e W3 ⟨rfl, b3⟩
    have B3 := bel_gbn B2 (by omega) (gb_below b3)
    have s3 := Nat.le_trans s2 b3.size
    have n3 : W3.heap[w.heap.size]? = some (.cells #[.int .i64 T, .int .i64 V] 59 (0, 0)) := by rw [b3.block _ (by omega)]; exact n2
    clear B2 s2 n2 b3 hz2
    obtain ⟨E, hE⟩ : ∃ E, encTo z len = E := ⟨_, rfl⟩
    rw [hE] at hel HML HPR ⊢
    clear hE
    go_upto_region 6 with fail
    go_cut [9, 10] (fun s9 s10 wx => s9 = .string ⟨(packL (encTo (z ++ [(T, V)]) (len + 1))).toArray⟩ ∧ s10 = .int .i64 ((encTo (z ++ [(T, V)]) (len + 1)).length : Int) ∧ Below W3.heap.size W3 wx)
    case first =>
      have hz3 := HZ.out.keep B3
      have hX : w.heap.size < W3.heap.size := by omega
      have x0 : W3.cell? ⟨w.heap.size, 0, none⟩ = some (.int .i64 T) := by rw [cell_of n3]; rfl
      have x1 : W3.cell? ⟨w.heap.size, 1, none⟩ = some (.int .i64 V) := by rw [cell_of n3]; rfl
      have HKS : Hid (∀ W' : World, Below W3.heap.size W3 W' → W'.cell? ⟨w.heap.size, 0, none⟩ = some (.int .i64 T) ∧ W'.cell? ⟨w.heap.size, 1, none⟩ = some (.int .i64 V)) := by
        intro W' hb'
        rw [hb'.cell hX, hb'.cell hX]; exact ⟨x0, x1⟩
      have HSN : Hid (∀ W' : World, Below W3.heap.size W3 W' → ∀ j u, (smpCells z)[j]? = some u → W'.cell? ((⟨b, off, none⟩ : Addr).add j) = some u) := fun W' hb' => samp_news (hz3.keep hb')
      have BA := Lib.hid (((Below.refl W3.heap.size W3).alloc (Nat.le_refl _) (.cells #[] 59)).drew)
      have BB := Lib.hid ((((Below.refl W3.heap.size W3).alloc (Nat.le_refl _) (.cells #[] 59)).alloc (by simp) (.cells #[.int .i64 T, .int .i64 V] 59)).drew)
      have BC := Lib.hid ((((Below.refl W3.heap.size W3).alloc (Nat.le_refl _) (.cells #[.int .i64 T, .int .i64 V] 59)).alloc (by simp) (.cells #[] 59)).drew)
      have OA := Lib.hid ((row_none W3 W3.heap.size (Nat.le_refl _)).drew)
      have OB := Lib.hid (((row_none W3 W3.heap.size (Nat.le_refl _)).alloc (.cells #[.int .i64 T, .int .i64 V] 59)).drew)
      have oc := row_none (W3.alloc (.cells #[.int .i64 T, .int .i64 V] 59)) W3.heap.size (by simp)
      rw [show (W3.alloc (.cells #[.int .i64 T, .int .i64 V] 59)).heap.size = W3.heap.size + 1 from by simp] at oc
      have OC := Lib.hid oc.drew
      clear oc
      have HL := Lib.hid (show (smpCells z).length = len * 2 from by rw [smpCells_length, HZL.out])
      have HO := Lib.hid (smpCells_one z)
      have HON : Hid (∀ u ∈ [Value.int .i64 T, Value.int .i64 V], u.oneCell' = true) := by
        intro u hu
        simp at hu
        rcases hu with rfl | rfl <;> rfl
      have HAL : Hid (All64 (z ++ [(T, V)])) := by
        intro y hy
        simp at hy
        rcases hy with hy | rfl
        · exact HALL.out y hy
        · exact HXX.out
      have HLL := Lib.hid (show (z ++ [(T, V)]).length = len + 1 from by rw [List.length_append, HZL.out]; rfl)
      obtain ⟨i0, hi, hz0, hz1, hz2⟩ := info_parts info_samp
      have HCS := Lib.hid (show smpCells z ++ [Value.int .i64 T, Value.int .i64 V] = smpCells (z ++ [(T, V)]) from by rw [smpCells_snoc])
      have HXB := Lib.hid (show (((W3.alloc (.cells #[] 59)).alloc (.cells #[.int .i64 T, .int .i64 V] 59)).drew).heap[W3.heap.size + 1]? = some (.cells #[.int .i64 T, .int .i64 V] 59 (0, 0)) from by
        have := heap_new (W3.alloc (.cells #[] 59)) (.cells #[.int .i64 T, .int .i64 V] 59)
        rw [heap_drew]
        simpa using this)
      have HXC := Lib.hid (show (((W3.alloc (.cells #[.int .i64 T, .int .i64 V] 59)).alloc (.cells #[] 59)).drew).heap[W3.heap.size]? = some (.cells #[.int .i64 T, .int .i64 V] 59 (0, 0)) from by
        rw [heap_drew]
        exact heap_old (heap_new W3 _))
      clear hz3 n3
      go_region_held3 (fun w' => w'.cell? ⟨w.heap.size, 0, none⟩ = some (.int .i64 T) ∧ w'.cell? ⟨w.heap.size, 1, none⟩ = some (.int .i64 V))
        (first
          | (exact HKS.out _ BA.out)
          | (exact HKS.out _ BB.out)
          | (exact HKS.out _ BC.out)
          | (exact HKS.out _ (bel_gbn (below_own ((below_own BA.out (by simp <;> omega) (Nat.le_refl _) hgr1).alloc (by have := hgr1.size; simp at this; omega) (.cells #[.int .i64 T, .int .i64 V] 59)) (by have := hgr1.size; simp at this ⊢; omega) (ho1.lt g1 rfl).1 hgr2) (by have h1 := hgr1.size; have h2 := hgr2.size; simp at h1 h2; omega) (gb_below b9)))
          | (exact HKS.out _ (bel_gbn (below_own (below_own BB.out (by simp <;> omega) (Nat.le_refl _) hgr1) (by have := hgr1.size; simp at this; omega) (ho1.lt g1 rfl).1 hgr2) (by have h1 := hgr1.size; have h2 := hgr2.size; simp at h1 h2; omega) (gb_below b9)))
          | (exact HKS.out _ (bel_gbn (below_own (below_own BC.out (by simp <;> omega) (Nat.le_succ _) hgr1) (by have := hgr1.size; simp at this; omega) (ho1.lt g1 rfl).1 hgr2) (by have h1 := hgr1.size; have h2 := hgr2.size; simp at h1 h2; omega) (gb_below b9)))
          | (exact HKS.out _ (below_own ((below_own BA.out (by simp <;> omega) (Nat.le_refl _) hgr1).alloc (by have := hgr1.size; simp at this; omega) (.cells #[.int .i64 T, .int .i64 V] 59)) (by have := hgr1.size; simp at this ⊢; omega) (ho1.lt g1 rfl).1 hgr2))
          | (exact HKS.out _ (below_own (below_own BB.out (by simp <;> omega) (Nat.le_refl _) hgr1) (by have := hgr1.size; simp at this; omega) (ho1.lt g1 rfl).1 hgr2))
          | (exact HKS.out _ (below_own (below_own BC.out (by simp <;> omega) (Nat.le_succ _) hgr1) (by have := hgr1.size; simp at this; omega) (ho1.lt g1 rfl).1 hgr2))
          | (exact HKS.out _ ((below_own BA.out (by simp <;> omega) (Nat.le_refl _) hgr1).alloc (by have := hgr1.size; simp at this; omega) (.cells #[.int .i64 T, .int .i64 V] 59)))
          | (exact HKS.out _ (below_own BA.out (by simp <;> omega) (Nat.le_refl _) hgr1))
          | (exact HKS.out _ (below_own BB.out (by simp <;> omega) (Nat.le_refl _) hgr1))
          | (exact HKS.out _ (below_own BC.out (by simp <;> omega) (Nat.le_succ _) hgr1))
          | go_keep)
        (first
          | (refine step_first _ (by rfl) _ _ _ (by rfl) W3.heap.size 59 i0 _ 2 16 Try.underlying23 hi hz0 hz1 hz2 rfl (by omega) _ (by rfl) OA.out
              ⟨b, off, none⟩ len cap (smpCells z) (by rfl) HL.out (HSN.out _ BA.out) HO.out
              (by omega) (by unfold maxLen; omega) (by omega) (by simp <;> omega) ?_
             intro g1 cp1 w1 ho1 hgr1 hlt1)
          | (refine step_first _ (by rfl) _ _ _ (by rfl) W3.heap.size 59 i0 _ 2 16 Try.underlying23 hi hz0 hz1 hz2 rfl (by omega) _ (by rfl) OB.out
              ⟨b, off, none⟩ len cap (smpCells z) (by rfl) HL.out (HSN.out _ BB.out) HO.out
              (by omega) (by unfold maxLen; omega) (by omega) (by simp <;> omega) ?_
             intro g1 cp1 w1 ho1 hgr1 hlt1)
          | (refine step_first _ (by rfl) _ _ _ (by rfl) W3.heap.size 59 i0 _ 2 16 Try.underlying23 hi hz0 hz1 hz2 rfl (by omega) _ (by rfl) OC.out
              ⟨b, off, none⟩ len cap (smpCells z) (by rfl) HL.out (HSN.out _ BC.out) HO.out
              (by omega) (by unfold maxLen; omega) (by omega) (by simp <;> omega) ?_
             intro g1 cp1 w1 ho1 hgr1 hlt1)
          | (refine step_append_lies _ (by rfl) _ _ _ (by rfl) W3.heap.size 59 i0 _ 2 16 Try.underlying23 hi hz0 hz1 hz2 rfl (by omega) _ len _ (by rfl) (ho1.alloc _)
              ⟨w1.heap.size, 0, none⟩ 1 1 [.int .i64 T, .int .i64 V] (by rfl) (by rfl) (World.news_of_block (cs := #[.int .i64 T, .int .i64 V]) (t := 59) (fr := (0, 0)) (heap_alloc_new w1 _)) HON.out
              (by omega) (by unfold maxLen; omega) (by omega) (by have := hgr1.size; simp at this ⊢; omega) _ rfl ?_
             intro g2 cp2 w2 ho2 hgr2 hat2 hlt2)
          | (refine step_append_lies _ (by rfl) _ _ _ (by rfl) W3.heap.size 59 i0 _ 2 16 Try.underlying23 hi hz0 hz1 hz2 rfl (by omega) _ len _ (by rfl) ho1
              ⟨W3.heap.size + 1, 0, none⟩ 1 1 [.int .i64 T, .int .i64 V] (by rfl) (by rfl) (news_far HXB.out hgr1 (by simp [Value.ownBlock])) HON.out
              (by omega) (by unfold maxLen; omega) (by omega) (by have := hgr1.size; simp at this; omega) _ rfl ?_
             intro g2 cp2 w2 ho2 hgr2 hat2 hlt2)
          | (refine step_append_lies _ (by rfl) _ _ _ (by rfl) W3.heap.size 59 i0 _ 2 16 Try.underlying23 hi hz0 hz1 hz2 rfl (by omega) _ len _ (by rfl) ho1
              ⟨W3.heap.size, 0, none⟩ 1 1 [.int .i64 T, .int .i64 V] (by rfl) (by rfl) (news_far HXC.out hgr1 (by simp [Value.ownBlock])) HON.out
              (by omega) (by unfold maxLen; omega) (by omega) (by have := hgr1.size; simp at this; omega) _ rfl ?_
             intro g2 cp2 w2 ho2 hgr2 hat2 hlt2)
          | (go_at_call 13
             refine (enc_own (z ++ [(T, V)]) (len + 1) HAL.out HLL.out (by omega) (by omega) HCS.out ho2).mono ?_
             rintro e W9 ⟨rfl, b9⟩))
      all_goals
        go_wp2_with fail
        go_meet
        first
          | exact ⟨rfl, rfl, (bel_gbn (below_own ((below_own BA.out (by simp <;> omega) (Nat.le_refl _) hgr1).alloc (by have := hgr1.size; simp at this; omega) (.cells #[.int .i64 T, .int .i64 V] 59)) (by have := hgr1.size; simp at this ⊢; omega) (ho1.lt g1 rfl).1 hgr2) (by have h1 := hgr1.size; have h2 := hgr2.size; simp at h1 h2; omega) (gb_below b9))⟩
          | exact ⟨rfl, rfl, (bel_gbn (below_own (below_own BB.out (by simp <;> omega) (Nat.le_refl _) hgr1) (by have := hgr1.size; simp at this; omega) (ho1.lt g1 rfl).1 hgr2) (by have h1 := hgr1.size; have h2 := hgr2.size; simp at h1 h2; omega) (gb_below b9))⟩
          | exact ⟨rfl, rfl, (bel_gbn (below_own (below_own BC.out (by simp <;> omega) (Nat.le_succ _) hgr1) (by have := hgr1.size; simp at this; omega) (ho1.lt g1 rfl).1 hgr2) (by have h1 := hgr1.size; have h2 := hgr2.size; simp at h1 h2; omega) (gb_below b9))⟩
    case rest =>
      obtain ⟨rfl, rfl, b4⟩ := hcut
      have B4 := bel_gbn B3 (by omega) (gb_below b4)
      have s4 := Nat.le_trans s3 b4.size
      have n4 := (b4.block w.heap.size (by omega)).trans n3
      clear B3 s3 n3 b4
      obtain ⟨E2, hE2⟩ : ∃ E2, encTo (z ++ [(T, V)]) (len + 1) = E2 := ⟨_, rfl⟩
      rw [hE2] at hel2 HML HPR ⊢
      clear hE2
      go_wp2_with fail
      refine (read_enc E _ _ (by omega) rfl).mono ?_
      rintro e W5 ⟨r1, rfl, hr5, hr1, b5⟩
      have B5 := bel_gbn B4 (by omega) (gb_below b5)
      have s5 := Nat.le_trans s4 b5.size
      have n5 : W5.heap[w.heap.size]? = some (.cells #[.int .i64 T, .int .i64 V] 59 (0, 0)) := by rw [b5.block _ (by omega)]; exact n4
      have hr1' := Nat.le_trans s4 hr1
      have hr1l := hr5.lt
      clear B4 s4 n4 b5 hr1
      go_wp2_with fail
      refine (read_part E2 E _ _ (by omega) HPR.out rfl).mono ?_
      rintro e W6 ⟨r2, rfl, hr6, hr2, b6⟩
      have B6 := bel_gbn B5 (by omega) (gb_below b6)
      have s6 := Nat.le_trans s5 b6.size
      have n6 : W6.heap[w.heap.size]? = some (.cells #[.int .i64 T, .int .i64 V] 59 (0, 0)) := by rw [b6.block _ (by omega)]; exact n5
      have hq6 := hr5.keep (gb_below (row := none) b6) (by simp)
      have hr2' := Nat.le_trans s5 hr2
      have hrne : r1 ≠ r2 := by omega
      clear B5 s5 n5 b6 hr5 hr2 hr1l
      have x0 : W6.cell? ⟨w.heap.size, 0, none⟩ = some (.int .i64 T) := by rw [cell_of n6]; rfl
      have x1 : W6.cell? ⟨w.heap.size, 1, none⟩ = some (.int .i64 V) := by rw [cell_of n6]; rfl
      have c0 := C0.out
      have c1 := C1.out
      rw [← B6.cell hb] at c0 c1
      have HKS : Hid (∀ W' : World, Below (w.heap.size + 1) W6 W' → W'.cell? ⟨w.heap.size, 0, none⟩ = some (.int .i64 T) ∧ W'.cell? ⟨w.heap.size, 1, none⟩ = some (.int .i64 V) ∧ W'.cell? ⟨b, off + p * 2, none⟩ = some (.int .i64 T1) ∧ W'.cell? ⟨b, off + p * 2 + 1, none⟩ = some (.int .i64 V1)) := by
        intro W' hb'
        rw [hb'.cell (p := ⟨w.heap.size, 0, none⟩) (Nat.lt_succ_self _), hb'.cell (p := ⟨w.heap.size, 1, none⟩) (Nat.lt_succ_self _), hb'.cell (p := ⟨b, off + p * 2, none⟩) (Nat.lt_succ_of_lt hb), hb'.cell (p := ⟨b, off + p * 2 + 1, none⟩) (Nat.lt_succ_of_lt hb)]
        exact ⟨x0, x1, c0, c1⟩
      have BD := Lib.hid ((Below.refl (w.heap.size + 1) W6).drew)
      have hq6d : RdAt W6.drew r1 E 0 := hq6
      have hr6d : RdAt W6.drew r2 E 0 := hr6
      have HQD := Lib.hid hq6d
      have HRD := Lib.hid hr6d
      obtain ⟨e1, he1⟩ : ∃ e1, IntKind.i64.wrap (T - T1) = e1 := ⟨_, rfl⟩
      obtain ⟨e2, he2⟩ : ∃ e2, IntKind.i64.wrap (e1 - st) = e2 := ⟨_, rfl⟩
      obtain ⟨e3, he3⟩ : ∃ e3, IntKind.i64.wrap (V - V1) = e3 := ⟨_, rfl⟩
      rw [← IntWalk.i64_left (T - T1), he1, ← IntWalk.i64_left (e1 - st), he2, ← IntWalk.i64_left (V - V1), he3] at HML
      have h2i : in64 e2 := by rw [← he2, IntWalk.i64_left]; exact wrap64_in64 _
      have h3i : in64 e3 := by rw [← he3, IntWalk.i64_left]; exact wrap64_in64 _
      have z2 := zigZ_lt e2 h2i
      have z3 := zigZ_lt e3 h3i
      have H2I := Lib.hid h2i
      have H3I := Lib.hid h3i
      clear h2i h3i
      obtain ⟨u2, hu2⟩ : ∃ u2, zigZ e2 = u2 := ⟨_, rfl⟩
      obtain ⟨u3, hu3⟩ : ∃ u3, zigZ e3 = u3 := ⟨_, rfl⟩
      rw [hu2] at HML z2
      rw [hu3] at HML z3
      have HU2 := Lib.hid hu2
      have HU3 := Lib.hid hu3
      have k2 := csize_le u2
      have k3 := csize_le u3
      obtain ⟨k2', hk2⟩ : ∃ k2', csize u2 = k2' := ⟨_, rfl⟩
      obtain ⟨k3', hk3⟩ : ∃ k3', csize u3 = k3' := ⟨_, rfl⟩
      rw [hk2] at k2 HML
      rw [hk3] at k3 HML
      have HK2 := Lib.hid hk2
      have HK3 := Lib.hid hk3
      clear hu2 hu3 hk2 hk3
      obtain ⟨S1, hS1⟩ : ∃ S1, S1 = E.length + k2' := ⟨_, rfl⟩
      have hml := HML.out
      have i1 : IntKind.i64.wrap ((E.length : Int) + (k2' : Int)) = (S1 : Int) := by rw [IntWalk.i64_in _ ⟨by omega, by omega⟩]; omega
      have i2 : IntKind.i64.wrap ((S1 : Int) + (k3' : Int)) = (E2.length : Int) := by rw [IntWalk.i64_in _ ⟨by omega, by omega⟩]; omega
      have heq : ((E2.length : Int) == (E2.length : Int)) = true := by simp
      have hpI := HPI.out
      clear hml hS1 HML hq6 hr6 hq6d hr6d n6
      go_wp2_with fail
      go_region_held3 (fun w' => w'.cell? ⟨w.heap.size, 0, none⟩ = some (.int .i64 T) ∧ w'.cell? ⟨w.heap.size, 1, none⟩ = some (.int .i64 V) ∧ w'.cell? ⟨b, off + p * 2, none⟩ = some (.int .i64 T1) ∧ w'.cell? ⟨b, off + p * 2 + 1, none⟩ = some (.int .i64 V1))
        (first
          | (exact HKS.out _ BD.out)
          | (exact HKS.out _ (bel_gbn (BD.out.trans b7) (by have := b7.size; simp at this; omega) (gb_below b8)))
          | (exact HKS.out _ (BD.out.trans b7))
          | go_keep)
        (first
          | (go_at_call 28
             refine (alike_any r1 r2 (w.heap.size + 1) E _ HQD.out HRD.out hrne hr1' hr2' (by simp; omega)).mono ?_
             rintro e W7 ⟨rfl, b7⟩)
          | (go_at_call 29
             (with_reducible refine (zigZ_any e2 _ H2I.out).mono ?_)
             rintro e w' ⟨rfl, rfl⟩
             rw [HU2.out])
          | (go_at_call 29
             (with_reducible refine (zigZ_any e3 _ H3I.out).mono ?_)
             rintro e w' ⟨rfl, rfl⟩
             rw [HU3.out])
          | (go_at_call 18
             (with_reducible refine (size_any u2 _ z2).mono ?_)
             rintro e w' ⟨rfl, rfl⟩
             rw [HK2.out])
          | (go_at_call 18
             (with_reducible refine (size_any u3 _ z3).mono ?_)
             rintro e w' ⟨rfl, rfl⟩
             rw [HK3.out])
          | (go_at_call 10
             refine (known_any _).mono ?_
             rintro e W8 ⟨rfl, b8⟩))
      all_goals
        have b7' : Below w.heap.size W6.drew W7 := ⟨b7.os, b7.tape, b7.output, b7.size, fun k hk => b7.block k (by omega)⟩
        have B7 := (B6.drew).trans b7'
        have s7 : w.heap.size ≤ W7.heap.size := by have := b7.size; simp at this; omega
        have B8 := bel_gbn B7 s7 (gb_below b8)
        clear b7 b7' B7 b8 s7 B6 i1 i2 he1 he2 he3 hpI x0 x1 c0 c1
        go_wp2
        go_ret
        exact ⟨rfl, B8⟩

set_option maxRecDepth 100000 in
theorem lifted (os : Os) (started : os.Started) (H : Type) (enc : TypeId × Value → H) :
    ReturnsInHanded {} Try.checked os 8 .any (Rows.deltaMoreSpec.pre6 enc Try.prog Try.f8 Rows.deltaMoreRow.domain false) (Rows.deltaMoreSpec.post enc Try.prog Try.f8 false true false false) := by
  refine returnsInHanded_of_change (C := Try.checked) own started (by kernel_rfl) Try.func8
    (ChangeSpec.witness6 (enc := enc) (C := Try.checked) false ⟨#[], #[.slice none 0 0, .agg #[.int .i64 0, .int .i64 0]], []⟩ 8 (by kernel_rfl) (by kernel_rfl) (by kernel_rfl) (by kernel_rfl)) ?_
  intro W base args ds gs before hval0 hW hcnd _
  have hval : ∀ (j : Nat) t v, Try.f8.params[j]? = some t → args[j]? = some v → Value.okWide Try.prog W .any base t v := hval0
  have hW' := hW
  obtain ⟨p, q, hA0, hV, rfl, hfz, hnd⟩ := hW
  have hA : DataW.TrodAll enc Try.prog W 0 (fun _ => true) true Try.f8.params.toList args.toList ds p := hA0
  rw [Try.params8] at hA hval
  obtain ⟨v0, vs0, d0, ds0, p0, q0, hargs, rfl, rfl, h0, r0⟩ := trodAll_cons hA
  obtain ⟨v1, vs1, d1, ds1, p1, q1, rfl, rfl, rfl, h1, r1⟩ := trodAll_cons r0
  obtain ⟨rfl, rfl, rfl⟩ := trodAll_nil r1
  obtain rfl : args = #[v0, v1] := by cases args; simp_all
  obtain ⟨rfl, rfl⟩ := trodVars_none hV
  obtain ⟨a0, len0, cap0, rfl⟩ := okWide_slice Try.underlying23 (hval 0 23 v0 rfl rfl)
  have k0 := h0
  have lt0 : ∀ x ∈ p0, x.block < W.heap.size := by obtain ⟨m, hm⟩ := k0; exact DataW.trod_lt m _ _ _ hm
  obtain ⟨z0, w0⟩ := open_samps h0
  have k1 := h1
  have lt1 : ∀ x ∈ p1, x.block < W.heap.size := by obtain ⟨m, hm⟩ := k1; exact DataW.trod_lt m _ _ _ hm
  obtain ⟨a1, rfl, w1⟩ := open_sample (hval 1 59 v1 rfl rfl) h1
  clear hA0 hval0
  refine (walk a0 len0 cap0 z0 a1 W w0 w1).mono fun e W' ⟨he, bel⟩ => ?_
  subst he
  exact ⟨_, rfl, _, _, _, [], _, [], hW', trodAll_mk1 (shut_bool Try.underlying4 _), (trodAll_cons_mk (Below.trod laidOut (by kernel_rfl) (of_decide_eq_true (by kernel_rfl)) k0 bel lt0) (trodAll_cons_mk (Below.trod laidOut (by kernel_rfl) (of_decide_eq_true (by kernel_rfl)) k1 bel lt1) trodAll_mk0)), rfl, bel.frame _, fun h => by cases h⟩

theorem over : Rows.deltaMoreRow.holds Try.pinned (OpenSpec.ofChange Rows.deltaMoreSpec) :=
  OpenClaim.holds_of_wide 8 Try.f8 rfl rfl rfl rfl rfl rfl rfl ⟨rfl, rfl, rfl, rfl, rfl⟩ rfl rfl rfl rfl rfl (by kernel_rfl) Try.func8 (by kernel_rfl)
    (of_decide_eq_true (by kernel_rfl)) (by unfold Func.isWrapper; first | (rw [if_pos (by decide +kernel)]; kernel_rfl) | (rw [if_neg (by decide +kernel)]; exact ⟨rfl, rfl⟩))
    (fun os started H enc _ => lifted os started H enc)

theorem proved : Rows.DeltaMoreSaid := over
end deltaMore
theorem deltaMore_holds : Rows.DeltaMoreSaid := deltaMore.proved
#print axioms deltaMore_holds
end Go.Proofs.Ytoanifeffegkiaa
