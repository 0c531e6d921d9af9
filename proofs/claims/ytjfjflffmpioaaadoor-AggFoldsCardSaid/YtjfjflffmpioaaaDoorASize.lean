/-
  How many samples a slice that comes in can have: the form's own reach.
-/
import Derived.Test.YtjfjflffmpioaaaDoorSamp
import Derived.SizedLaws
namespace Go.Proofs.YtjfjflffmpioaaaDoor
open Go.RowKit Go.ChangeShapes Go.WideShapes Go.Deep
set_option linter.unusedVariables false
set_option linter.unusedSimpArgs false

theorem bytes_samp : Tryd.prog.bytesOf 39 = 16 := by kernel_rfl
theorem samps_reach {H : Type} {enc : TypeId × Value → H} {W : World} {a : Option Addr} {len cap : Nat} {d : DataW H} {p : List MemPlace} {ts : List TypeId} {ds : List (DataW H)}
    (hsz : (DataW.weightsEach Tryd.prog ts ds).all (· ≤ reachBytes) = true) {j : Nat} (ht : ts[j]? = some 31) (hd : ds[j]? = some d)
    (h : DataW.Trod enc Tryd.prog W 0 (fun _ => true) true 31 (.slice a len cap) d p) : len ≤ 8796093022208 := by
  obtain ⟨fuel, hf⟩ := h
  rcases open_slice_pairs Tryd.underlying31 Tryd.underlying39 (by kernel_rfl) rfl rfl (by kernel_rfl) (by kernel_rfl) hf with ⟨hcs, _⟩ | ⟨x, l, c, m, n, V0, V1, D0, D1, P0, P1, hcs, _, hl, hm, hmm, hx, hc⟩
  · simp [Value.cells] at hcs
    obtain ⟨rfl, rfl, rfl⟩ := hcs
    omega
  · simp [Value.cells] at hcs
    obtain ⟨rfl, rfl, rfl⟩ := hcs
    have e := (Prod.mk.inj hx).1
    subst e
    have := sized_slice hsz (j := j) ht hd Tryd.underlying31
    rw [bytes_samp, List.length_map, List.length_range] at this
    unfold reachBytes at this
    omega

end Go.Proofs.YtjfjflffmpioaaaDoor
