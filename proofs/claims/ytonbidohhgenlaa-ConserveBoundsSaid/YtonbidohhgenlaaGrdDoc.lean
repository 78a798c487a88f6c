/- The document's grid as a thing: what its calls answer, and turn. -/
import Derived.Test.YtonbidohhgenlaaGrdJoin
import Derived.Test.YtonbidohhgenlaaGrdNew
import Derived.Test.YtonbidohhgenlaaGrdDef
namespace Go.Proofs.Ytonbidohhgenlaa.Grd
open Go Go.RowKit Lw
set_option linter.unusedVariables false
def DG (w : World) (q : Addr) (G : Nat → Prop) (m n : Nat) (L : List (List Int)) : Prop :=
  ∃ b hdr R, q = ⟨b, 0, none⟩ ∧ RG w b hdr R ∧ nums R = L ∧ (∀ k, G k ↔ RF b hdr R k) ∧ Dims m n L
def dgT (q : Addr) (G : Nat → Prop) (m n : Nat) (L : List (List Int)) : Thing where
  I := fun w => DG w q G m n L
  F := G
  keep := fun w w' H h hk hf => by
    obtain ⟨b, hdr, R, e, hg, hn, hG, hd⟩ := h
    exact ⟨b, hdr, R, e, hg.keep hk (fun k hk' => hf k ((hG k).2 hk')), hn, hG, hd⟩
  lt := fun w h k hk => by
    obtain ⟨b, hdr, R, e, hg, hn, hG, hd⟩ := h
    exact hg.blt ((hG k).1 hk)
theorem DG.dims {w : World} {q : Addr} {G : Nat → Prop} {m n : Nat} {L : List (List Int)} (h : DG w q G m n L) : Dims m n L := by
  obtain ⟨b, hdr, R, e, hg, hn, hG, hd⟩ := h
  exact hd
theorem nums_len (R : List Row) : (nums R).length = R.length := by simp [nums]
theorem nums_mem {R : List Row} {r : Row} (h : r ∈ R) : r.2.2 ∈ nums R := List.mem_map.2 ⟨r, h, rfl⟩
theorem DG.sizes {R : List Row} {m n : Nat} (hd : Dims m n (nums R)) : R.length ≤ 8 ∧ (∀ r ∈ R, r.2.2.length ≤ 128) ∧ (∀ r ∈ R, In64 r.2.2) := by
  refine ⟨by rw [← nums_len, hd.len]; exact hd.m8, fun r hr => ?_, fun r hr => (hd.rows _ (nums_mem hr)).2⟩
  rw [(hd.rows _ (nums_mem hr)).1]
  exact hd.n128
theorem dnew_any (rows width : Int) (w : World) (r0 : -9223372036854775808 ≤ rows) (r1 : rows ≤ 9223372036854775807) (c0 : -9223372036854775808 ≤ width) (c1 : width ≤ 9223372036854775807) :
    Calls Try.prog 10 #[.int .i64 rows, .int .i64 width] w fun e w' => ∃ (q : Addr) (G : Nat → Prop), e = .returned (.pointer (some q)) ∧ DG w' q G (cl rows 8) (cl width 128) (zerosL (cl rows 8) (cl width 128)) ∧ (∀ k, G k → w.heap.size ≤ k) ∧ Below w.heap.size w w' := by
  refine (rnew_any rows width w r0 r1 c0 c1).mono ?_
  rintro e w' ⟨b, hdr, R, rfl, hg, hz, hf, hb⟩
  exact ⟨⟨b, 0, none⟩, RF b hdr R, rfl, ⟨b, hdr, R, rfl, hg, hz, fun k => Iff.rfl, dims_zeros (by unfold cl; omega) (by unfold cl; omega)⟩, hf, hb⟩
theorem dcells_any (q : Addr) (G : Nat → Prop) (m n : Nat) (L : List (List Int)) (w : World) (h : DG w q G m n L) :
    Calls Try.prog 15 #[.pointer (some q)] w fun e w' => ∃ (A : Addr) (cap : Nat), e = .returned (.slice (some A) (m * n) cap) ∧ Rd .i64 w' (some A) L.flatten ∧ m * n ≤ cap ∧ cap ≤ maxLen ∧ w.heap.size ≤ A.block ∧ Below w.heap.size w w' := by
  obtain ⟨b, hdr, R, rfl, hg, rfl, hG, hd⟩ := h
  obtain ⟨s1, s2, s3⟩ := DG.sizes hd
  have h := rcells_any b hdr R (nums R).flatten w hg rfl s1 s2
  rw [flat_dims hd] at h
  exact h
end Go.Proofs.Ytonbidohhgenlaa.Grd
