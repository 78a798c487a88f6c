/- The document's grid as a thing: what its calls answer, and turn. -/
import Derived.Test.YtbjbkjdpkplfmaaGrdJoin
import Derived.Test.YtbjbkjdpkplfmaaGrdNew
import Derived.Test.YtbjbkjdpkplfmaaGrdDef
namespace Go.Proofs.Ytbjbkjdpkplfmaa.Grd
open Go Go.RowKit Lw
set_option linter.unusedVariables false
def DG (w : World) (q : Addr) (G : Nat → Prop) (m n : Nat) (L : List (List Int)) : Prop :=
  ∃ b hdr R, q = ⟨b, 0, none⟩ ∧ RG w b hdr R ∧ nums R = L ∧ (∀ k, G k ↔ RF b hdr R k) ∧ Dims m n L
def dgT (q : Addr) (G : Nat → Prop) (m n : Nat) (L : List (List Int)) : Thing where
  I := fun w => DG w q G m n L
  F := G
  keep := fun w w' H h hk hf => by
    obtain ⟨b, hdr, R, e, hg, hn, hG, hd⟩ := h
    exact ⟨b, hdr, R, e, hg.keep hk (fun k hk' => hf k ((hG k).2 hk')), hn, hG, hd⟩
  lt := fun w h k hk => by
    obtain ⟨b, hdr, R, e, hg, hn, hG, hd⟩ := h
    exact hg.blt ((hG k).1 hk)
theorem DG.dims {w : World} {q : Addr} {G : Nat → Prop} {m n : Nat} {L : List (List Int)} (h : DG w q G m n L) : Dims m n L := by
  obtain ⟨b, hdr, R, e, hg, hn, hG, hd⟩ := h
  exact hd
theorem nums_len (R : List Row) : (nums R).length = R.length := by simp [nums]
theorem nums_mem {R : List Row} {r : Row} (h : r ∈ R) : r.2.2 ∈ nums R := List.mem_map.2 ⟨r, h, rfl⟩
theorem DG.sizes {R : List Row} {m n : Nat} (hd : Dims m n (nums R)) : R.length ≤ 8 ∧ (∀ r ∈ R, r.2.2.length ≤ 128) ∧ (∀ r ∈ R, In64 r.2.2) := by
  refine ⟨by rw [← nums_len, hd.len]; exact hd.m8, fun r hr => ?_, fun r hr => (hd.rows _ (nums_mem hr)).2⟩
  rw [(hd.rows _ (nums_mem hr)).1]
  exact hd.n128
theorem dnew_any (rows width : Int) (w : World) (r0 : -9223372036854775808 ≤ rows) (r1 : rows ≤ 9223372036854775807) (c0 : -9223372036854775808 ≤ width) (c1 : width ≤ 9223372036854775807) :
    Calls Try.prog 11 #[.int .i64 rows, .int .i64 width] w fun e w' => ∃ (q : Addr) (G : Nat → Prop), e = .returned (.pointer (some q)) ∧ DG w' q G (cl rows 8) (cl width 128) (zerosL (cl rows 8) (cl width 128)) ∧ (∀ k, G k → w.heap.size ≤ k) ∧ Below w.heap.size w w' := by
  refine (rnew_any rows width w r0 r1 c0 c1).mono ?_
  rintro e w' ⟨b, hdr, R, rfl, hg, hz, hf, hb⟩
  exact ⟨⟨b, 0, none⟩, RF b hdr R, rfl, ⟨b, hdr, R, rfl, hg, hz, fun k => Iff.rfl, dims_zeros (by unfold cl; omega) (by unfold cl; omega)⟩, hf, hb⟩
theorem dat_any (q : Addr) (G : Nat → Prop) (m n : Nat) (L : List (List Int)) (row col : Int) (w : World) (h : DG w q G m n L)
    (r0 : -9223372036854775808 ≤ row) (r1 : row ≤ 9223372036854775807) (c0 : -9223372036854775808 ≤ col) (c1 : col ≤ 9223372036854775807) :
    Calls Try.prog 14 #[.pointer (some q), .int .i64 row, .int .i64 col] w fun e w' => e = .returned (.int .i64 (at2 L row col)) ∧ Below w.heap.size w w' := by
  obtain ⟨b, hdr, R, rfl, hg, rfl, hG, hd⟩ := h
  obtain ⟨s1, s2, s3⟩ := DG.sizes hd
  refine (rat_any b hdr R row col w hg s1 s2 r0 r1 c0 c1).mono ?_
  rintro e w' ⟨rfl, rfl⟩
  exact ⟨rfl, Below.refl _ _⟩
theorem dput_any (q : Addr) (G : Nat → Prop) (m n : Nat) (L : List (List Int)) (row col x : Int) (w : World) (h : DG w q G m n L)
    (r0 : -9223372036854775808 ≤ row) (r1 : row ≤ 9223372036854775807) (c0 : -9223372036854775808 ≤ col) (c1 : col ≤ 9223372036854775807) (x0 : -9223372036854775808 ≤ x) (x1 : x ≤ 9223372036854775807) :
    Calls Try.prog 15 #[.pointer (some q), .int .i64 row, .int .i64 col, .int .i64 x] w fun e w' => e = .returned (.bool (in2 L row col)) ∧ ∃ G', DG w' q G' m n (setL L row col x) ∧ Kept G w w' ∧ (∀ k, G' k → G k ∨ w.heap.size ≤ k) := by
  obtain ⟨b, hdr, R, rfl, hg, rfl, hG, hd⟩ := h
  obtain ⟨s1, s2, s3⟩ := DG.sizes hd
  refine (rput_any b hdr R row col x w hg s1 s2 r0 r1 c0 c1).mono ?_
  rintro e w' ⟨rfl, hg', hk⟩
  refine ⟨rfl, G, ⟨b, hdr, put2 R row col x, rfl, hg', nums_put2 R row col x, fun k => (hG k).trans (RF_put k).symm, hd.set row col x0 x1⟩, hk.mono (fun k _ h => (hG k).2 h), fun k h => .inl h⟩
theorem dcells_any (q : Addr) (G : Nat → Prop) (m n : Nat) (L : List (List Int)) (w : World) (h : DG w q G m n L) :
    Calls Try.prog 20 #[.pointer (some q)] w fun e w' => ∃ (A : Addr) (cap : Nat), e = .returned (.slice (some A) (m * n) cap) ∧ Rd .i64 w' (some A) L.flatten ∧ m * n ≤ cap ∧ cap ≤ maxLen ∧ w.heap.size ≤ A.block ∧ Below w.heap.size w w' := by
  obtain ⟨b, hdr, R, rfl, hg, rfl, hG, hd⟩ := h
  obtain ⟨s1, s2, s3⟩ := DG.sizes hd
  have h := rcells_any b hdr R (nums R).flatten w hg rfl s1 s2
  rw [flat_dims hd] at h
  exact h
theorem djoin_any (q : Addr) (G : Nat → Prop) (m n : Nat) (L : List (List Int)) (q2 : Addr) (G2 : Nat → Prop) (M : List (List Int)) (s : Int) (w : World) (h : DG w q G m n L) (h2 : DG w q2 G2 m n M) (hs : s = 1 ∨ s = -1) :
    Calls Try.prog 22 #[.pointer (some q), .pointer (some q2), .int .i64 s] w fun e w' => e = .returned (.int .i64 (jcode s m n m n L M)) ∧ ∃ G', DG w' q G' m n (jres s m n m n L M) ∧ Kept G w w' ∧ (∀ k, G' k → G k ∨ w.heap.size ≤ k) := by
  obtain ⟨b, hdr, R, rfl, hg, rfl, hG, hd⟩ := h
  obtain ⟨b2, hdr2, R2, rfl, hg2, rfl, hG2, hd2⟩ := h2
  obtain ⟨s1, s2, s3⟩ := DG.sizes hd
  obtain ⟨t1, t2, t3⟩ := DG.sizes hd2
  have hlen : R.length = R2.length := by rw [← nums_len, ← nums_len R2, hd.len, hd2.len]
  refine (rjoin_any b b2 hdr hdr2 R R2 s w hg hg2 hs hlen ?_ s1 s2 s3 t3 _ rfl).mono ?_
  · intro i r r2 hr hr2
    rw [(hd.rows _ (nums_mem (List.mem_of_getElem? hr))).1, (hd2.rows _ (nums_mem (List.mem_of_getElem? hr2))).1]
  · rintro e w' (⟨hf, rfl, hdr', R', hg', hn', hF', hk⟩ | ⟨hf, rfl, hb⟩)
    · refine ⟨by simp [jcode, hf], RF b hdr' R', ⟨b, hdr', R', rfl, hg', by rw [hn']; simp [jres, hf], fun k => Iff.rfl, ?_⟩, hk.mono (fun k _ h => by subst h; exact (hG _).2 (.inl rfl)), fun k hk' => ?_⟩
      · have := hd.join hd2 hf
        simpa [jres, hf] using this
      · rcases hF' k hk' with h1 | h1
        · subst h1; exact .inl ((hG _).2 (.inl rfl))
        · exact .inr h1
    · refine ⟨by simp [jcode, hf], G, ⟨b, hdr, R, rfl, hg.keep (Kept.of_below (F := fun _ => False) hb) (fun _ _ h => h), by simp [jres, hf], hG, by simpa [jres, hf] using hd⟩, Kept.of_below hb, fun k h => .inl h⟩
end Go.Proofs.Ytbjbkjdpkplfmaa.Grd
