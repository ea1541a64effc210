/-
  What inst's Get does with a good reader: it takes the instruction that the bytes begin with, or answers that there is none.
  Conditions: as each theorem says (where the Reader lies, what bytes it holds).
-/
import Derived.Test.YtolofgifcjkaaaaIgt
namespace Go.Proofs.Ytolofgifcjkaaaa
open Go.RowKit

/-- The bytes begin with a good instruction: it is taken, and what is behind it stays. -/
theorem iget_yes (g o x y : Nat) (rest : List Nat) (w : World) (hgd : goodI o x y = true) (h : Good w g (insB o x y ++ rest)) (hb : ∀ z ∈ rest, z < 256) (hl : rest.length ≤ 1000000) :
    Calls Try.prog 14 #[.pointer (some ⟨g, 0, none⟩)] w fun e w' => e = .returned (insV (o : Nat) (x : Nat) (y : Nat) true) ∧ Good w' g rest ∧ Only g w w' := by
  have hall : ∀ z ∈ insB o x y ++ rest, z < 256 := by
    intro z hz
    rcases List.mem_append.1 hz with h | h
    · exact insB_bytes _ _ _ z h
    · exact hb z h
  have hlen := insB_len o x y
  have hlx : (insB o x y ++ rest).length ≤ 1000005 := by simp; omega
  obtain ⟨o', x', y', eo, ex, ey, ho, hx, hy, h0, hx1, hy1⟩ := goodI_parts hgd
  obtain rfl : o = o' := by omega
  obtain rfl : x = x' := by omega
  obtain rfl : y = y' := by omega
  rw [insB_good hgd, List.cons_append] at h hall hlx
  have h64 : x < B64 ∧ y < B64 := by unfold B64; omega
  rcases argN_cases o with hn | hn | hn | hn
  · omega
  · obtain rfl : x = 0 := hx1 (by omega)
    obtain rfl : y = 0 := hy1 (by omega)
    rw [hn] at h hall hlx
    simp only [bodyB, show ¬ ((0 : Int) < 0) by omega, show ¬ ((1 : Int) < 0) by omega, if_false, List.nil_append] at h hall hlx
    exact iget_0 g o rest w h hall (by omega) hn
  · obtain rfl : y = 0 := hy1 (by omega)
    rw [hn] at h hall hlx
    simp only [bodyB, show ((0 : Int) < 1) by omega, show ¬ ((1 : Int) < 1) by omega, if_false, if_true, List.append_nil] at h hall hlx
    have := iget_1 g o (vb x ++ rest) w x (vb x).length h hall (by simp at hlx ⊢; omega) hn (isVar_app x h64.1 rest) hx
    rw [List.drop_left] at this
    exact this
  · rw [hn] at h hall hlx
    simp only [bodyB, show ((0 : Int) < 2) by omega, show ((1 : Int) < 2) by omega, if_true, List.append_assoc] at h hall hlx
    have := iget_2 g o (vb x ++ (vb y ++ rest)) w x (vb x).length y (vb y).length h hall (by simp at hlx ⊢; omega) hn (isVar_app x h64.1 _) hx (by rw [List.drop_left]; exact isVar_app y h64.2 rest) hy
    rw [List.drop_left, List.drop_left] at this
    exact this

/-- The bytes begin with no good instruction: none is answered. -/
theorem iget_no (g : Nat) (xs : List Nat) (w : World) (h : Good w g xs) (hb : ∀ z ∈ xs, z < 256) (hl : xs.length ≤ 1000000) (hno : ¬ HasI xs) :
    Calls Try.prog 14 #[.pointer (some ⟨g, 0, none⟩)] w fun e w' => e = .returned (insV 0 0 0 false) ∧ Only g w w' := by
  cases xs with
  | nil => exact iget_empty g w h
  | cons o ys =>
    have hl' : ys.length ≤ 140737488355328 := by simp at hl; omega
    have hd : ∀ m, ∀ z ∈ ys.drop m, z < 256 := fun m z hz => hb z (by simp [List.mem_of_mem_drop hz])
    have yes : ∀ x y : Nat, ∀ rest : List Nat, x ≤ 255 → y ≤ 255 → 0 ≤ argN o → (¬ 0 < argN o → x = 0) → (¬ 1 < argN o → y = 0) → ys ≠ bodyB (argN o) x y ++ rest := by
      intro x y rest hx hy h0 h1 h2 e
      have hg := goodI_mk h0 hx hy h1 h2
      exact hno ⟨o, x, y, rest, hg, by rw [insB_good hg, List.cons_append, ← e]⟩
    rcases argN_cases o with hn | hn | hn | hn
    · exact iget_unknown g o ys w h hb hl' hn
    · exact absurd (by rw [hn]; simp [bodyB]) (yes 0 0 ys (by omega) (by omega) (by omega) (fun _ => rfl) (fun _ => rfl))
    · by_cases hv : ∃ v n, IsVar ys v n
      · obtain ⟨v, m, hv⟩ := hv
        by_cases hb2 : v ≤ 255
        · exact absurd (by rw [hn]; simpa [bodyB] using isVar_split hv) (yes v 0 (ys.drop m) hb2 (by omega) (by omega) (fun h => by omega) (fun _ => rfl))
        · exact iget_1_big g o ys w v m h hb hl' hn hv (by omega)
      · exact iget_1_no g o ys w h hb hl' hn hv
    · by_cases hv : ∃ v n, IsVar ys v n
      · obtain ⟨v, m, hv⟩ := hv
        by_cases hb2 : v ≤ 255
        · by_cases hu : ∃ v n, IsVar (ys.drop m) v n
          · obtain ⟨u, l, hu⟩ := hu
            by_cases hb3 : u ≤ 255
            · refine absurd ?_ (yes v u ((ys.drop m).drop l) hb2 hb3 (by omega) (fun h => by omega) (fun h => by omega))
              rw [hn]
              have e1 := isVar_split hv
              have e2 := isVar_split hu
              simp only [bodyB, show ((0 : Int) < 2) by omega, show ((1 : Int) < 2) by omega, if_true, List.append_assoc]
              rw [← e2]
              exact e1
            · exact iget_2_okbig g o ys w v m u l h hb hl' hn hv hb2 hu (by omega)
          · exact iget_2_okno g o ys w v m h hb hl' hn hv hb2 hu
        · exact iget_2_big g o ys w v m h hb hl' hn hv (by omega)
      · exact iget_2_no g o ys w h hb hl' hn hv
end Go.Proofs.Ytolofgifcjkaaaa
