/-
  What the document's Join does.
  Conditions: as the theorem says (which parts lie there, and that they come to at most a million bytes).
-/
import Derived.Test.YtjjfifgkklpkkaaRws
import Derived.Test.YtjjfifgkklpkkaaRvr
import Derived.Test.YtjjfifgkklpkkaaPkm
import Derived.Test.YtjjfifgkklpkkaaStp
namespace Go.Proofs.Ytjjfifgkklpkkaa
open Go.RowKit

set_option maxRecDepth 100000 in
set_option maxHeartbeats 2000000 in
theorem refJoin_any (A : Option Addr) (n c : Nat) (xss : List (List Nat)) (w : World) (hl : xss.length = n) (hR : Rws (· < w.heap.size) w A xss) (hn : (joinB xss).length ≤ 1000000) :
    Calls Try.prog 12 #[.slice A n c] w fun e w' => ∃ v, e = .returned v ∧ w'.ownsRow w.heap.size 5 1 v (joinB xss).length (Bs (joinB xss)) ∧ Below w.heap.size w w' := by
  have hn2 : n ≤ 1000000 := by have := pts_many xss; rw [joinB_length] at hn; omega
  have HN := Lib.hid hn
  have HL := Lib.hid hl
  have HR := Lib.hid hR
  clear hl hR hn
  have hn3 : n < B64 := by unfold B64; omega
  go_enter Try.func12, Try.ntmps12
  go_wp2_with fail
  refine (refVar_any n w hn3).mono ?_
  rintro e w1 ⟨u1, rfl, hown1, hb1⟩
  have HO1 := Lib.hid hown1
  have HB1 := Lib.hid hb1
  clear hown1 hb1
  go_wp2_with fail
  go_loopw [3, 4] (fun s i wr => ∃ k : Nat, k ≤ n ∧ i = .int .i64 (k : Nat) ∧ (∃ q, q = vb n ++ pts (xss.take k) ∧ q.length ≤ 1000000 ∧ wr.ownsRow w.heap.size 5 1 s q.length (Bs q)) ∧ Below w.heap.size w wr) (fun _ i _ => n - (intOf i).toNat)
  case atStart =>
    refine ⟨0, Nat.zero_le _, rfl, ⟨_, rfl, ?_, ?_⟩, HB1.out⟩
    · have := HN.out
      rw [joinB_length, HL.out] at this
      simp [pts]
      omega
    · simpa [pts] using HO1.out
  case round =>
    obtain ⟨k, hk, rfl, ⟨q, hq, hq2, hown⟩, hbel⟩ := hrel
    have HO : Hid (wr.drew.ownsRow w.heap.size 5 1 u3 q.length (Bs q)) := own_below hown ((Below.refl _ wr).drew) (Nat.le_refl _)
    have HO0 := Lib.hid hown
    have HB0 := Lib.hid hbel
    have HB : Hid (Below w.heap.size w wr.drew) := hbel.drew
    have HQ := Lib.hid hq
    have hs := hbel.size
    clear hown hbel hq
    by_cases hlt : k < n
    · obtain ⟨a, B, c2, rfl, hab, hcell, _, hBy⟩ := HR.out.at (k := k) (by rw [HL.out]; exact hlt)
      have hcell2 : wr.cell? (a.add k) = some (.slice B (xss[k]?.getD []).length c2) := (HB0.out.cell (p := a.add k) (by rw [addBlock]; exact hab)).trans hcell
      have HF := Lib.hid (pts_take xss k (by rw [HL.out]; exact hlt))
      have hle2 := pts_le xss (k + 1)
      rw [HF.out, List.length_append, pt_length] at hle2
      obtain ⟨x, hx⟩ : ∃ x, xss[k]?.getD [] = x := ⟨_, rfl⟩
      rw [hx] at hcell hle2 hcell2 hBy
      have HX := Lib.hid hx
      have HY := Lib.hid hBy
      have HC := Lib.hid hcell
      have HA : Hid ((a.add k).block < w.heap.size) := by show (a.add k).block < w.heap.size; rw [addBlock]; exact hab
      clear hx hcell hBy hab
      have hq3 : q.length + (vb x.length).length + x.length ≤ 1000000 := by
        have := HN.out
        rw [joinB_length, HL.out] at this
        rw [HQ.out, List.length_append]
        omega
      clear hle2
      have hx64 : x.length < B64 := by unfold B64; omega
      have k0 : 0 ≤ (k : Int) := by omega
      have k1 : (k : Int) < (n : Int) := by omega
      have b1 : q.length + (vb x.length).length ≤ 140737488355328 := by omega
      have b2 : q.length + (vb x.length).length + x.length ≤ 140737488355328 := by omega
      have HW : Hid (IntKind.u64.wrap ((x.length : Nat) : Int) = ((x.length : Nat) : Int)) := by show IntKind.u64.wrap ((x.length : Nat) : Int) = _; rw [IntKind.wrap_u64]; omega
      go_wp2_with fail
      go_region_law (first
        | (with_reducible refine step_is (.tmp 15) (.tmp 22) 24 ?_
           refine step_append _ rfl (.tmp 15) (.tmp 22) rfl w.heap.size u3 q.length q rfl HO2.out A2 (vb x.length).length c3 (vb x.length) rfl rfl _ HB2.out b1 HS2.out ?_
           intro v3 w3 hown3 hg3 _
           have HO3 := Lib.hid hown3
           have HB3 := Lib.hid (Hb2.out.grown hg3 HS2.out (fun i hi => (HO.out.lt i hi).1))
           have HS3 := Lib.hid HB3.out.size
           have hcell4 := (HB3.out.cell (p := a.add k) HA.out).trans HC.out
           clear hown3 hg3)
        | (with_reducible refine step_is (.tmp 23) (.tmp 27) 24 ?_
           refine step_append _ rfl (.tmp 23) (.tmp 27) rfl w.heap.size v3 (q.length + (vb x.length).length) (q ++ vb x.length) rfl HO3.out B x.length c2 x rfl rfl (· < w.heap.size) (HY.out.below HB3.out (Nat.le_refl _)) b2 HS3.out ?_
           intro v4 w4 hown4 hg4 _
           have HO4 := Lib.hid hown4
           have HB4 := Lib.hid (HB3.out.grown hg4 HS3.out (fun i hi => (HO3.out.lt i hi).1))
           clear hown4 hg4)
        | (with_reducible refine step_call 21 ?_
           go_simp
           go_at_call 21
           rw [HW.out]
           refine (refVar_any x.length _ hx64).mono ?_
           rintro e w2 ⟨u2, rfl, hown2, hb2⟩
           obtain ⟨A2, c3, rfl, -, -, -, hB2⟩ := own_slice hown2
           have HB2 := Lib.hid hB2
           have Hb2 := Lib.hid (HB.out.trans (hb2.mono HB.out.size))
           have HO2 := Lib.hid (own_below HO.out hb2 (Nat.le_refl _))
           have HS2 := Lib.hid Hb2.out.size
           have hcell3 := (Hb2.out.cell (p := a.add k) HA.out).trans HC.out
           clear hown2 hB2 hb2))
      all_goals
        go_wp2_with fail
        refine ⟨⟨k + 1, by omega, by simp, ⟨q ++ vb x.length ++ x, ?_, ?_, ?_⟩, HB4.out⟩, by simp [intOf]; omega⟩
        · rw [HF.out, HQ.out, HX.out, pt]
          simp [List.append_assoc]
        · simp [List.length_append]
          omega
        · have e : (q ++ vb x.length ++ x).length = q.length + (vb x.length).length + x.length := by simp [List.length_append]; omega
          rw [e]
          exact HO4.out
    · obtain rfl : k = n := by omega
      go_wp2_with fail
      go_ret
      refine ⟨_, rfl, ?_, HB0.out⟩
      have e : joinB xss = q := by
        rw [HQ.out, List.take_of_length_le (by rw [HL.out]; exact Nat.le_refl _), joinB, HL.out]
      rw [e]
      exact HO0.out
end Go.Proofs.Ytjjfifgkklpkkaa
