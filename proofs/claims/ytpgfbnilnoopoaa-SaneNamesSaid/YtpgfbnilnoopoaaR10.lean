/-
  What module's putList does over elements of one kind (string): how many there are, and the bytes of each. Conditions: as the theorem says.
  What pack.Join does. Conditions: as the theorem says (which parts lie there, and that they come to at most a million bytes).
  What module's Encode does: the bytes of a module that fits. Conditions: none but that there is a module.
  What sane's Check and Main come to. Conditions: none but that there is a module.
-/
import Derived.Test.YtpgfbnilnoopoaaR02
import Derived.Test.YtpgfbnilnoopoaaR03
import Derived.Test.YtpgfbnilnoopoaaR04
import Derived.Test.YtpgfbnilnoopoaaR05
import Derived.Test.YtpgfbnilnoopoaaR08
import Derived.Test.YtpgfbnilnoopoaaR09
import Derived.Laws.EntriesVeiled
namespace Go.Proofs.Ytpgfbnilnoopoaa
open Go.RowKit
set_option linter.unusedSimpArgs false
set_option linter.unusedVariables false

set_option maxRecDepth 100000 in
set_option maxHeartbeats 1000000 in
theorem putList_str (A : Option Addr) (n c : Nat) (xs : List (List Nat)) (w : World) (hl : xs.length = n) (h : Sq strL (· < w.heap.size) w A xs) (hn2 : n ≤ 1000000) (hn : (lB pt xs).length ≤ 1000000)
    (hP : ∀ (w1 : World) (cs : List Value) (x : (List Nat)), x ∈ xs → strL.R (· < w1.heap.size) w1 cs x → Calls Try.prog 37 #[vOne cs] w1 (Puts (pt x) w1)) :
    Calls Try.prog 36 #[.slice A n c, .func (.func 37) #[] #[]] w (Puts (lB pt xs) w) := by
  have HN := Lib.hid hn
  have HL := Lib.hid hl
  have HS := Lib.hid h
  have HP0 := Lib.hid hP
  clear hl h hn hP
  have hn3 : n < B64 := by unfold B64; omega
  go_enter Try.func36, Try.ntmps36
  go_wp2_with fail
  refine (var_any n w hn3).mono ?_
  rintro e w1 ⟨u1, rfl, hown1, hb1⟩
  have HO1 := Lib.hid hown1
  have HB1 := Lib.hid hb1
  clear hown1 hb1
  go_wp2_with fail
  go_loopw [5, 14] (fun s i wr => ∃ k : Nat, k ≤ n ∧ i = .int .i64 (k : Nat) ∧ (∃ q, q = vb n ++ ((xs.take k).map pt).flatten ∧ q.length ≤ 1000000 ∧ wr.ownsRow w.heap.size 5 1 s q.length (Bs q)) ∧ Below w.heap.size w wr) (fun _ i _ => n - (intOf i).toNat)
  case atStart =>
    refine ⟨0, Nat.zero_le _, rfl, ⟨_, rfl, ?_, ?_⟩, HB1.out⟩
    · have := HN.out
      simp only [lB, List.length_append, HL.out] at this
      simp
      omega
    · simpa using HO1.out
  case round =>
    obtain ⟨k, hk, rfl, ⟨q, hq, hq2, hown⟩, hbel⟩ := hrel
    have HO := Lib.hid hown
    have HB := Lib.hid hbel
    have HQ := Lib.hid hq
    have hs := hbel.size
    clear hown hbel hq
    by_cases hlt : k < n
    · skip
      obtain ⟨x, hx⟩ : ∃ x, xs[k]? = some x := ⟨xs[k]'(by rw [HL.out]; exact hlt), List.getElem?_eq_getElem _⟩
      have hmem : x ∈ xs := List.mem_of_getElem? hx
      obtain ⟨a, cs, rfl, hab, hc, hr⟩ := HS.out.at hx
      have HF := Lib.hid (cut_flat pt xs k x hx)
      have hle2 := flat_short pt xs (k + 1)
      rw [HF.out, List.length_append] at hle2
      have hq3 : q.length + (pt x).length ≤ 1000000 := by
        have := HN.out
        simp only [lB, List.length_append, HL.out] at this
        rw [HQ.out, List.length_append]
        omega
      clear hle2 hx
      have HR := Lib.hid hr
      obtain ⟨s0, rfl, -⟩ := hr
      have c0 := (HB.out.cell (p := a.add k) (by rw [addBlock]; exact hab)).trans (one_cell (K := strL.k) rfl (hc 0 _ rfl))
      have HP : Hid (∀ w1, Below w.heap.size w w1 → Calls Try.prog 37 #[.string s0] w1 (Puts (pt x) w1)) := fun w1 hb => HP0.out w1 [.string s0] x hmem (strL.wide (strL.keep HR.out fun b hb1 => hb.block b hb1) fun b hb1 => Nat.lt_of_lt_of_le hb1 hb.size)
      clear hc
      obtain ⟨y, hy⟩ : ∃ y, pt x = y := ⟨_, rfl⟩
      rw [hy] at hq3 HP
      have HY := Lib.hid hy
      clear hy
      go_wp2_with (first
        | (go_at_call 37
           refine (HP.out _ (HB.out)).mono ?_
           rintro e w2 ⟨u2, rfl, hown2, hb2⟩
           obtain ⟨A3, c3, rfl, -, -, -, hB2⟩ := own_slice hown2
           have HB2 := Lib.hid hB2
           have HO2 := Lib.hid (own_below (HO.out) hb2 (Nat.le_refl _))
           have Hb2 := Lib.hid ((HB.out).trans (hb2.mono (hs)))
           have hs2 := Hb2.out.size
           clear hown2 hB2 hb2)
        | (at_builtin
           refine walk_append _ rfl (.tmp 18) (.tmp 21) rfl w.heap.size u5 q.length q rfl HO2.out A3 y.length c3 y rfl rfl _ HB2.out (by omega) (by omega) ?_
           intro v4 w4 hown4 hg4 _
           have HO4 := Lib.hid hown4
           have HG4 := Lib.hid hg4
           clear hown4 hg4))
      refine ⟨⟨k + 1, by omega, by simp, ⟨q ++ y, ?_, ?_, ?_⟩, Hb2.out.grown HG4.out (by omega) (fun i hi => (HO2.out.lt i hi).1)⟩, by simp [intOf]; omega⟩
      · rw [HF.out, HQ.out, HY.out]
        simp [List.append_assoc]
      · simp [List.length_append]
        omega
      · rw [List.length_append]
        exact HO4.out
    · obtain rfl : k = n := by omega
      go_wp2_with fail
      go_ret
      refine ⟨_, rfl, ?_, HB.out⟩
      have e : lB pt xs = q := by
        rw [HQ.out, List.take_of_length_le (by rw [HL.out]; exact Nat.le_refl _), lB, HL.out]
      rw [e]
      exact HO.out
end Go.Proofs.Ytpgfbnilnoopoaa
namespace Go.Proofs.Ytpgfbnilnoopoaa
open Go.RowKit

set_option maxRecDepth 100000 in
set_option maxHeartbeats 1000000 in
theorem join_any (A : Option Addr) (n c : Nat) (xss : List (List Nat)) (w : World) (hl : xss.length = n) (hR : Rws (· < w.heap.size) w A xss) (hn : (joinB xss).length ≤ 1000000) :
    Calls Try.prog 27 #[.slice A n c] w fun e w' => ∃ v, e = .returned v ∧ w'.ownsRow w.heap.size 5 1 v (joinB xss).length (Bs (joinB xss)) ∧ Below w.heap.size w w' := by
  have hn2 : n ≤ 1000000 := by have := pts_many xss; rw [joinB_length] at hn; omega
  have HN := Lib.hid hn
  have HL := Lib.hid hl
  have HR := Lib.hid hR
  clear hl hR hn
  have hn3 : n < B64 := by unfold B64; omega
  go_enter Try.func27, Try.ntmps27
  go_wp2_with fail
  refine (var_any n w hn3).mono ?_
  rintro e w1 ⟨u1, rfl, hown1, hb1⟩
  have HO1 := Lib.hid hown1
  have HB1 := Lib.hid hb1
  clear hown1 hb1
  go_wp2_with fail
  go_loopw [3, 12] (fun s i wr => ∃ k : Nat, k ≤ n ∧ i = .int .i64 (k : Nat) ∧ (∃ q, q = vb n ++ pts (xss.take k) ∧ q.length ≤ 1000000 ∧ wr.ownsRow w.heap.size 5 1 s q.length (Bs q)) ∧ Below w.heap.size w wr) (fun _ i _ => n - (intOf i).toNat)
  case atStart =>
    refine ⟨0, Nat.zero_le _, rfl, ⟨_, rfl, ?_, ?_⟩, HB1.out⟩
    · have := HN.out
      rw [joinB_length, HL.out] at this
      simp [pts]
      omega
    · simpa [pts] using HO1.out
  case round =>
    obtain ⟨k, hk, rfl, ⟨q, hq, hq2, hown⟩, hbel⟩ := hrel
    have HO := Lib.hid hown
    have HB := Lib.hid hbel
    have HQ := Lib.hid hq
    have hs := hbel.size
    clear hown hbel hq
    by_cases hlt : k < n
    · obtain ⟨a, B, c2, rfl, hab, hcell, _, hBy⟩ := HR.out.at (k := k) (by rw [HL.out]; exact hlt)
      have hcell2 := (HB.out.cell (p := a.add k) (by rw [addBlock]; exact hab)).trans hcell
      have HF := Lib.hid (pts_take xss k (by rw [HL.out]; exact hlt))
      have hle2 := pts_le xss (k + 1)
      rw [HF.out, List.length_append, pt_length] at hle2
      obtain ⟨x, hx⟩ : ∃ x, xss[k]?.getD [] = x := ⟨_, rfl⟩
      rw [hx] at hcell hle2 hcell2 hBy
      have HX := Lib.hid hx
      have HY := Lib.hid hBy
      clear hx hcell hBy
      have hq3 : q.length + (vb x.length).length + x.length ≤ 1000000 := by
        have := HN.out
        rw [joinB_length, HL.out] at this
        rw [HQ.out, List.length_append]
        omega
      clear hle2
      have hx64 : x.length < B64 := by unfold B64; omega
      go_wp2_with fail
      refine (var_any x.length wr hx64).mono ?_
      rintro e w2 ⟨u2, rfl, hown2, hb2⟩
      obtain ⟨A2, c3, rfl, -, -, -, hB2⟩ := own_slice hown2
      have HB2 := Lib.hid hB2
      have Hb2 := Lib.hid hb2
      have HO2 := Lib.hid (own_below HO.out hb2 (Nat.le_refl _))
      have hs2 := hb2.size
      clear hown2 hB2 hb2
      go_wp2_with (first
        | (at_builtin
           refine walk_append _ rfl (.tmp 16) (.tmp 20) rfl w.heap.size u3 q.length q rfl HO2.out A2 (vb x.length).length c3 (vb x.length) rfl rfl _ HB2.out (by omega) (by omega) ?_
           intro v3 w3 hown3 hg3 _
           have HO3 := Lib.hid hown3
           have HG3 := Lib.hid hg3
           have HB3 := Lib.hid ((HB.out.trans (Hb2.out.mono (by omega))).grown hg3 (by omega) (fun i hi => (HO.out.lt i hi).1))
           have hs3 := hg3.size
           clear hown3 hg3)
        | (at_builtin
           refine walk_append _ rfl (.tmp 22) (.tmp 23) rfl w.heap.size v3 (q.length + (vb x.length).length) (q ++ vb x.length) rfl HO3.out B x.length c2 x rfl rfl (· < w.heap.size) (HY.out.below HB3.out (Nat.le_refl _)) (by omega) (by omega) ?_
           intro v4 w4 hown4 hg4 _
           have HO4 := Lib.hid hown4
           have HG4 := Lib.hid hg4
           clear hown4 hg4))
      refine ⟨⟨k + 1, by omega, by simp, ⟨q ++ vb x.length ++ x, ?_, ?_, ?_⟩, HB3.out.grown HG4.out (by omega) (fun i hi => (HO3.out.lt i hi).1)⟩, by simp [intOf]; omega⟩
      · rw [HF.out, HQ.out, HX.out, pt]
        simp [List.append_assoc]
      · simp [List.length_append]
        omega
      · have e : (q ++ vb x.length ++ x).length = q.length + (vb x.length).length + x.length := by simp [List.length_append]; omega
        rw [e]
        exact HO4.out
    · obtain rfl : k = n := by omega
      go_wp2_with fail
      go_ret
      refine ⟨_, rfl, ?_, HB.out⟩
      have e : joinB xss = q := by
        rw [HQ.out, List.take_of_length_le (by rw [HL.out]; exact Nat.le_refl _), joinB, HL.out]
      rw [e]
      exact HO.out
end Go.Proofs.Ytpgfbnilnoopoaa
namespace Go.Proofs.Ytpgfbnilnoopoaa
open Go.RowKit
set_option linter.unusedSimpArgs false
set_option linter.unusedVariables false

theorem rws_five (w : World) (A0 A1 A2 A3 A4 : Option Addr) (c0 c1 c2 c3 c4 : Nat) (x0 x1 x2 x3 x4 : List Nat) (h0 : Yb w A0 c0 x0) (h1 : Yb w A1 c1 x1) (h2 : Yb w A2 c2 x2) (h3 : Yb w A3 c3 x3) (h4 : Yb w A4 c4 x4) :
    Rws (· < (w.alloc (.cells #[.slice A0 x0.length c0, .slice A1 x1.length c1, .slice A2 x2.length c2, .slice A3 x3.length c3, .slice A4 x4.length c4] 49)).heap.size)
      (w.alloc (.cells #[.slice A0 x0.length c0, .slice A1 x1.length c1, .slice A2 x2.length c2, .slice A3 x3.length c3, .slice A4 x4.length c4] 49)) (some ⟨w.heap.size, 0, none⟩) [x0, x1, x2, x3, x4] := fun _ => by
  refine ⟨_, rfl, by simp, fun j hj => ?_⟩
  have hk : ∀ o : Obj, ∀ b, b < w.heap.size → (w.alloc o).heap[b]? = w.heap[b]? := fun o b hb => Below.heap_alloc w _ b hb
  have e : (⟨w.heap.size, 0, none⟩ : Addr).add j = ⟨w.heap.size, j, none⟩ := by unfold Addr.add; split <;> simp_all
  rw [e, World.cell?_alloc_mark]
  match j, hj with
  | 0, _ => exact ⟨A0, c0, rfl, h0.1, (h0.2.keep (hk _)).wide fun b hb => by simp; omega⟩
  | 1, _ => exact ⟨A1, c1, rfl, h1.1, (h1.2.keep (hk _)).wide fun b hb => by simp; omega⟩
  | 2, _ => exact ⟨A2, c2, rfl, h2.1, (h2.2.keep (hk _)).wide fun b hb => by simp; omega⟩
  | 3, _ => exact ⟨A3, c3, rfl, h3.1, (h3.2.keep (hk _)).wide fun b hb => by simp; omega⟩
  | 4, _ => exact ⟨A4, c4, rfl, h4.1, (h4.2.keep (hk _)).wide fun b hb => by simp; omega⟩
  | j + 5, hj => exact absurd hj (by simp)

/-- What Encode answers. -/
def Encodes (m : Mod) (w : World) (e : Ending) (w' : World) : Prop :=
  Below w.heap.size w w' ∧ ((fitB m = false ∧ e = .returned (.tuple #[.slice none 0 0, .int .i64 2])) ∨
    (fitB m = true ∧ ∃ u, e = .returned (.tuple #[u, .int .i64 0]) ∧ w'.ownsRow w.heap.size 5 1 u (modB m).length (Bs (modB m))))

set_option maxRecDepth 100000 in
set_option maxHeartbeats 4000000 in
theorem encode_any (cs : List Value) (x : Mod) (w : World) (h : modL.R (· < w.heap.size) w cs x) : Calls Try.prog 14 #[vAgg cs] w (Encodes x w) := by
  have TF : Hid (∀ w1, Below w.heap.size w w1 → Calls Try.prog 26 #[vAgg cs] w1 (Tells (fitB x) w1)) := fun w1 hb => fits_any cs x w1 (modL.wide (modL.keep h fun b hb1 => hb.block b hb1) fun b hb1 => Nat.lt_of_lt_of_le hb1 hb.size)
  obtain ⟨_, _, _, _, _, rfl, ⟨A0, d0, e0, l0, m0, s0⟩, ⟨A1, d1, e1, l1, m1, s1⟩, ⟨A2, d2, e2, l2, m2, s2⟩, ⟨A3, d3, e3, l3, m3, s3⟩, ⟨A4, d4, e4, l4, m4, s4⟩⟩ := h
  simp only [List.cons.injEq, and_true] at e0 e1 e2 e3 e4
  subst e0 e1 e2 e3 e4
  have TF2 : Hid (∀ w1, Below w.heap.size w w1 → Calls Try.prog 26 #[.agg #[.slice A0 x.recs.length d0, .slice A1 x.funcs.length d1, .slice A2 x.imps.length d2, .slice A3 x.ints.length d3, .slice A4 x.texts.length d4]] w1 (Tells (fitB x) w1)) := TF.out
  clear TF
  show Calls Try.prog 14 #[.agg #[.slice A0 x.recs.length d0, .slice A1 x.funcs.length d1, .slice A2 x.imps.length d2, .slice A3 x.ints.length d3, .slice A4 x.texts.length d4]] w (Encodes x w)
  have HB0 : Hid (∀ o : Obj, Below w.heap.size w (w.alloc o)) := fun o => (Below.refl _ _).alloc (Nat.le_refl _) _
  cases hf : fitB x
  · rw [hf] at TF2
    have HF := Lib.hid hf
    generalize x.recs.length = n0 at *
    generalize x.funcs.length = n1 at *
    generalize x.imps.length = n2 at *
    generalize x.ints.length = n3 at *
    generalize x.texts.length = n4 at *
    clear hf s0 s1 s2 s3 s4 m0 m1 m2 m3 m4
    go_enter Try.func14, Try.ntmps14
    go_wp2_with (first
      | (go_at_call 26
         refine (TF2.out _ (HB0.out _)).mono ?_
         rintro e w1 ⟨rfl, hb1⟩
         have HB1 := Lib.hid ((HB0.out _).trans (hb1.mono (by simp)))
         clear hb1))
    go_ret2
    exact ⟨HB1.out, .inl ⟨HF.out, rfl⟩⟩
  · rw [hf] at TF2
    have hF := fitB_iff.1 hf
    have HF := Lib.hid hf
    have hpl := hF.parts_len
    have p0 := hpl 0 (by simp [partsB])
    have p1 := hpl 1 (by simp [partsB])
    have p2 := hpl 2 (by simp [partsB])
    have p3 := hpl 3 (by simp [partsB])
    have p4 := hpl 4 (by simp [partsB])
    simp [partsB] at p0 p1 p2 p3 p4
    have r8 := hF.r8
    have f8 := hF.f8
    have i8 := hF.i8
    have n16 := hF.n16
    have t16 := hF.t16
    obtain ⟨n0, h0⟩ : ∃ n, x.recs.length = n := ⟨_, rfl⟩
    obtain ⟨n1, h1⟩ : ∃ n, x.funcs.length = n := ⟨_, rfl⟩
    obtain ⟨n2, h2⟩ : ∃ n, x.imps.length = n := ⟨_, rfl⟩
    obtain ⟨n3, h3⟩ : ∃ n, x.ints.length = n := ⟨_, rfl⟩
    obtain ⟨n4, h4⟩ : ∃ n, x.texts.length = n := ⟨_, rfl⟩
    obtain ⟨y0, hy0⟩ : ∃ y, lB (lB tB) x.recs = y := ⟨_, rfl⟩
    obtain ⟨y1, hy1⟩ : ∃ y, lB fnB x.funcs = y := ⟨_, rfl⟩
    obtain ⟨y2, hy2⟩ : ∃ y, lB impB x.imps = y := ⟨_, rfl⟩
    obtain ⟨y3, hy3⟩ : ∃ y, lB numB x.ints = y := ⟨_, rfl⟩
    obtain ⟨y4, hy4⟩ : ∃ y, lB pt x.texts = y := ⟨_, rfl⟩
    have P0 : Hid (∀ w1, Below w.heap.size w w1 → Calls Try.prog 28 #[.slice A0 n0 d0, .func (.func 29) #[] #[]] w1 (Puts y0 w1)) := fun w1 hb => by
      rw [← hy0]
      refine putList_rec A0 n0 d0 x.recs w1 h0 ((s0.keep fun b hb1 => hb.block b hb1).wide fun b hb1 => Nat.lt_of_lt_of_le hb1 hb.size) (by omega) (by omega) fun w2 cs y hy hr => ?_
      obtain ⟨A, c, rfl, l1, l2, l3⟩ := hr
      have hz := rec_sizes (hF.recs y hy)
      have hzl := tys_len hF.r8 (by omega) hz.2
      exact putTypes_any A y.length c y w2 rfl l3 (by omega) (by omega)
    have P1 : Hid (∀ w1, Below w.heap.size w w1 → Calls Try.prog 30 #[.slice A1 n1 d1, .func (.func 31) #[] #[]] w1 (Puts y1 w1)) := fun w1 hb => by
      rw [← hy1]
      exact putList_fn A1 n1 d1 x.funcs w1 h1 ((s1.keep fun b hb1 => hb.block b hb1).wide fun b hb1 => Nat.lt_of_lt_of_le hb1 hb.size) (by omega) (by omega) fun w2 cs y hy hr => putFunction_any cs y _ w2 hF.r8 (hF.funcs y hy) hr
    have P2 : Hid (∀ w1, Below w.heap.size w w1 → Calls Try.prog 32 #[.slice A2 n2 d2, .func (.func 33) #[] #[]] w1 (Puts y2 w1)) := fun w1 hb => by
      rw [← hy2]
      exact putList_imp A2 n2 d2 x.imps w1 h2 ((s2.keep fun b hb1 => hb.block b hb1).wide fun b hb1 => Nat.lt_of_lt_of_le hb1 hb.size) (by omega) (by omega) fun w2 cs y hy hr => putImport_any cs y _ w2 hF.r8 (hF.imps y hy) hr
    have P3 : Hid (∀ w1, Below w.heap.size w w1 → Calls Try.prog 34 #[.slice A3 n3 d3, .func (.func 35) #[] #[]] w1 (Puts y3 w1)) := fun w1 hb => by
      rw [← hy3]
      refine putList_num A3 n3 d3 x.ints w1 h3 ((s3.keep fun b hb1 => hb.block b hb1).wide fun b hb1 => Nat.lt_of_lt_of_le hb1 hb.size) (by omega) (by omega) fun w2 cs y hy hr => ?_
      obtain ⟨rfl, hy64⟩ := hr
      exact putNumber_w y w2 hy64
    have P4 : Hid (∀ w1, Below w.heap.size w w1 → Calls Try.prog 36 #[.slice A4 n4 d4, .func (.func 37) #[] #[]] w1 (Puts y4 w1)) := fun w1 hb => by
      rw [← hy4]
      refine putList_str A4 n4 d4 x.texts w1 h4 ((s4.keep fun b hb1 => hb.block b hb1).wide fun b hb1 => Nat.lt_of_lt_of_le hb1 hb.size) (by omega) (by omega) fun w2 cs y hy hr => ?_
      obtain ⟨s, rfl, rfl⟩ := hr
      exact putText_w s w2 (by have := hF.texts _ hy; omega)
    have hlen := hF.len
    have HI : Hid (modB x = joinB [y0, y1, y2, y3, y4]) := by show modB x = _; rw [← hy0, ← hy1, ← hy2, ← hy3, ← hy4]; rfl
    have HZ : Hid ((joinB [y0, y1, y2, y3, y4]).length ≤ 1000000) := by show (joinB _).length ≤ _; rw [← HI.out]; omega
    rw [h0, h1, h2, h3, h4] at TF2 ⊢
    clear hF hf hpl p0 p1 p2 p3 p4 r8 f8 i8 n16 t16 h0 h1 h2 h3 h4 hy0 hy1 hy2 hy3 hy4 s0 s1 s2 s3 s4 l0 l1 l2 l3 l4 m0 m1 m2 m3 m4 hlen
    go_enter Try.func14, Try.ntmps14
    have HC : Hid (C5 w.heap.size (.slice A0 n0 d0) (.slice A1 n1 d1) (.slice A2 n2 d2) (.slice A3 n3 d3) (.slice A4 n4 d4) (w.alloc (.cells #[.slice A0 n0 d0, .slice A1 n1 d1, .slice A2 n2 d2, .slice A3 n3 d3, .slice A4 n4 d4] 28))) := by show C5 _ _ _ _ _ _ _; simp [C5, go_sem]
    go_wp2_with (first
      | (go_at_call 26
         refine (TF2.out _ (HB0.out _)).mono ?_
         rintro e W ⟨rfl, hb1⟩
         have HB := Lib.hid ((HB0.out _).trans (hb1.mono (by simp)))
         have HC0 := Lib.hid (HC.out.below hb1 (by simp))
         have hs : w.heap.size < W.heap.size := (by have := hb1.size; simp at this; omega)
         clear hb1))
    obtain ⟨z0, z1, z2, z3, z4⟩ := HC0.out
    go_region_held3 (fun w' => w'.cell? ⟨w.heap.size, 0, none⟩ = some (.slice A0 n0 d0) ∧ w'.cell? ⟨w.heap.size, 1, none⟩ = some (.slice A1 n1 d1) ∧ w'.cell? ⟨w.heap.size, 2, none⟩ = some (.slice A2 n2 d2) ∧ w'.cell? ⟨w.heap.size, 3, none⟩ = some (.slice A3 n3 d3) ∧ w'.cell? ⟨w.heap.size, 4, none⟩ = some (.slice A4 n4 d4))
      (first | exact HC6.out | exact HC5.out | exact HC5.out.below (Below.alloc (Below.refl _ _) (Nat.le_refl _) _) HS5.out | exact HC4.out | exact HC3.out | exact HC2.out | exact HC1.out | exact HC0.out)
      (first
        | (go_at_call 28
           refine (P0.out _ HB.out.drew).mono ?_
           rintro e w1 ⟨u1, rfl, hown1, hb1⟩
           obtain ⟨B0, f0, rfl, hy0⟩ := Yb.of hown1
           have Y0a := Lib.hid hy0
           have HB1 := Lib.hid (HB.out.drew.trans (hb1.mono HB.out.size))
           have HC1 := Lib.hid (C5.below (w := W.drew) HC0.out hb1 hs)
           have HS1 := Lib.hid (Nat.lt_of_lt_of_le hs hb1.size)
           clear hown1 hb1 hy0)
        | (go_at_call 30
           refine (P1.out _ HB1.out).mono ?_
           rintro e w2 ⟨u2, rfl, hown2, hb2⟩
           obtain ⟨B1, f1, rfl, hy1⟩ := Yb.of hown2
           have Y0b := Lib.hid (Y0a.out.below hb2)
           have Y1a := Lib.hid hy1
           have HB2 := Lib.hid (HB1.out.trans (hb2.mono HB1.out.size))
           have HC2 := Lib.hid (HC1.out.below hb2 HS1.out)
           have HS2 := Lib.hid (Nat.lt_of_lt_of_le HS1.out hb2.size)
           clear hown2 hb2 hy1)
        | (go_at_call 32
           refine (P2.out _ HB2.out).mono ?_
           rintro e w3 ⟨u3, rfl, hown3, hb3⟩
           obtain ⟨B2, f2, rfl, hy2⟩ := Yb.of hown3
           have Y0c := Lib.hid (Y0b.out.below hb3)
           have Y1b := Lib.hid (Y1a.out.below hb3)
           have Y2a := Lib.hid hy2
           have HB3 := Lib.hid (HB2.out.trans (hb3.mono HB2.out.size))
           have HC3 := Lib.hid (HC2.out.below hb3 HS2.out)
           have HS3 := Lib.hid (Nat.lt_of_lt_of_le HS2.out hb3.size)
           clear hown3 hb3 hy2)
        | (go_at_call 34
           refine (P3.out _ HB3.out).mono ?_
           rintro e w4 ⟨u4, rfl, hown4, hb4⟩
           obtain ⟨B3, f3, rfl, hy3⟩ := Yb.of hown4
           have Y0d := Lib.hid (Y0c.out.below hb4)
           have Y1c := Lib.hid (Y1b.out.below hb4)
           have Y2b := Lib.hid (Y2a.out.below hb4)
           have Y3a := Lib.hid hy3
           have HB4 := Lib.hid (HB3.out.trans (hb4.mono HB3.out.size))
           have HC4 := Lib.hid (HC3.out.below hb4 HS3.out)
           have HS4 := Lib.hid (Nat.lt_of_lt_of_le HS3.out hb4.size)
           clear hown4 hb4 hy3)
        | (go_at_call 36
           refine (P4.out _ HB4.out).mono ?_
           rintro e w5 ⟨u5, rfl, hown5, hb5⟩
           obtain ⟨B4, f4, rfl, hy4⟩ := Yb.of hown5
           have Y0 := Lib.hid (Y0d.out.below hb5)
           have Y1 := Lib.hid (Y1c.out.below hb5)
           have Y2 := Lib.hid (Y2b.out.below hb5)
           have Y3 := Lib.hid (Y3a.out.below hb5)
           have Y4 := Lib.hid hy4
           have HB5 := Lib.hid (HB4.out.trans (hb5.mono HB4.out.size))
           have HC5 := Lib.hid (HC4.out.below hb5 HS4.out)
           have HS5 := Lib.hid (Nat.lt_of_lt_of_le HS4.out hb5.size)
           clear hown5 hb5 hy4)
        | (go_at_call 27
           refine (join_any _ _ _ [y0, y1, y2, y3, y4] _ rfl (rws_five w5 B0 B1 B2 B3 B4 f0 f1 f2 f3 f4 y0 y1 y2 y3 y4 Y0.out Y1.out Y2.out Y3.out Y4.out) HZ.out).mono ?_
           rintro e w6 ⟨u6, rfl, hown6, hb6⟩
           have HO6 := Lib.hid hown6
           have Hb6 := Lib.hid hb6
           have HC6 := Lib.hid ((HC5.out.below (Below.alloc (Below.refl _ _) (Nat.le_refl _) _) HS5.out).below hb6 (by simp; have := HS5.out; omega))
           clear hown6 hb6))
    go_wp2_with fail
    go_ret2
    refine ⟨(HB5.out.alloc HB5.out.size _).trans (Hb6.out.mono (by simp; have := HB5.out.size; omega)), .inr ⟨HF.out, _, rfl, ?_⟩⟩
    rw [HI.out]
    exact own_wide HO6.out (by simp; have := HB5.out.size; omega)
end Go.Proofs.Ytpgfbnilnoopoaa
namespace Go.Proofs.Ytpgfbnilnoopoaa
open Go.RowKit
set_option linter.unusedSimpArgs false
set_option linter.unusedVariables false

/-- It answers the error n; nothing is changed. -/
def Errs (n : Int) (w : World) (e : Ending) (w' : World) : Prop := e = .returned (.int .i64 n) ∧ Below w.heap.size w w'

set_option maxRecDepth 100000 in
set_option maxHeartbeats 4000000 in
theorem check_any (cs : List Value) (x : Mod) (w : World) (h : modL.R (· < w.heap.size) w cs x) : Calls Try.prog 9 #[vAgg cs] w (Errs (checkN x) w) := by
  have TE : Hid (∀ w1, Below w.heap.size w w1 → Calls Try.prog 14 #[vAgg cs] w1 (Encodes x w1)) := fun w1 hb => encode_any cs x w1 (mod_at h hb)
  obtain ⟨_, _, _, _, _, rfl, ⟨A0, d0, e0, l0, m0, s0⟩, ⟨A1, d1, e1, l1, m1, s1⟩, ⟨A2, d2, e2, l2, m2, s2⟩, ⟨A3, d3, e3, -⟩, ⟨A4, d4, e4, -⟩⟩ := h
  simp only [List.cons.injEq, and_true] at e0 e1 e2 e3 e4
  subst e0 e1 e2 e3 e4
  obtain ⟨n0, h0⟩ : ∃ n, x.recs.length = n := ⟨_, rfl⟩
  obtain ⟨n1, h1⟩ : ∃ n, x.funcs.length = n := ⟨_, rfl⟩
  obtain ⟨n2, h2⟩ : ∃ n, x.imps.length = n := ⟨_, rfl⟩
  obtain ⟨n3, h3⟩ : ∃ n, x.ints.length = n := ⟨_, rfl⟩
  obtain ⟨n4, h4⟩ : ∃ n, x.texts.length = n := ⟨_, rfl⟩
  rw [h0, h1, h2, h3, h4] at TE ⊢
  unfold maxLen at m0 m1 m2
  rw [h0] at l0
  rw [h1] at l1
  rw [h2] at l2
  have TE2 : Hid (∀ w1, Below w.heap.size w w1 → Calls Try.prog 14 #[.agg #[.slice A0 n0 d0, .slice A1 n1 d1, .slice A2 n2 d2, .slice A3 n3 d3, .slice A4 n4 d4]] w1 (Encodes x w1)) := TE.out
  clear TE
  show Calls Try.prog 9 #[.agg #[.slice A0 n0 d0, .slice A1 n1 d1, .slice A2 n2 d2, .slice A3 n3 d3, .slice A4 n4 d4]] w (Errs (checkN x) w)
  have HB0 : Hid (∀ o : Obj, Below w.heap.size w (w.alloc o)) := fun o => (Below.refl _ _).alloc (Nat.le_refl _) _
  have HC0 : Hid (C5 w.heap.size (.slice A0 n0 d0) (.slice A1 n1 d1) (.slice A2 n2 d2) (.slice A3 n3 d3) (.slice A4 n4 d4) (w.alloc (.cells #[.slice A0 n0 d0, .slice A1 n1 d1, .slice A2 n2 d2, .slice A3 n3 d3, .slice A4 n4 d4] 28))) := by show C5 _ _ _ _ _ _ _; simp [C5, go_sem]
  cases hf : fitB x
  · have HF := Lib.hid hf
    have HN := Lib.hid (checkN_unfit hf)
    generalize checkN x = cn at *
    clear hf s0 s1 s2 h0 h1 h2 h3 h4
    go_enter Try.func9, Try.ntmps9
    go_wp2_with (first
      | (go_at_call 14
         refine (TE2.out _ (HB0.out _)).mono ?_
         rintro e w1 ⟨hb1, ⟨h1, rfl⟩ | ⟨h1, h2⟩⟩
         rotate_left
         · rw [HF.out] at h1
           cases h1
         have HB1 := Lib.hid ((HB0.out _).trans (hb1.mono (by simp)))
         clear hb1 h1))
    go_ret
    exact ⟨by rw [HN.out]; rfl, HB1.out⟩
  · have HF := Lib.hid hf
    have hF := fitB_iff.1 hf
    have T1 : Hid (∀ w1 (B : Nat), Below w.heap.size w w1 → C5 B (.slice A0 n0 d0) (.slice A1 n1 d1) (.slice A2 n2 d2) (.slice A3 n3 d3) (.slice A4 n4 d4) w1 → Calls Try.prog 20 #[.slice A1 n1 d1, .func (.func 15) #[] #[.pointer (some ⟨B, 0, none⟩)]] w1 (Tells (x.funcs.any (badFn x)) w1)) := fun w1 B hb hc =>
      contains_bfn A1 n1 d1 x.funcs (badFn x) ⟨B, 0, none⟩ w1 h1 ((s1.keep fun b hb1 => hb.block b hb1).wide fun b hb1 => Nat.lt_of_lt_of_le hb1 hb.size) (by omega) fun w2 cs y hb2 hy hr => by
        have hb3 : Below w.heap.size w w2 := hb.trans (hb2.mono hb.size)
        exact check1_any A0 A1 A2 A3 A4 n0 n1 n2 n3 n4 d0 d1 d2 d3 d4 x B y w2 h0 h1 h2 h3 h4 (by omega) ((s0.keep fun b hb1 => hb3.block b hb1).wide fun b hb1 => Nat.lt_of_lt_of_le hb1 hb3.size) (hc.below hb2 (World.block_lt_of_cell? w1 _ hc.1)) cs hr (by rw [← h0]; exact hF.funcs y hy)
    have T2 : Hid (∀ w1, Below w.heap.size w w1 → Calls Try.prog 21 #[.slice A2 n2 d2, .func (.func 22) #[] #[]] w1 (Tells (x.imps.any badImp) w1)) := fun w1 hb =>
      contains_bim A2 n2 d2 x.imps badImp w1 h2 ((s2.keep fun b hb1 => hb.block b hb1).wide fun b hb1 => Nat.lt_of_lt_of_le hb1 hb.size) (by omega) fun w2 cs y _ _ hr => wrongImport_any y w2 cs hr
    have HO : Hid (badM x = (x.funcs.any (badFn x) || x.imps.any badImp)) := rfl
    have HN : Hid (checkN x = if badM x = true then 1 else 0) := by show checkN x = _; simp [checkN, hf]
    generalize checkN x = cn at *
    generalize badM x = bm at *
    generalize x.funcs.any (badFn x) = b1 at *
    generalize x.imps.any badImp = b2 at *
    clear hf hF s0 s1 s2 h0 h1 h2 h3 h4
    cases b1
    case' false => cases b2
    all_goals
      go_enter Try.func9, Try.ntmps9
      go_wp2_with (first
        | (go_at_call 14
           refine (TE2.out _ (HB0.out _)).mono ?_
           rintro e w1 ⟨hb1, ⟨h1, h2⟩ | ⟨h1, u, rfl, hown⟩⟩
           · rw [HF.out] at h1
             cases h1
           have HB1 := Lib.hid ((HB0.out _).trans (hb1.mono (by simp)))
           have HC1 := Lib.hid (HC0.out.below hb1 (by simp))
           have hs1 : w.heap.size < w1.heap.size := (by have := hb1.size; simp at this; omega)
           obtain ⟨A5, c5, rfl, -, -, -, -⟩ := own_slice hown
           obtain ⟨x0, x1, x2, x3, x4⟩ := HC1.out
           clear hb1 h1 hown)
        | (go_at_call 20
           refine (T1.out _ _ HB1.out HC1.out).mono ?_
           rintro e w2 ⟨rfl, hb2⟩
           have HB2 := Lib.hid (HB1.out.trans (hb2.mono HB1.out.size))
           obtain ⟨y0, y1, y2, y3, y4⟩ := HC1.out.below hb2 hs1
           clear hb2)
        | (go_at_call 21
           refine (T2.out _ HB2.out).mono ?_
           rintro e w3 ⟨rfl, hb3⟩
           have HB3 := Lib.hid (HB2.out.trans (hb3.mono HB2.out.size))
           clear hb3))
      go_ret
      first | exact ⟨by rw [HN.out, HO.out]; rfl, HB3.out⟩ | exact ⟨by rw [HN.out, HO.out]; rfl, HB2.out⟩

set_option maxRecDepth 100000 in
set_option maxHeartbeats 4000000 in
theorem main_any (cs : List Value) (x : Mod) (w : World) (h : modL.R (· < w.heap.size) w cs x) : Calls Try.prog 11 #[vAgg cs] w (Tells (mainB x) w) := by
  have TE : Hid (∀ w1, Below w.heap.size w w1 → Calls Try.prog 9 #[vAgg cs] w1 (Errs (checkN x) w1)) := fun w1 hb => check_any cs x w1 (mod_at h hb)
  obtain ⟨_, _, _, _, _, rfl, ⟨A0, d0, e0, -⟩, ⟨A1, d1, e1, l1, m1, s1⟩, ⟨A2, d2, e2, -⟩, ⟨A3, d3, e3, -⟩, ⟨A4, d4, e4, -⟩⟩ := h
  simp only [List.cons.injEq, and_true] at e0 e1 e2 e3 e4
  subst e0 e1 e2 e3 e4
  obtain ⟨n1, h1⟩ : ∃ n, x.funcs.length = n := ⟨_, rfl⟩
  rw [h1] at TE ⊢
  generalize x.recs.length = n0 at *
  generalize x.imps.length = n2 at *
  generalize x.ints.length = n3 at *
  generalize x.texts.length = n4 at *
  have TE2 : Hid (∀ w1, Below w.heap.size w w1 → Calls Try.prog 9 #[.agg #[.slice A0 n0 d0, .slice A1 n1 d1, .slice A2 n2 d2, .slice A3 n3 d3, .slice A4 n4 d4]] w1 (Errs (checkN x) w1)) := TE.out
  clear TE
  show Calls Try.prog 11 #[.agg #[.slice A0 n0 d0, .slice A1 n1 d1, .slice A2 n2 d2, .slice A3 n3 d3, .slice A4 n4 d4]] w (Tells (mainB x) w)
  have HB0 : Hid (∀ o : Obj, Below w.heap.size w (w.alloc o)) := fun o => (Below.refl _ _).alloc (Nat.le_refl _) _
  have HC0 : Hid (C5 w.heap.size (.slice A0 n0 d0) (.slice A1 n1 d1) (.slice A2 n2 d2) (.slice A3 n3 d3) (.slice A4 n4 d4) (w.alloc (.cells #[.slice A0 n0 d0, .slice A1 n1 d1, .slice A2 n2 d2, .slice A3 n3 d3, .slice A4 n4 d4] 28))) := by show C5 _ _ _ _ _ _ _; simp [C5, go_sem]
  by_cases hc : checkN x = 0
  rotate_left
  · have HN := Lib.hid (mainB_not hc)
    have b : (checkN x != 0) = true := by simpa using hc
    generalize mainB x = mb at *
    generalize checkN x = cn at *
    clear hc s1 h1
    go_enter Try.func11, Try.ntmps11
    go_wp2_with (first
      | (go_at_call 9
         refine (TE2.out _ (HB0.out _)).mono ?_
         rintro e w1 ⟨rfl, hb1⟩
         have HB1 := Lib.hid ((HB0.out _).trans (hb1.mono (by simp)))
         clear hb1))
    go_ret
    exact ⟨by rw [HN.out]; rfl, HB1.out⟩
  · have hF := fitB_iff.1 (checkN_fit hc)
    have hf1 := hF.f1
    have hf8 := hF.f8
    obtain ⟨f, fs, hfs⟩ : ∃ f fs, x.funcs = f :: fs := by
      cases hx : x.funcs with
      | nil => rw [hx] at hf1; simp at hf1
      | cons f fs => exact ⟨f, fs, rfl⟩
    have HN := Lib.hid (mainB_yes hc hfs)
    rw [hc] at TE2
    obtain ⟨a, cs, ea, hab, hcl, hR⟩ := s1.at (k := 0) (x := f) (by rw [hfs]; rfl)
    subst ea
    obtain ⟨p0, p1, p2, rfl, -, -, ⟨P0, c0, e4, -⟩, ⟨P1, c1, e5, -⟩, ⟨P2, c2, e6, -⟩⟩ := hR
    simp only [List.cons.injEq, and_true] at e4 e5 e6
    subst e4 e5 e6
    have HCL : Hid (∀ w1, Below w.heap.size w w1 → w1.cell? a = some (.slice P0 f.args.length c0) ∧ w1.cell? ⟨a.block, a.off + 1, none⟩ = some (.int .i64 f.ret.1) ∧ w1.cell? ⟨a.block, a.off + 2, none⟩ = some (.int .i64 f.ret.2) ∧ w1.cell? ⟨a.block, a.off + 3, none⟩ = some (.slice P1 f.locs.length c1) ∧ w1.cell? ⟨a.block, a.off + 4, none⟩ = some (.slice P2 f.code.length c2)) := fun w1 hb => by
      have k0 := hcl 0 _ rfl
      have k1 := hcl 1 _ rfl
      have k2 := hcl 2 _ rfl
      have k3 := hcl 3 _ rfl
      have k4 := hcl 4 _ rfl
      simp only [Nat.zero_mul, Nat.zero_add] at k0 k1 k2 k3 k4
      have e0 : a.add 0 = a := by simp [Addr.add]
      have en : ∀ i, 0 < i → a.add i = ⟨a.block, a.off + i, none⟩ := fun i hi => by
        have h : i ≠ 0 := by omega
        simp [Addr.add, h]
      rw [e0] at k0
      rw [en _ (by omega)] at k1 k2 k3 k4
      exact ⟨(hb.cell (p := a) hab).trans k0, (hb.cell (p := ⟨a.block, a.off + 1, none⟩) hab).trans k1, (hb.cell (p := ⟨a.block, a.off + 2, none⟩) hab).trans k2, (hb.cell (p := ⟨a.block, a.off + 3, none⟩) hab).trans k3, (hb.cell (p := ⟨a.block, a.off + 4, none⟩) hab).trans k4⟩
    have hn1 : 0 < n1 := by rw [← h1]; exact hf1
    have hn1' : (0 : Int) < (n1 : Int) := by omega
    clear hc hF hf1 hf8 hfs h1 s1 hcl l1 m1
    generalize mainB x = mb at *
    generalize f.args.length = u0 at *
    generalize f.locs.length = u1 at *
    generalize f.code.length = u2 at *
    generalize f.ret.1 = k1 at *
    generalize f.ret.2 = k2 at *
    rcases Nat.eq_zero_or_pos u0 with hu | hu
    · subst hu
      go_enter Try.func11, Try.ntmps11
      go_wp2_with (first
        | (go_at_call 9
           refine (TE2.out _ (HB0.out _)).mono ?_
           rintro e w1 ⟨rfl, hb1⟩
           have HB1 := Lib.hid ((HB0.out _).trans (hb1.mono (by simp)))
           obtain ⟨x0, x1, x2, x3, x4⟩ := HC0.out.below hb1 (by simp)
           obtain ⟨y0, y1, y2, y3, y4⟩ := HCL.out _ HB1.out
           clear hb1))
      go_ret
      exact ⟨by rw [HN.out]; simp; rfl, HB1.out.alloc HB1.out.size _⟩
    · have hd : ((u0 : Int) == 0) = false := by simp; omega
      have hd2 : (u0 == 0) = false := by simp; omega
      go_enter Try.func11, Try.ntmps11
      go_wp2_with (first
        | (go_at_call 9
           refine (TE2.out _ (HB0.out _)).mono ?_
           rintro e w1 ⟨rfl, hb1⟩
           have HB1 := Lib.hid ((HB0.out _).trans (hb1.mono (by simp)))
           obtain ⟨x0, x1, x2, x3, x4⟩ := HC0.out.below hb1 (by simp)
           obtain ⟨y0, y1, y2, y3, y4⟩ := HCL.out _ HB1.out
           clear hb1))
      go_ret
      exact ⟨by rw [HN.out, decide_eq_false (show ¬ u0 = 0 by omega)]; rfl, HB1.out.alloc HB1.out.size _⟩
end Go.Proofs.Ytpgfbnilnoopoaa
