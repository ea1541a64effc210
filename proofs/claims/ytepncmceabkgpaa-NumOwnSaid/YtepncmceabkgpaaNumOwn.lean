/-
  The law NumOwn holds: what a Reader hands out is memory of its own, and what it was made of may change behind it; the law's function returns true and turns nothing that was there.
  Conditions: none.
-/
import Derived.Test.YtepncmceabkgpaaRows
import Derived.Test.YtepncmceabkgpaaRef
import Derived.WalkKit
import Derived.ProofKit
import Derived.OpenShut
import Derived.ShutString
import Derived.ChangeOld
import Derived.Below
namespace Go.Proofs.Ytepncmceabkgpaa.numOwn
open Go.ChangeShapes Go.WideShapes Go.ChangeAt Go.RowKit
open Go.ChangeMaps (open_string shut_string)
set_option linter.unusedVariables false

theorem own : ownKnob Try.prog.godebug = none := by kernel_rfl
theorem laidOut : laidOutB Try.prog = true := by kernel_rfl

set_option maxHeartbeats 400000 in
theorem newReader_own (A : Option Addr) (n c : Nat) (xs : List Nat) (w : World) (hx : xs.length = n) (hb : Byt (· < w.heap.size) w A xs) (hn : n ≤ 140737488355328) :
    Calls Try.prog 12 #[.slice A n c] w fun e w' => ∃ g A' c', e = .returned (.pointer (some ⟨g, 0, none⟩)) ∧ Blk w' g 48 #[.slice A' n c', .bool false] ∧ n ≤ c' ∧ c' ≤ maxLen ∧ Byt (fun b => w.heap.size ≤ b ∧ b < g) w' A' xs ∧ w.heap.size ≤ g ∧ Below w.heap.size w w' := by
  have hc := Lib.hid (clone_any A n c xs w hx hb hn)
  clear hx hb
  go_enter Try.func12, Try.ntmps12
  go_wp2_with (go_at_call 23
               refine hc.out.mono ?_
               rintro e w1 ⟨v, rfl, hown, hbel⟩
               obtain ⟨A', c', rfl, hl, hlc, hcm, hB⟩ := own_slice hown
               have HL := Lib.hid hl
               have HB := Lib.hid hB
               clear hown hl hB)
  go_ret
  have hsz := hbel.size
  exact ⟨w1.heap.size, A', c', rfl, heap_alloc_new w1 _, hlc, hcm, HB.out.keep fun b hb => Below.heap_alloc w1 _ b hb.2, hsz, hbel.alloc hsz _⟩

theorem own_some {w : World} {base : Nat} {A : Option Addr} {n c k : Nat} {xs : List Value} (h : w.ownsRow base 5 1 (.slice A n c) n xs) (hk : k < n) : ∃ g, A = some ⟨g, 0, none⟩ := by
  rcases h.2 with ⟨_, h0⟩ | ⟨g, cap, cur, e, _⟩
  · omega
  · injection e with e
    exact ⟨g, e⟩
theorem grown_trans {row : Option Nat} {a b c : World} (h : a.grownBy b row) (k : b.grownBy c row) : a.grownBy c row :=
  ⟨k.os.trans h.os, k.tape.trans h.tape, k.output.trans h.output, Nat.le_trans h.size k.size, fun i hi hne => (k.block i (Nat.lt_of_lt_of_le hi h.size) hne).trans (h.block i hi hne)⟩
theorem Bs_set (ys : List Nat) (k : Nat) (z : Int) (y : Nat) (h : z = (y : Int)) : (Bs ys).set k (.int .u8 z) = Bs (ys.set k y) := by
  subst h
  simp [Bs, List.map_set]

set_option maxRecDepth 100000 in
set_option maxHeartbeats 4000000 in
theorem walkN (a0 : Option Addr) (len0 cap0 : Nat) (xs : List Nat) (w : World) (hx : xs.length = len0) (hb : ∀ x ∈ xs, x < 256) (hB : Byt (· < w.heap.size) w a0 xs) (hlc : len0 ≤ cap0) :
    Calls Try.prog 8 #[.slice a0 len0 cap0] w fun e w' => e = .returned (.bool true) ∧ Below w.heap.size w w' := by
  have HX := Lib.hid hx
  have HY := Lib.hid hb
  have HB := Lib.hid hB
  clear hx hb hB
  by_cases hbig : 100 < len0
  · have t1 : decide ((100 : Int) < (len0 : Int)) = true := by simp; omega
    go_enter Try.func8, Try.ntmps8
    go_wp2_with fail
    refine (answers_any w).mono ?_
    rintro e w1 ⟨rfl, hb1⟩
    go_wp2
    go_ret
    exact ⟨rfl, hb1⟩
  · have t1 : decide ((100 : Int) < (len0 : Int)) = false := by simp; omega
    go_enter Try.func8, Try.ntmps8
    go_wp2_with (at_builtin
                 refine walk_append _ rfl (.tmp 14) (.tmp 15) rfl w.heap.size (.slice (some ⟨w.heap.size, 0, none⟩) 0 0) 0 [] rfl (own_empty w) a0 len0 cap0 xs rfl HX.out _ (HB.out.below ((Below.refl w.heap.size w).alloc (Nat.le_refl _) _) (Nat.le_refl _)) (by omega) (by simp) ?_
                 intro v1 w1 hown1 hg1 _
                 have hb1 : Below w.heap.size w w1 := ((Below.refl _ w).alloc (Nat.le_refl _) _).grown hg1 (by simp) (fun k hk => by simp [Value.ownBlock] at hk; omega)
                 rw [Nat.zero_add, List.nil_append] at hown1
                 obtain ⟨A1, c1, rfl, -, hlc1, -, hB1⟩ := own_slice hown1
                 have HB1 := Lib.hid hB1
                 have HO1 := Lib.hid hown1
                 clear hB1 hown1 hg1)
    have hs1 := hb1.size
    refine (newReader_own A1 len0 c1 xs w1 HX.out (HB1.out.wide fun b hb => hb.2) (by omega)).mono ?_
    rintro e w2 ⟨g, Ar, cr, rfl, hBlk, hrc, hrm, hBr, hg, hb2⟩
    have HBk := Lib.hid hBlk
    have HBr := Lib.hid hBr
    have hs2 := hb2.size
    have HO2 := Lib.hid (own_below HO1.out hb2 (Nat.le_refl _))
    have hb02 : Below w.heap.size w w2 := hb1.trans (hb2.mono hs1)
    have HLt := Lib.hid HO1.out.lt
    have hg2 := hBlk.lt
    clear hBlk hBr HB1 HO1
    go_wp2_with fail
    go_loopw [5] (fun i wr => ∃ (k : Nat) (ys : List Nat), k ≤ len0 ∧ i = .int .i64 (k : Nat) ∧ wr.ownsRow w.heap.size 5 1 (.slice A1 len0 c1) len0 (Bs ys) ∧ w2.grownBy wr (Value.slice A1 len0 c1).ownBlock) (fun i _ => len0 - (intOf i).toNat)
    case atStart => exact ⟨0, xs, Nat.zero_le _, rfl, HO2.out, ⟨rfl, rfl, rfl, Nat.le_refl _, fun _ _ _ => rfl⟩⟩
    case round =>
      obtain ⟨k, ys, hk, rfl, hown, hgr⟩ := hrel
      have HO := Lib.hid hown
      have HGr := Lib.hid hgr
      clear hgr
      by_cases hlt : k < len0
      · obtain ⟨gi, rfl⟩ := own_some hown hlt
        have hyl : ys.length = len0 := by have := hown.1; rw [Bs_length] at this; omega
        have hc := hown.cellAt k (by omega)
        rw [Bs_get _ _ (by omega)] at hc
        have hf := hown.frozenAt k
        obtain ⟨y, hy⟩ : ∃ y, ys[k]?.getD 0 = y := ⟨_, rfl⟩
        rw [hy] at hc
        clear hown hy hyl
        go_wp2
        have hst := HO.out.stored k (.int .u8 (((y : Int) + 1) % 256))
        rw [Bs_set ys k _ ((y + 1) % 256) (by omega)] at hst
        exact ⟨⟨k + 1, _, by omega, by simp, hst.1, grown_trans HGr.out hst.2⟩, by simp [intOf]; omega⟩
      · clear hown HO
        have hkeep : ∀ b, w1.heap.size ≤ b → b < w2.heap.size → wr.heap[b]? = w2.heap[b]? := fun b h1 h2 => HGr.out.block b h2 (fun e => by have := (HLt.out b e.symm).2; omega)
        have HG : Hid (Good wr g xs) := ⟨Ar, cr, by rw [HX.out]; exact (hkeep g hg hg2).trans HBk.out, by rw [HX.out]; exact hrc, hrm, (HBr.out.keep fun b hb => hkeep b hb.1 (by omega)).wide fun b hb => hb.2⟩
        have hb3 : Below w.heap.size w wr := hb02.grown HGr.out hb02.size (fun k hk => (HLt.out k hk).1)
        have hs3 := hb3.size
        clear hkeep HGr HBk HBr HO2 HLt hb02 hb1 hb2 hrm hrc hg2
        obtain ⟨h, hh⟩ : ∃ h, len0 / 2 = h := ⟨_, rfl⟩
        have hh1 : h ≤ len0 := by omega
        have hh2 : h ≤ cap0 := by omega
        have eh : (len0 : Int) / 2 = (h : Int) := by omega
        have HH := Lib.hid hh
        clear hh
        go_wp2_with fail
        have hgl := HG.out.lt
        refine (take_ok g h xs wr HG.out (by rw [HX.out]; exact hh1) (by omega)).mono ?_
        rintro e w4 ⟨vx, rfl, hownx, hGx, hOx⟩
        obtain ⟨Ax, cx, rfl, -, -, -, hBx⟩ := own_slice hownx
        have HBx := Lib.hid hBx
        have HG4 := Lib.hid hGx
        have HL : Hid ((xs.take h).length = h) := by show (xs.take h).length = h; rw [List.length_take, HX.out]; omega
        have HO4 := Lib.hid hOx
        have hb4 : Below w.heap.size w w4 := hb3.trans (below_only hOx (by omega) hs3)
        have hs4 := hb4.size
        have hs34 := hOx.size
        obtain ⟨l, hl⟩ : ∃ l, len0 - h = l := ⟨_, rfl⟩
        have el : (len0 : Int) - (h : Int) = (l : Int) := by omega
        have HLL := Lib.hid hl
        have hl100 : l ≤ 100 := by omega
        clear hBx hownx hGx hOx HG hl
        go_wp2_with (at_builtin
                     refine walk_append _ rfl (.tmp 36) (.tmp 37) rfl w4.heap.size (.slice (some ⟨w4.heap.size, 0, none⟩) 0 0) 0 [] rfl (own_empty w4) Ax h cx (xs.take h) rfl HL.out _ (HBx.out.keep fun b hb => Below.heap_alloc w4 _ b hb.2) (by omega) (by simp) ?_
                     intro vy w5 howny hgy _
                     have hb45 : Below w4.heap.size w4 w5 := ((Below.refl _ w4).alloc (Nat.le_refl _) _).grown hgy (by simp) (fun k hk => by simp [Value.ownBlock] at hk; omega)
                     rw [Nat.zero_add, List.nil_append] at howny
                     obtain ⟨Ay, cy, rfl, -, -, -, hBy⟩ := own_slice howny
                     have HBy := Lib.hid hBy
                     clear hBy howny hgy)
        have hs5 := hb45.size
        have HG5 := Lib.hid (HG4.out.below hb45 HG4.out.lt)
        have hg4 := HG4.out.lt
        have HX5 : Hid (Byt (· < w5.heap.size) w5 Ax (xs.take h)) := (HBx.out.keep fun b hb => hb45.block b hb.2).wide fun b hb => by omega
        have HY5 : Hid (Byt (· < w5.heap.size) w5 Ay (xs.take h)) := HBy.out.wide fun b hb => hb.2
        have hXg : Hid (Byt (fun b => b < w5.heap.size ∧ b ≠ g) w5 Ax (xs.take h)) := (HBx.out.keep fun b hb => hb45.block b hb.2).wide fun b hb => by omega
        have hYg : Hid (Byt (fun b => b < w5.heap.size ∧ b ≠ g) w5 Ay (xs.take h)) := HBy.out.wide fun b hb => by omega
        have hb5 : Below w.heap.size w w5 := hb4.trans (hb45.mono hs4)
        clear HG4 HBx HBy HX5 HY5
        have hdl : Hid ((xs.drop h).length = l) := by show (xs.drop h).length = l; rw [List.length_drop, HX.out]; exact HLL.out
        refine (take_ok g l (xs.drop h) w5 HG5.out (by rw [hdl.out]; exact Nat.le_refl _) (by omega)).mono ?_
        rintro e w6 ⟨vz, rfl, hownz, hGz, hOz⟩
        have HLt := Lib.hid hownz.lt
        obtain ⟨Az, cz, rfl, -, -, -, -⟩ := own_slice hownz
        have HO6 := Lib.hid hownz
        have HG6 := Lib.hid hGz
        have hs6 := hOz.size
        have hX6 : Hid (Byt (fun b => b < w5.heap.size ∧ b ≠ g) w6 Ax (xs.take h)) := hXg.out.keep fun b hb => hOz.block b hb.1 (fun e => hb.2 (by injection e))
        have hY6 : Hid (Byt (fun b => b < w5.heap.size ∧ b ≠ g) w6 Ay (xs.take h)) := hYg.out.keep fun b hb => hOz.block b hb.1 (fun e => hb.2 (by injection e))
        have hb6 : Below w.heap.size w w6 := hb5.trans (below_only hOz (by omega) hb5.size)
        have hg5 : g < w5.heap.size := by omega
        clear hownz hGz hOz hXg hYg HG5 hb45 HO4 hb3 hb4 hdl
        go_wp2_with fail
        go_loopw [9] (fun i wq => ∃ (k : Nat) (zs : List Nat), k ≤ l ∧ i = .int .i64 (k : Nat) ∧ wq.ownsRow w5.heap.size 5 1 (.slice Az l cz) l (Bs zs) ∧ w6.grownBy wq (Value.slice Az l cz).ownBlock) (fun i _ => l - (intOf i).toNat)
        case atStart => exact ⟨0, _, Nat.zero_le _, rfl, HO6.out, ⟨rfl, rfl, rfl, Nat.le_refl _, fun _ _ _ => rfl⟩⟩
        case round =>
          obtain ⟨k, zs, hk, rfl, hown, hgr⟩ := hrel
          have HO := Lib.hid hown
          have HGr := Lib.hid hgr
          clear hgr
          by_cases hlt : k < l
          · obtain ⟨gi, rfl⟩ := own_some hown hlt
            have hyl : zs.length = l := by have := hown.1; rw [Bs_length] at this; omega
            have hc := hown.cellAt k (by omega)
            rw [Bs_get _ _ (by omega)] at hc
            have hf := hown.frozenAt k
            obtain ⟨y, hy⟩ : ∃ y, zs[k]?.getD 0 = y := ⟨_, rfl⟩
            rw [hy] at hc
            clear hown hy hyl
            go_wp2
            have hst := HO.out.stored k (.int .u8 (((y : Int) + 1) % 256))
            rw [Bs_set zs k _ ((y + 1) % 256) (by omega)] at hst
            exact ⟨⟨k + 1, _, by omega, by simp, hst.1, grown_trans HGr.out hst.2⟩, by simp [intOf]; omega⟩
          · clear hown HO
            have hk6 : Below w5.heap.size w6 wr := (Below.refl _ w6).grown HGr.out hs6 (fun k hk => (HLt.out k hk).1)
            have hX7 : Hid (Byt (fun b => b < w5.heap.size ∧ b ≠ g) wr Ax (xs.take h)) := hX6.out.keep fun b hb => hk6.block b hb.1
            have hY7 : Hid (Byt (fun b => b < w5.heap.size ∧ b ≠ g) wr Ay (xs.take h)) := hY6.out.keep fun b hb => hk6.block b hb.1
            have HG7 := Lib.hid (HG6.out.below hk6 hg5)
            have hb7 : Below w.heap.size w wr := hb6.trans (hk6.mono hb5.size)
            have hs7 : w5.heap.size ≤ wr.heap.size := Nat.le_trans hs6 hk6.size
            clear HGr HLt HO6 HG6 hX6 hY6 hb6 hk6
            go_wp2_with fail
            refine (answers_any wr).mono ?_
            rintro e w8 ⟨rfl, hb8⟩
            have hb78 : Below w.heap.size w w8 := hb7.trans (hb8.mono hb7.size)
            have hX8 : Hid (Byt (fun b => b < w5.heap.size ∧ b ≠ g) w8 Ax (xs.take h)) := hX7.out.keep fun b hb => hb8.block b (by omega)
            have hY8 : Hid (Byt (fun b => b < w5.heap.size ∧ b ≠ g) w8 Ay (xs.take h)) := hY7.out.keep fun b hb => hb8.block b (by omega)
            have HG8 := Lib.hid (HG7.out.below hb8 HG7.out.lt)
            have hin : Hid (Byt (· < w.heap.size) w8 a0 (xs.take h)) := (HB.out.take h).below hb78 (Nat.le_refl _)
            clear hX7 hY7 HG7 hb8
            go_wp2_with fail
            refine (same_yes Ax a0 h h cx cap0 (xs.take h) (xs.take h) w8 _ _ HL.out HL.out rfl hX8.out hin.out (by omega)).mono ?_
            rintro e w9 ⟨rfl, q, rfl⟩
            go_wp2_with fail
            refine (same_yes Ax Ay h h cx cy (xs.take h) (xs.take h) (w8.drewN q) _ _ HL.out HL.out rfl (hX8.out.keep (w' := w8.drewN q) fun _ _ => rfl) (hY8.out.keep (w' := w8.drewN q) fun _ _ => rfl) (by omega)).mono ?_
            rintro e w10 ⟨rfl, q2, rfl⟩
            go_wp2_with fail
            obtain ⟨A2, c2, hBlk, _⟩ := HG8.out
            refine (bad_at g _ _ (w8.drewN (q + q2)) hBlk).mono ?_
            clear hBlk
            rintro e w14 ⟨rfl, rfl⟩
            go_wp2
            go_ret
            exact ⟨rfl, below_drewN hb78 (q + q2)⟩

theorem walk (a0 : Option Addr) (len0 cap0 : Nat) (z0 : List Int) (w : World) (w0 : IsRow .u8 w a0 len0 cap0 z0) :
    Calls Try.prog 8 #[.slice a0 len0 cap0] w fun e w' => e = .returned (.bool true) ∧ Below w.heap.size w w' := by
  obtain ⟨xs, hx, hb, hB, hlc, _⟩ := row_bytes w0
  exact walkN a0 len0 cap0 xs w hx hb hB hlc

/-! ### THE ROW's STEP: WRITTEN OUT: LEAVE IT -/
set_option maxRecDepth 100000 in
theorem lifted (os : Os) (started : os.Started) (H : Type) (enc : TypeId × Value → H) :
    ReturnsInHanded {} Try.checked os 8 .any (Rows.numOwnSpec.pre6 enc Try.prog Try.f8 Rows.numOwnRow.domain false) (Rows.numOwnSpec.post enc Try.prog Try.f8 false true false false) := by
  refine returnsInHanded_of_change (C := Try.checked) own started (by kernel_rfl) Try.func8
    (ChangeSpec.witness6 (enc := enc) (C := Try.checked) false ⟨#[], #[.slice none 0 0], []⟩ 8 (by kernel_rfl) (by kernel_rfl) (by kernel_rfl) (by kernel_rfl)) ?_
  intro W base args ds gs before hval0 hW hcnd _
  have hval : ∀ (j : Nat) t v, Try.f8.params[j]? = some t → args[j]? = some v → Value.okWide Try.prog W .any base t v := hval0
  have hW' := hW
  obtain ⟨p, q, hA0, hV, rfl, hfz, hnd⟩ := hW
  have hA : DataW.TrodAll enc Try.prog W 0 (fun _ => true) true Try.f8.params.toList args.toList ds p := hA0
  rw [Try.params8] at hA hval
  obtain ⟨v0, vs0, d0, ds0, p0, q0, hargs, rfl, rfl, h0, r0⟩ := trodAll_cons hA
  obtain ⟨rfl, rfl, rfl⟩ := trodAll_nil r0
  obtain rfl : args = #[v0] := by cases args; simp_all
  obtain ⟨rfl, rfl⟩ := trodVars_none hV
  obtain ⟨a0, len0, cap0, rfl⟩ := okWide_slice Try.underlying23 (hval 0 23 v0 rfl rfl)
  have k0 := h0
  have lt0 : ∀ x ∈ p0, x.block < W.heap.size := by obtain ⟨m, hm⟩ := k0; exact DataW.trod_lt m _ _ _ hm
  obtain ⟨z0, w0⟩ : ∃ zs, IsRow .u8 W a0 len0 cap0 zs := by
    obtain ⟨fuel, hf⟩ := h0
    rcases open_ints Try.underlying23 Try.underlying5 (by kernel_rfl) hf with ⟨hcs, _⟩ | ⟨x, l, c, zs, hcs, _, hl, hm, hz, _, hcell, hwz⟩
    · simp [Value.cells] at hcs
      obtain ⟨rfl, rfl, rfl⟩ := hcs
      exact ⟨[], .inl ⟨rfl, rfl, rfl, rfl⟩⟩
    · simp [Value.cells] at hcs
      obtain ⟨rfl, rfl, rfl⟩ := hcs
      exact ⟨zs, .inr ⟨_, rfl, hl, hm, by simpa using hz, hcell, hwz⟩⟩
  clear hA0 hval0
  refine (walk a0 len0 cap0 z0 W w0).mono fun e W' ⟨he, bel⟩ => ?_
  subst he
  exact ⟨_, rfl, _, _, _, [], _, [], hW', trodAll_mk1 (shut_bool Try.underlying4 _), (trodAll_cons_mk (Below.trod laidOut (by kernel_rfl) (of_decide_eq_true (by kernel_rfl)) k0 bel lt0) trodAll_mk0), rfl, bel.frame _, fun h => by cases h⟩

theorem over : Rows.numOwnRow.holds Try.pinned (OpenSpec.ofChange Rows.numOwnSpec) :=
  OpenClaim.holds_of_wide 8 Try.f8 rfl rfl rfl rfl rfl rfl rfl ⟨rfl, rfl, rfl, rfl, rfl⟩ rfl rfl rfl rfl rfl (by kernel_rfl) Try.func8 (by kernel_rfl)
    (of_decide_eq_true (by kernel_rfl)) (by unfold Func.isWrapper; first | (rw [if_pos (by decide +kernel)]; kernel_rfl) | (rw [if_neg (by decide +kernel)]; exact ⟨rfl, rfl⟩))
    (fun os started H enc _ => lifted os started H enc)

/-- ████ THE STATEMENT ████ -/
theorem proved : Rows.NumOwnSaid := over
#print axioms proved
end Go.Proofs.Ytepncmceabkgpaa.numOwn
