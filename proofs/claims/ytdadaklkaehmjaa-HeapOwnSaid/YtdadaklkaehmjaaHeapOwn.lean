/-
  The law HeapOwn holds: what is added to a heap, and what it tells, is memory of its own; the law's function returns true and turns nothing that was there.
  Conditions: none.
-/
import Derived.Test.YtdadaklkaehmjaaOpn
import Derived.Test.YtdadaklkaehmjaaHm
namespace Go.Proofs.Ytdadaklkaehmjaa.heapOwn
open Go.ChangeShapes Go.WideShapes Go.ChangeAt Go.RowKit
set_option linter.unusedVariables false
set_option linter.unusedSimpArgs false

def obO (xs : List Nat) : Ob := ⟨2, 0, [], xs⟩
theorem v_bO {xs : List Nat} {k x : Nat} (h : xs[k]? = some x) : byteA [obO xs] 1 k = (x, 0) := by simp [byteA, atO, obO, h]
/-- What was made of the bytes is an object. -/
theorem obO_lies {w : World} {base g n c : Nat} {xs : List Nat} (hl : xs.length = n) (h : w.ownsRow base 5 1 (.slice (some ⟨g, 0, none⟩) n c) n (Bs xs)) (h256 : ∀ x ∈ xs, x < 256) : obL.R (· < w.heap.size) w [.int .i64 2, .int .i64 0, .slice none 0 0, .slice (some ⟨g, 0, none⟩) n c] (obO xs) := by
  obtain ⟨A', c', e, -, h1, h2, h3⟩ := own_slice h
  simp only [Value.slice.injEq, true_and] at e
  obtain ⟨rfl, rfl⟩ := e
  subst hl
  exact ob_make (o := obO xs) (c := 0) (by simp [obO]) (by simp [maxLen]) (by simp [obO]; omega) h2 (Sq.nil _ _ _ _) (h3.wide fun b hb => hb.2) h256 ⟨by show (-9223372036854775808 : Int) ≤ 2; omega, by show (2 : Int) ≤ 9223372036854775807; omega⟩ ⟨by show (-9223372036854775808 : Int) ≤ 0; omega, by show (0 : Int) ≤ 9223372036854775807; omega⟩
theorem obO_small {xs : List Nat} (h : xs.length ≤ 100) : (obO xs).small := ⟨by simp [obO], by simp [obO]; omega⟩
set_option maxRecDepth 100000 in
set_option maxHeartbeats 8000000 in
theorem walk (A : Option Addr) (n c : Nat) (xs : List Nat) (y : Int) (w : World) (hl : xs.length = n) (h256 : ∀ x ∈ xs, x < 256) (hB : Byt (· < w.heap.size) w A xs) (hy : 0 ≤ y ∧ y ≤ 255) :
    Calls Try.prog 6 #[.slice A n c, .int .u8 y] w fun e w' => e = .returned (.bool true) ∧ Below w.heap.size w w' := by
  have AN := Lib.hid (fun w => answers12 w)
  have HL := Lib.hid hl
  have HXB := Lib.hid h256
  have HA := Lib.hid hB
  clear hl h256 hB
  by_cases h0 : n = 0
  · subst h0
    go_enter Try.func6, Try.ntmps6
    go_wp2_with (first
      | (go_at_call 8
         refine (AN.out w).mono ?_
         rintro e w1 ⟨rfl, hb1⟩
         have HB1 := Lib.hid hb1
         clear hb1))
    go_ret
    exact ⟨rfl, HB1.out⟩
  have hn0 : (0 : Int) < (n : Int) := by omega
  have hne : ((n : Int) == 0) = false := by simp; omega
  by_cases h1 : 100 < n
  · have h1' : (100 : Int) < (n : Int) := by omega
    go_enter Try.func6, Try.ntmps6
    go_wp2_with (first
      | (go_at_call 8
         refine (AN.out w).mono ?_
         rintro e w1 ⟨rfl, hb1⟩
         have HB1 := Lib.hid hb1
         clear hb1))
    go_ret
    exact ⟨rfl, HB1.out⟩
  have h1' : (n : Int) ≤ 100 := by omega
  obtain ⟨x0, hx0⟩ : ∃ x, xs[0]? = some x := ⟨xs[0]'(by have := HL.out; omega), List.getElem?_eq_getElem _⟩
  have HX0 := Lib.hid hx0
  clear hx0
  obtain ⟨a, rfl, hab, -⟩ := HA.out.at (k := 0) (by have := HL.out; omega)
  obtain ⟨K, eK, hK⟩ : ∃ k : Nat, y % (n : Int) = (k : Int) ∧ k < n := ⟨(y % (n : Int)).toNat, by have := Int.emod_nonneg y (b := (n : Int)) (by omega); omega, by have := Int.emod_lt_of_pos y hn0; omega⟩
  obtain ⟨xk, hxk⟩ : ∃ x, xs[K]? = some x := ⟨xs[K]'(by have := HL.out; omega), List.getElem?_eq_getElem _⟩
  obtain ⟨_, ea, -, hck⟩ := HA.out.at (k := K) (by have := HL.out; omega)
  injection ea with ea
  subst ea
  rw [hxk] at hck
  have hxk2 : (xk : Int) < 256 := by have := HXB.out xk (List.mem_of_getElem? hxk); omega
  have HXK := Lib.hid hxk
  have HCK : Hid (∀ V, Below w.heap.size w V → V.cell? (a.add K) = some (.int .u8 (xk : Int))) := fun V hV => (hV.cell (p := a.add K) (by rw [addBlock]; exact hab)).trans hck
  clear hxk hck
  have HK64 : Hid (K < B64) := by show _ < _; unfold B64; omega
  have hK' : (K : Int) < (n : Int) := by omega
  have HNew := Lib.hid (new_any none 0 0 [] 1000 0 w rfl (Sq.nil _ _ _ _) (by simp) (by omega) ⟨by omega, by omega⟩ ⟨by omega, by omega⟩)
  go_enter Try.func6, Try.ntmps6
  go_upto_region 7 with (first
    | (go_at_call 10
       refine HNew.out.mono ?_
       rintro e w1 ⟨g, rfl, hg, hp, hb⟩
       have HP1 : Hid (IsHp (fun b => w.heap.size ≤ b ∧ b < w1.heap.size) w1 g [] 1000 0) := hp
       have HB1 := Lib.hid hb
       have hs1 := hb.size
       clear hp hb HNew)
    | (at_builtin
       refine walk_append _ rfl (.tmp 21) (.tmp 22) rfl w1.heap.size (.slice (some ⟨w1.heap.size, 0, none⟩) 0 0) 0 [] rfl (own_empty w1) (some a) n c xs rfl HL.out (· < w.heap.size)
         (HA.out.keep fun b hb => (Below.heap_alloc w1 _ b (by omega)).trans (HB1.out.block b hb)) (by omega) (by simp) ?_
       intro v2 w2 hown2' hg2 _
       have hown2 : w2.ownsRow w1.heap.size 5 1 v2 n (Bs xs) := (by simpa using hown2')
       obtain ⟨gi, ci, rfl, hgi, hgi2⟩ := ownr_some hown2 (by omega)
       have HO2 := Lib.hid hown2
       have hb2 : Below w1.heap.size w1 w2 := (((Below.refl w1.heap.size w1).alloc (Nat.le_refl _) (.cells #[] 5)).grown hg2 (by simp) (fun i hi => by simp [Value.ownBlock] at hi; omega))
       have HB2 := Lib.hid hb2
       have hs2 := hb2.size
       clear hown2 hown2' hg2 hb2)
    | (go_at_call 11
       refine (add_fits [.int .i64 2, .int .i64 0, .slice none 0 0, .slice (some ⟨gi, 0, none⟩) n ci] (obO xs) g w2 (HP1.out.keep (fun b hb _ => HB2.out.block b hb) fun b hb => hb.2) (obO_lies HL.out HO2.out HXB.out) (obO_small (by have := HL.out; omega)) ⟨by omega, by omega⟩ ⟨by omega, by omega⟩ (fun b hb => by omega) (fun h => by have := HL.out; rcases h with h | h <;> simp [obO, Ob.cost] at h <;> omega)).mono ?_
       rintro e w3 ⟨rfl, hp3, ht3⟩
       have HP3 := Lib.hid hp3
       have hs3 := ht3.size
       have HB3 : Hid (Below w.heap.size w w3) := (HB1.out.trans (HB2.out.mono hs1)).trans (ht3.below (by omega) fun b hb => hb.1)
       have HO3 := Lib.hid (ownr_keep HO2.out (w' := w3) fun b hb => by simp [Value.ownBlock] at hb; subst hb; exact ht3.block _ hgi2 (fun q => by omega))
       have ci0 : w3.cell? ⟨gi, 0, none⟩ = some (.int .u8 (x0 : Int)) := (by
         have := HO3.out.cellAt 0 (by omega)
         rw [this, Bs_at HX0.out])
       have fi0 := HO3.out.frozenAt 0
       clear hp3 ht3))
  refine wp_world fun w4 hW4 => ?_
  have hs4 : w4.heap.size = w3.heap.size := by rw [hW4]; simp [World.setCell]
  have HB4 : Hid (Below w.heap.size w w4) := by show Below _ _ _; rw [hW4]; exact HB3.out.setCell (by show w.heap.size ≤ gi; omega) _
  have HP4 : Hid (IsHp (fun b => (w.heap.size ≤ b ∧ b < w1.heap.size) ∨ (w2.heap.size ≤ b ∧ b < w3.heap.size)) w4 g [obO xs] 1000 (0 + (obO xs).cost)) := HP3.out.keep (fun b hb hS => by rw [hW4]; exact Below.heap_setCell _ _ _ _ (fun (e : b = gi) => by omega)) fun b hb => by omega
  clear hW4 ci0 fi0 HP3 HO3 HB3
  go_upto_region 11 with (first
    | (go_at_call 22
       refine (objs_any g w4 HP4.out (by simp) (fun o ho => by simp at ho; subst ho; exact obO_small (by have := HL.out; omega)) (fun b hb => by omega)).mono ?_
       rintro e w5 ⟨v5, css5, tag5, rfl, hr5, hb5⟩
       obtain ⟨A5, c5, rfl, -, -⟩ := hr5.shape
       have hs5 := hb5.size
       have HB5 : Hid (Below w.heap.size w w5) := HB4.out.trans (hb5.mono HB4.out.size)
       have HP5 : Hid (IsHp (fun b => (w.heap.size ≤ b ∧ b < w1.heap.size) ∨ (w2.heap.size ≤ b ∧ b < w3.heap.size)) w5 g [obO xs] 1000 (0 + (obO xs).cost)) := HP4.out.keep (fun b hb _ => hb5.block b hb) fun b hb => by omega
       obtain ⟨g5, cs5, rfl, -, -, hg5, hcs5, hcell5, -, ho5⟩ := hr5.cells (j := 0) rfl
       obtain ⟨A6, c6, B6, d6, rfl, -, -⟩ := ho5.parts
       obtain ⟨-, gb, eb, hsb, -, hgb, hfb, hcb⟩ := hr5.byte_at (j := 0) (o := obO xs) rfl hcs5 (by have := HL.out; simp [obO]; omega)
       subst eb
       have hl5 : (obO xs).bytes.length = n := HL.out
       have k3 := hcell5 3 _ rfl
       rw [hl5] at k3
       have b0 := hcb 0 x0 HX0.out
       have bf := hfb 0
       have HSB := Lib.hid hsb
       clear hr5 hb5 hcs5 hcell5 ho5 hfb hcb hsb hl5))
  refine wp_world fun w6 hW6 => ?_
  have hs6 : w6.heap.size = w5.heap.size := by rw [hW6]; simp [World.setCell]
  have HB6 : Hid (Below w.heap.size w w6) := by show Below _ _ _; rw [hW6]; exact HB5.out.setCell (by have := HSB.out; show w.heap.size ≤ gb; omega) _
  have HP6 : Hid (IsHp (fun b => (w.heap.size ≤ b ∧ b < w1.heap.size) ∨ (w2.heap.size ≤ b ∧ b < w3.heap.size)) w6 g [obO xs] 1000 (0 + (obO xs).cost)) := HP5.out.keep (fun b hb hS => by rw [hW6]; exact Below.heap_setCell _ _ _ _ (fun (e : b = gb) => by have := HSB.out; omega)) fun b hb => by omega
  clear hW6 k3 b0 bf HP5 HB5
  go_wp2_with (first
    | (go_at_call 17
       refine (byte_any g 1 K w6 HP6.out (by decide) HK64.out (by simp) (fun o ho => by simp at ho; subst ho; exact obO_small (by have := HL.out; omega))).mono ?_
       rintro e w7 ⟨he, hb7⟩
       rw [v_bO HXK.out] at he
       subst he
       have HB7 : Hid (Below w.heap.size w w7) := HB6.out.trans (hb7.mono HB6.out.size)
       clear hb7)
    | (go_at_call 8
       refine (AN.out w7).mono ?_
       rintro e w8 ⟨rfl, hb8⟩
       have HB8 : Hid (Below w.heap.size w w8) := HB7.out.trans (hb8.mono HB7.out.size)
       have ck := HCK.out w8 HB8.out
       clear hb8))
  go_ret
  exact ⟨by simp, HB8.out⟩

set_option maxRecDepth 100000 in
theorem lifted (os : Os) (started : os.Started) (H : Type) (enc : TypeId × Value → H) :
    ReturnsInHanded {} Try.checked os 6 .any (Rows.heapOwnSpec.pre6 enc Try.prog Try.f6 Rows.heapOwnRow.domain false) (Rows.heapOwnSpec.post enc Try.prog Try.f6 false true false false) := by
  refine returnsInHanded_of_change (C := Try.checked) own started (by kernel_rfl) Try.func6
    (ChangeSpec.witness6 (enc := enc) (C := Try.checked) false ⟨#[], #[.slice none 0 0, .int .u8 0], []⟩ 8 (by kernel_rfl) (by kernel_rfl) (by kernel_rfl) (by kernel_rfl)) ?_
  intro W base args ds gs before hval0 hW hcnd _
  have hval : ∀ (j : Nat) t v, Try.f6.params[j]? = some t → args[j]? = some v → Value.okWide Try.prog W .any base t v := hval0
  have hW' := hW
  obtain ⟨p, q, hA0, hV, rfl, hfz, hnd⟩ := hW
  have hA : DataW.TrodAll enc Try.prog W 0 (fun _ => true) true Try.f6.params.toList args.toList ds p := hA0
  rw [Try.params6] at hA hval
  obtain ⟨v0, vs0, d0, ds0, p0, q0, hargs, rfl, rfl, h0, r0⟩ := trodAll_cons hA
  obtain ⟨v1, vs1, d1, ds1, p1, q1, rfl, rfl, rfl, h1, r1⟩ := trodAll_cons r0
  obtain ⟨rfl, rfl, rfl⟩ := trodAll_nil r1
  obtain rfl : args = #[v0, v1] := by cases args; simp_all
  obtain ⟨rfl, rfl⟩ := trodVars_none hV
  obtain ⟨a0, len0, cap0, rfl⟩ := okWide_slice Try.underlying26 (hval 0 26 v0 rfl rfl)
  have lt0 : ∀ x ∈ p0, x.block < W.heap.size := by obtain ⟨m, hm⟩ := h0; exact DataW.trod_lt m _ _ _ hm
  obtain ⟨xs0, hx0, hb0, hB0, hlc0, hcm0⟩ := open_byt h0
  obtain ⟨a1, rfl, rfl, rfl, w1⟩ := open_int Try.underlying5 (hval 1 5 v1 rfl rfl) h1
  clear hA0 hval0
  refine (walk a0 len0 cap0 xs0 a1 W hx0 hb0 hB0 (bounds_u8 w1)).mono fun e W' ⟨he, bel⟩ => ?_
  subst he
  exact ⟨_, rfl, _, _, _, [], _, [], hW', trodAll_mk1 (shut_bool Try.underlying4 _), (trodAll_cons_mk (Below.trod laidOut (by kernel_rfl) (of_decide_eq_true (by kernel_rfl)) h0 bel lt0) (trodAll_cons_mk (shut_int Try.underlying5 w1) trodAll_mk0)), rfl, bel.frame _, fun h => by cases h⟩

theorem over : Rows.heapOwnRow.holds Try.pinned (OpenSpec.ofChange Rows.heapOwnSpec) :=
  OpenClaim.holds_of_wide 6 Try.f6 rfl rfl rfl rfl rfl rfl rfl ⟨rfl, rfl, rfl, rfl, rfl⟩ rfl rfl rfl rfl rfl (by kernel_rfl) Try.func6 (by kernel_rfl)
    (of_decide_eq_true (by kernel_rfl)) (by unfold Func.isWrapper; first | (rw [if_pos (by decide +kernel)]; kernel_rfl) | (rw [if_neg (by decide +kernel)]; exact ⟨rfl, rfl⟩))
    (fun os started H enc _ => lifted os started H enc)

/-- The statement. -/
theorem proved : Rows.HeapOwnSaid := over
end Go.Proofs.Ytdadaklkaehmjaa.heapOwn
