/-
  Mo Lay Omd Omz Sn
-/
import Derived.Test.YtikhhcmfjncabaaGreatQ01
import Derived.Lib.AppendStr
import Derived.Deep.SlicePairs
import Derived.SizedLaws
set_option linter.unusedSimpArgs false
set_option linter.unusedVariables false
namespace Go.Proofs.YtikhhcmfjncabaaGreat

abbrev Typ := Int × Int
structure Fn where
  args : List Typ
  ret : Typ
  locs : List Typ
  code : List Ins
structure Imp where
  args : List Typ
  ret : Typ
structure Mod where
  recs : List (List Typ)
  funcs : List Fn
  imps : List Imp
  ints : List Nat
  texts : List (List Nat)

noncomputable def eqB {α : Type} (a b : α) : Bool := @decide (a = b) (Classical.propDecidable _)
theorem eqB_iff {α : Type} {a b : α} : eqB a b = true ↔ a = b := by
  unfold eqB
  exact @decide_eq_true_iff _ (Classical.propDecidable _)
theorem eqB_self {α : Type} (a : α) : eqB a a = true := eqB_iff.2 rfl
theorem eqB_ne {α : Type} {a b : α} (h : a ≠ b) : eqB a b = false := by
  cases e : eqB a b
  · rfl
  · exact absurd (eqB_iff.1 e) h
def tB (t : Typ) : List Nat := typB t.1 t.2
def iB (t : Ins) : List Nat := insB t.1 t.2.1 t.2.2
def lB {α : Type} (f : α → List Nat) (xs : List α) : List Nat := vb xs.length ++ (xs.map f).flatten
def fnB (f : Fn) : List Nat := lB tB f.args ++ (tB f.ret ++ (lB tB f.locs ++ lB iB f.code))
def impB (i : Imp) : List Nat := lB tB i.args ++ tB i.ret
def numB (n : Nat) : List Nat := fb n 8
def partsB (m : Mod) : List (List Nat) := [lB (lB tB) m.recs, lB fnB m.funcs, lB impB m.imps, lB numB m.ints, lB pt m.texts]
def modB (m : Mod) : List Nat := joinB (partsB m)

def goodT (r : Int) (t : Typ) : Bool := goodB t.1 t.2 r
def goodIn (t : Ins) : Bool := goodI t.1 t.2.1 t.2.2
def witB {α : Type} (lo hi : Int) (g : α → Bool) (xs : List α) : Bool := decide (lo ≤ (xs.length : Int) ∧ (xs.length : Int) ≤ hi) && xs.all g
def recOk (r : Int) (ts : List Typ) : Bool := witB 0 6 (goodT r) ts
def fnOk (r : Int) (f : Fn) : Bool := witB 0 4 (goodT r) f.args && goodT r f.ret && witB 0 (8 - (f.args.length : Int)) (goodT r) f.locs && witB 1 64 goodIn f.code
def impOk (r : Int) (i : Imp) : Bool := witB 0 4 (goodT r) i.args && goodT r i.ret
def shortB (s : List Nat) : Bool := decide (s.length ≤ 32)
def fitB (m : Mod) : Bool := witB 0 8 (recOk m.recs.length) m.recs && witB 1 8 (fnOk m.recs.length) m.funcs && witB 0 8 (impOk m.recs.length) m.imps && decide (m.ints.length ≤ 16) && witB 0 16 shortB m.texts

theorem witB_iff {α : Type} {lo hi : Int} {g : α → Bool} {xs : List α} : witB lo hi g xs = true ↔ (lo ≤ (xs.length : Int) ∧ (xs.length : Int) ≤ hi) ∧ ∀ x ∈ xs, g x = true := by simp [witB]

def PF {α : Type} (f : α → List Nat) (g : α → Prop) : Prop := ∀ x y r s, g x → g y → f x ++ r = f y ++ s → x = y ∧ r = s

theorem PF.row {α : Type} {f : α → List Nat} {g : α → Prop} (h : PF f g) : ∀ (xs ys : List α) (r s : List Nat), xs.length = ys.length → (∀ x ∈ xs, g x) → (∀ y ∈ ys, g y) → (xs.map f).flatten ++ r = (ys.map f).flatten ++ s → xs = ys ∧ r = s := by
  intro xs
  induction xs with
  | nil =>
    intro ys r s hl _ _ e
    cases ys with
    | nil => exact ⟨rfl, by simpa using e⟩
    | cons y ys => simp at hl
  | cons x xs ih =>
    intro ys r s hl hx hy e
    cases ys with
    | nil => simp at hl
    | cons y ys =>
      simp only [List.map_cons, List.flatten_cons, List.append_assoc] at e
      obtain ⟨rfl, e2⟩ := h x y _ _ (hx x (by simp)) (hy y (by simp)) e
      obtain ⟨rfl, rfl⟩ := ih ys r s (by simpa using hl) (fun z hz => hx z (by simp [hz])) (fun z hz => hy z (by simp [hz])) e2
      exact ⟨rfl, rfl⟩

def HasN {α : Type} (f : α → List Nat) (g : α → Prop) (n : Nat) (xs : List Nat) : Prop := ∃ (ys : List α) (rest : List Nat), ys.length = n ∧ (∀ y ∈ ys, g y) ∧ xs = (ys.map f).flatten ++ rest
def Has {α : Type} (f : α → List Nat) (g : α → Prop) (xs : List Nat) : Prop := ∃ (y : α) (rest : List Nat), g y ∧ xs = f y ++ rest

theorem goodT_nat {r : Int} {t : Typ} (hr : r ≤ 8) (h : goodT r t = true) : ∃ a b : Nat, t = ((a : Int), (b : Int)) ∧ a ≤ 8 ∧ b ≤ 255 := by
  obtain ⟨k, n⟩ := t
  simp only [goodT, goodB] at h
  split at h
  · rename_i hk
    simp at h
    exact ⟨k.toNat, n.toNat, by ext <;> simp <;> omega, by omega, by omega⟩
  · split at h
    · simp at h
      exact ⟨k.toNat, n.toNat, by ext <;> simp <;> omega, by omega, by omega⟩
    · split at h
      · simp at h
        exact ⟨k.toNat, n.toNat, by ext <;> simp <;> omega, by omega, by omega⟩
      · cases h

theorem fn_sizes {r : Int} {f : Fn} (h : fnOk r f = true) : f.args.length ≤ 4 ∧ f.args.length + f.locs.length ≤ 8 ∧ 1 ≤ f.code.length ∧ f.code.length ≤ 64 ∧ (∀ t ∈ f.args, goodT r t = true) ∧ goodT r f.ret = true ∧ (∀ t ∈ f.locs, goodT r t = true) ∧ ∀ t ∈ f.code, goodIn t = true := by
  simp only [fnOk, Bool.and_eq_true, witB_iff] at h
  obtain ⟨⟨⟨⟨h1, h2⟩, h3⟩, h4, h5⟩, h6, h7⟩ := h
  exact ⟨by omega, by omega, by omega, by omega, h2, h3, h5, h7⟩

theorem imp_sizes {r : Int} {i : Imp} (h : impOk r i = true) : i.args.length ≤ 4 ∧ (∀ t ∈ i.args, goodT r t = true) ∧ goodT r i.ret = true := by
  simp only [impOk, Bool.and_eq_true, witB_iff] at h
  exact ⟨by omega, h.1.2, h.2⟩

theorem rec_sizes {r : Int} {ts : List Typ} (h : recOk r ts = true) : ts.length ≤ 6 ∧ ∀ t ∈ ts, goodT r t = true := by
  simp only [recOk, witB_iff] at h
  exact ⟨by omega, h.2⟩

theorem lB_bound {α : Type} (f : α → List Nat) (xs : List α) (M : Nat) (h : ∀ x ∈ xs, (f x).length ≤ M) (hl : xs.length < B64) : (lB f xs).length ≤ 10 + xs.length * M := by
  have h1 := vb_len 9 xs.length (by unfold B64 at hl; simp; omega)
  have h2 : ∀ zs : List α, (∀ x ∈ zs, (f x).length ≤ M) → ((zs.map f).flatten).length ≤ zs.length * M := by
    intro zs
    induction zs with
    | nil => simp
    | cons z zs ih =>
      intro hz
      have e1 := hz z (by simp)
      have e2 := ih fun x hx => hz x (by simp [hx])
      simp only [List.map_cons, List.flatten_cons, List.length_append, List.length_cons, Nat.succ_mul]
      omega
  have h3 := h2 xs h
  simp only [lB, List.length_append]
  omega
theorem tB_len {r : Int} {t : Typ} (hr : r ≤ 8) (h : goodT r t = true) : (tB t).length ≤ 4 := by
  obtain ⟨a, b, rfl, ha, hb⟩ := goodT_nat hr h
  have h1 := vb_len 1 a (by simp; omega)
  have h2 := vb_len 1 b (by simp; omega)
  simp [tB, typB]
  omega
theorem iB_len (t : Ins) : (iB t).length ≤ 5 := insB_len _ _ _
theorem tys_len {r : Int} {ts : List Typ} (hr : r ≤ 8) (hl : ts.length ≤ 8) (h : ∀ t ∈ ts, goodT r t = true) : (lB tB ts).length ≤ 42 := by
  have := lB_bound tB ts 4 (fun t ht => tB_len hr (h t ht)) (by unfold B64; omega)
  omega
theorem fnB_len {r : Int} {f : Fn} (hr : r ≤ 8) (h : fnOk r f = true) : (fnB f).length ≤ 500 := by
  obtain ⟨a1, a2, a3, a4, a5, a6, a7, a8⟩ := fn_sizes h
  have h1 := tys_len hr (by omega) a5
  have h2 := tB_len hr a6
  have h3 := tys_len hr (by omega) a7
  have h4 := lB_bound iB f.code 5 (fun t _ => iB_len t) (by unfold B64; omega)
  simp only [fnB, List.length_append]
  omega
theorem impB_len {r : Int} {f : Imp} (hr : r ≤ 8) (h : impOk r f = true) : (impB f).length ≤ 50 := by
  obtain ⟨a1, a2, a3⟩ := imp_sizes h
  have h1 := tys_len hr (by omega) a2
  have h2 := tB_len hr a3
  simp only [impB, List.length_append]
  omega

structure Fit (m : Mod) : Prop where
  r8 : (m.recs.length : Int) ≤ 8
  recs : ∀ t ∈ m.recs, recOk m.recs.length t = true
  f1 : 1 ≤ m.funcs.length
  f8 : m.funcs.length ≤ 8
  funcs : ∀ f ∈ m.funcs, fnOk m.recs.length f = true
  i8 : m.imps.length ≤ 8
  imps : ∀ f ∈ m.imps, impOk m.recs.length f = true
  n16 : m.ints.length ≤ 16
  t16 : m.texts.length ≤ 16
  texts : ∀ s ∈ m.texts, s.length ≤ 32
theorem fitB_iff {m : Mod} : fitB m = true ↔ Fit m := by
  simp only [fitB, Bool.and_eq_true, witB_iff, decide_eq_true_eq]
  constructor
  · rintro ⟨⟨⟨⟨⟨h1, h2⟩, h3, h4⟩, h5, h6⟩, h7⟩, h8, h9⟩
    exact ⟨h1.2, h2, by omega, by omega, h4, by omega, h6, h7, by omega, fun s hs => by simpa [shortB] using h9 s hs⟩
  · rintro ⟨h1, h2, h3, h4, h5, h6, h7, h8, h9, h10⟩
    exact ⟨⟨⟨⟨⟨by omega, h2⟩, by omega, h5⟩, by omega, h7⟩, h8⟩, by omega, fun s hs => by simpa [shortB] using h10 s hs⟩

theorem Fit.parts_len {m : Mod} (h : Fit m) : ∀ j, j < (partsB m).length → ((partsB m)[j]?.getD []).length ≤ 5000 := by
  have hB : (64 : Nat) < B64 := by unfold B64; omega
  have hr := h.r8
  have b0 := lB_bound (lB tB) m.recs 42 (fun x hx => by have := rec_sizes (h.recs x hx); exact tys_len h.r8 (by omega) this.2) (by omega)
  have b1 := lB_bound fnB m.funcs 500 (fun x hx => fnB_len h.r8 (h.funcs x hx)) (by have := h.f8; omega)
  have b2 := lB_bound impB m.imps 50 (fun x hx => impB_len h.r8 (h.imps x hx)) (by have := h.i8; omega)
  have b3 := lB_bound numB m.ints 8 (fun x _ => by simp [numB, fb_length]) (by have := h.n16; omega)
  have b4 := lB_bound pt m.texts 42 (fun x hx => by have h1 := h.texts x hx; have h2 := vb_len 9 x.length (by simp; omega); simp [pt]; omega) (by have := h.t16; omega)
  have := h.f8
  have := h.i8
  have := h.n16
  have := h.t16
  intro j hj
  match j, hj with
  | 0, _ => simp [partsB]; omega
  | 1, _ => simp [partsB]; omega
  | 2, _ => simp [partsB]; omega
  | 3, _ => simp [partsB]; omega
  | 4, _ => simp [partsB]; omega
  | j + 5, hj => exact absurd hj (by simp [partsB])
theorem Fit.len {m : Mod} (h : Fit m) : (modB m).length ≤ 30000 := by
  have := joinB_bound (partsB m) 5000 (by unfold B64; omega) (by simp [partsB]; unfold B64; omega) h.parts_len
  simp [partsB] at this
  simp [modB, partsB]
  omega

end Go.Proofs.YtikhhcmfjncabaaGreat
namespace Go.Proofs.YtikhhcmfjncabaaGreat
open Go.RowKit

structure Lay (α : Type) where
  k : Nat
  R : (Nat → Prop) → World → List Value → α → Prop
  len : ∀ {S w cs x}, R S w cs x → cs.length = k
  keep : ∀ {S : Nat → Prop} {w w' : World} {cs : List Value} {x : α}, R S w cs x → (∀ b, S b → w'.heap[b]? = w.heap[b]?) → R S w' cs x
  wide : ∀ {S T : Nat → Prop} {w : World} {cs : List Value} {x : α}, R S w cs x → (∀ b, S b → T b) → R T w cs x
  one : ∀ {S w cs x}, R S w cs x → ∀ u ∈ cs, u.oneCell' = true

def Sq {α : Type} (L : Lay α) (S : Nat → Prop) (w : World) (A : Option Addr) (xs : List α) : Prop :=
  0 < xs.length → ∃ a, A = some a ∧ S a.block ∧ ∀ j x, xs[j]? = some x → ∃ cs, (∀ i u, cs[i]? = some u → w.cell? (a.add (j * L.k + i)) = some u) ∧ L.R S w cs x

theorem Sq.nil {α : Type} (L : Lay α) (S : Nat → Prop) (w : World) (A : Option Addr) : Sq L S w A [] := fun h => absurd h (by simp)
theorem Sq.keep {α : Type} {L : Lay α} {S : Nat → Prop} {w w' : World} {A : Option Addr} {xs : List α} (h : Sq L S w A xs) (hk : ∀ b, S b → w'.heap[b]? = w.heap[b]?) : Sq L S w' A xs := fun hn => by
  obtain ⟨a, e, hs, hc⟩ := h hn
  refine ⟨a, e, hs, fun j x hx => ?_⟩
  obtain ⟨cs, h1, h2⟩ := hc j x hx
  exact ⟨cs, fun i u hu => (World.cell?_of_block (hk _ (by rw [addBlock]; exact hs))).trans (h1 i u hu), L.keep h2 hk⟩
theorem Sq.wide {α : Type} {L : Lay α} {S T : Nat → Prop} {w : World} {A : Option Addr} {xs : List α} (h : Sq L S w A xs) (hk : ∀ b, S b → T b) : Sq L T w A xs := fun hn => by
  obtain ⟨a, e, hs, hc⟩ := h hn
  refine ⟨a, e, hk _ hs, fun j x hx => ?_⟩
  obtain ⟨cs, h1, h2⟩ := hc j x hx
  exact ⟨cs, h1, L.wide h2 hk⟩
theorem Sq.below {α : Type} {L : Lay α} {B B' : Nat} {w w' : World} {A : Option Addr} {xs : List α} (h : Sq L (· < B) w A xs) (hb : Below B' w w') (hB : B ≤ B') : Sq L (· < B) w' A xs := h.keep fun b h1 => hb.block b (Nat.lt_of_lt_of_le h1 hB)
theorem Sq.at {α : Type} {L : Lay α} {S : Nat → Prop} {w : World} {A : Option Addr} {xs : List α} (h : Sq L S w A xs) {k : Nat} {x : α} (hk : xs[k]? = some x) :
    ∃ a cs, A = some a ∧ S a.block ∧ (∀ i u, cs[i]? = some u → w.cell? (a.add (k * L.k + i)) = some u) ∧ L.R S w cs x := by
  obtain ⟨a, e, hs, hc⟩ := h (by have := (List.getElem?_eq_some_iff.1 hk).1; omega)
  obtain ⟨cs, h1, h2⟩ := hc k x hk
  exact ⟨a, cs, e, hs, h1, h2⟩

def slL {α : Type} (L : Lay α) : Lay (List α) where
  k := 1
  R S w cs xs := ∃ A c, cs = [.slice A xs.length c] ∧ xs.length ≤ c ∧ c ≤ maxLen ∧ Sq L S w A xs
  len := by rintro S w cs x ⟨A, c, rfl, _⟩; rfl
  keep := by rintro S w w' cs x ⟨A, c, rfl, h1, h2, h3⟩ hk; exact ⟨A, c, rfl, h1, h2, h3.keep hk⟩
  wide := by rintro S T w cs x ⟨A, c, rfl, h1, h2, h3⟩ hk; exact ⟨A, c, rfl, h1, h2, h3.wide hk⟩
  one := by rintro S w cs x ⟨A, c, rfl, _⟩ u hu; simp at hu; subst hu; rfl

def I64 (n : Int) : Prop := -9223372036854775808 ≤ n ∧ n ≤ 9223372036854775807
def typL : Lay Typ where
  k := 2
  R _ _ cs t := cs = [.int .i64 t.1, .int .i64 t.2] ∧ I64 t.1 ∧ I64 t.2
  len := by rintro S w cs x ⟨rfl, _⟩; rfl
  keep := by rintro S w w' cs x h _; exact h
  wide := by rintro S T w cs x h _; exact h
  one := by rintro S w cs x ⟨rfl, _⟩ u hu; simp at hu; rcases hu with rfl | rfl <;> rfl
def insL : Lay Ins where
  k := 3
  R _ _ cs t := cs = [.int .i64 t.1, .int .i64 t.2.1, .int .i64 t.2.2] ∧ I64 t.1 ∧ I64 t.2.1 ∧ I64 t.2.2
  len := by rintro S w cs x ⟨rfl, _⟩; rfl
  keep := by rintro S w w' cs x h _; exact h
  wide := by rintro S T w cs x h _; exact h
  one := by rintro S w cs x ⟨rfl, _⟩ u hu; simp at hu; rcases hu with rfl | rfl | rfl <;> rfl
def numL : Lay Nat where
  k := 1
  R _ _ cs n := cs = [.int .u64 (n : Int)] ∧ n < B64
  len := by rintro S w cs x ⟨rfl, _⟩; rfl
  keep := by rintro S w w' cs x h _; exact h
  wide := by rintro S T w cs x h _; exact h
  one := by rintro S w cs x ⟨rfl, _⟩ u hu; simp at hu; subst hu; rfl
def strB (s : ByteArray) : List Nat := s.data.toList.map UInt8.toNat
def strL : Lay (List Nat) where
  k := 1
  R _ _ cs xs := ∃ s, cs = [.string s] ∧ xs = strB s
  len := by rintro S w cs x ⟨s, rfl, _⟩; rfl
  keep := by rintro S w w' cs x h _; exact h
  wide := by rintro S T w cs x h _; exact h
  one := by rintro S w cs x ⟨s, rfl, _⟩ u hu; simp at hu; subst hu; rfl
abbrev tysL : Lay (List Typ) := slL typL
abbrev codL : Lay (List Ins) := slL insL
def fnL : Lay Fn where
  k := 5
  R S w cs f := ∃ v0 v1 v2, cs = [v0, .int .i64 f.ret.1, .int .i64 f.ret.2, v1, v2] ∧ I64 f.ret.1 ∧ I64 f.ret.2 ∧ tysL.R S w [v0] f.args ∧ tysL.R S w [v1] f.locs ∧ codL.R S w [v2] f.code
  len := by rintro S w cs x ⟨v0, v1, v2, rfl, _⟩; rfl
  keep := by rintro S w w' cs x ⟨v0, v1, v2, rfl, h1, h2, h3, h4, h5⟩ hk; exact ⟨v0, v1, v2, rfl, h1, h2, tysL.keep h3 hk, tysL.keep h4 hk, codL.keep h5 hk⟩
  wide := by rintro S T w cs x ⟨v0, v1, v2, rfl, h1, h2, h3, h4, h5⟩ hk; exact ⟨v0, v1, v2, rfl, h1, h2, tysL.wide h3 hk, tysL.wide h4 hk, codL.wide h5 hk⟩
  one := by
    rintro S w cs x ⟨v0, v1, v2, rfl, h1, h2, h3, h4, h5⟩ u hu
    simp at hu
    rcases hu with rfl | rfl | rfl | rfl | rfl
    · exact tysL.one h3 _ (by simp)
    · rfl
    · rfl
    · exact tysL.one h4 _ (by simp)
    · exact codL.one h5 _ (by simp)
def impL : Lay Imp where
  k := 3
  R S w cs f := ∃ v0, cs = [v0, .int .i64 f.ret.1, .int .i64 f.ret.2] ∧ I64 f.ret.1 ∧ I64 f.ret.2 ∧ tysL.R S w [v0] f.args
  len := by rintro S w cs x ⟨v0, rfl, _⟩; rfl
  keep := by rintro S w w' cs x ⟨v0, rfl, h1, h2, h3⟩ hk; exact ⟨v0, rfl, h1, h2, tysL.keep h3 hk⟩
  wide := by rintro S T w cs x ⟨v0, rfl, h1, h2, h3⟩ hk; exact ⟨v0, rfl, h1, h2, tysL.wide h3 hk⟩
  one := by
    rintro S w cs x ⟨v0, rfl, h1, h2, h3⟩ u hu
    simp at hu
    rcases hu with rfl | rfl | rfl
    · exact tysL.one h3 _ (by simp)
    · rfl
    · rfl
def modL : Lay Mod where
  k := 5
  R S w cs m := ∃ v0 v1 v2 v3 v4, cs = [v0, v1, v2, v3, v4] ∧ (slL tysL).R S w [v0] m.recs ∧ (slL fnL).R S w [v1] m.funcs ∧ (slL impL).R S w [v2] m.imps ∧ (slL numL).R S w [v3] m.ints ∧ (slL strL).R S w [v4] m.texts
  len := by rintro S w cs x ⟨v0, v1, v2, v3, v4, rfl, _⟩; rfl
  keep := by rintro S w w' cs x ⟨v0, v1, v2, v3, v4, rfl, h0, h1, h2, h3, h4⟩ hk; exact ⟨v0, v1, v2, v3, v4, rfl, (slL tysL).keep h0 hk, (slL fnL).keep h1 hk, (slL impL).keep h2 hk, (slL numL).keep h3 hk, (slL strL).keep h4 hk⟩
  wide := by rintro S T w cs x ⟨v0, v1, v2, v3, v4, rfl, h0, h1, h2, h3, h4⟩ hk; exact ⟨v0, v1, v2, v3, v4, rfl, (slL tysL).wide h0 hk, (slL fnL).wide h1 hk, (slL impL).wide h2 hk, (slL numL).wide h3 hk, (slL strL).wide h4 hk⟩
  one := by
    rintro S w cs x ⟨v0, v1, v2, v3, v4, rfl, h0, h1, h2, h3, h4⟩ u hu
    simp at hu
    rcases hu with rfl | rfl | rfl | rfl | rfl
    · exact (slL tysL).one h0 _ (by simp)
    · exact (slL fnL).one h1 _ (by simp)
    · exact (slL impL).one h2 _ (by simp)
    · exact (slL numL).one h3 _ (by simp)
    · exact (slL strL).one h4 _ (by simp)

theorem strB_len (s : ByteArray) : (strB s).length = s.size := by simp [strB]
theorem strB_cells (s : ByteArray) : Lib.strCells s = Bs (strB s) := by simp [Lib.strCells, Bs, strB]
def Owns {α : Type} (L : Lay α) (ty base : Nat) (w : World) (v : Value) (xs : List α) : Prop :=
  ∃ css : List (List Value), css.length = xs.length ∧ w.ownsRow base ty L.k v xs.length css.flatten ∧
    ∀ (j : Nat) (x : α) (cs : List Value), xs[j]? = some x → css[j]? = some cs → L.R (fun b => base ≤ b ∧ b < w.heap.size ∧ v.ownBlock ≠ some b) w cs x

theorem Owns.nil {α : Type} (L : Lay α) (ty base : Nat) (w : World) : Owns L ty base w (.slice none 0 0) ([] : List α) :=
  ⟨[], rfl, World.ownsRow_nil _ _ _ _, fun j x cs h => by simp at h⟩

theorem flat_get {css : List (List Value)} {k : Nat} (hk : ∀ cs ∈ css, cs.length = k) {j : Nat} {cs : List Value} (hj : css[j]? = some cs) (i : Nat) (hi : i < k) : css.flatten[j * k + i]? = cs[i]? := by
  induction css generalizing j with
  | nil => simp at hj
  | cons c css ih =>
    have hc := hk c (by simp)
    cases j with
    | zero =>
      simp at hj
      subst hj
      rw [List.flatten_cons, List.getElem?_append_left (by omega)]
      simp
    | succ j =>
      rw [List.flatten_cons, List.getElem?_append_right (by rw [hc, Nat.succ_mul]; omega), hc, show (j + 1) * k + i - k = j * k + i by rw [Nat.succ_mul]; omega]
      exact ih (fun x hx => hk x (by simp [hx])) (by simpa using hj)

theorem Owns.slice {α : Type} {L : Lay α} {ty base : Nat} {w : World} {v : Value} {xs : List α} (h : Owns L ty base w v xs) :
    (slL L).R (fun b => base ≤ b ∧ b < w.heap.size) w [v] xs := by
  obtain ⟨css, hl, hown, hR⟩ := h
  have hk : ∀ cs ∈ css, cs.length = L.k := fun cs hcs => by
    obtain ⟨j, hj⟩ := List.mem_iff_getElem?.1 hcs
    have hjl : j < xs.length := by rw [← hl]; exact (List.getElem?_eq_some_iff.1 hj).1
    exact L.len (hR j _ cs (List.getElem?_eq_getElem hjl) hj)
  rcases hown.2 with ⟨rfl, h0⟩ | ⟨g, cap, cur, rfl, hb, hg, hnc, hcm, _, _⟩
  · exact ⟨none, 0, by rw [h0], by omega, by simp [maxLen], fun hpos => absurd hpos (by omega)⟩
  · refine ⟨some ⟨g, 0, none⟩, cap, rfl, hnc, hcm, fun _ => ⟨⟨g, 0, none⟩, rfl, ⟨hb, (Array.getElem?_eq_some_iff.1 hg).1⟩, fun j x hx => ?_⟩⟩
    have hjl : j < css.length := by rw [hl]; exact (List.getElem?_eq_some_iff.1 hx).1
    have hcs := List.getElem?_eq_getElem hjl
    have hr := hR j x _ hx hcs
    refine ⟨_, fun i u hu => ?_, L.wide hr fun b hb => ⟨hb.1, hb.2.1⟩⟩
    have hi : i < L.k := by rw [← L.len hr]; exact (List.getElem?_eq_some_iff.1 hu).1
    exact hown.cells rfl (j * L.k + i) u (by rw [flat_get hk hcs i hi]; exact hu)

theorem Owns.lt {α : Type} {L : Lay α} {ty base : Nat} {w : World} {v : Value} {xs : List α} (h : Owns L ty base w v xs) : ∀ i, v.ownBlock = some i → base ≤ i ∧ i < w.heap.size := by
  obtain ⟨css, hl, hown, hR⟩ := h
  exact fun i hi => ⟨(hown.lt i hi).1, (hown.lt i hi).2⟩

theorem Owns.kept {α : Type} {L : Lay α} {ty base : Nat} {w w' : World} {v : Value} {xs : List α} (h : Owns L ty base w v xs) {g : Nat} (hg : g < base) (ho : Only g w w') : Owns L ty base w' v xs := by
  have hlt := h.lt
  obtain ⟨css, hl, hown, hR⟩ := h
  refine ⟨css, hl, hown.kept (row := some g) ho (.inr fun e => by have := hlt g e; omega), fun j x cs h1 h2 => ?_⟩
  refine L.wide (L.keep (hR j x cs h1 h2) fun b hb => ho.block b hb.2.1 (fun e => by injection e; omega)) fun b hb => ⟨hb.1, Nat.lt_of_lt_of_le hb.2.1 ho.size, hb.2.2⟩

def vOne : List Value → Value
  | [v] => v
  | _ => .nilFunc
def vAgg (cs : List Value) : Value := .agg cs.toArray
def Puts (ys : List Nat) (w : World) (e : Ending) (w' : World) : Prop := ∃ u, e = .returned u ∧ w'.ownsRow w.heap.size 5 1 u ys.length (Bs ys) ∧ Below w.heap.size w w'
def Tells (b : Bool) (w : World) (e : Ending) (w' : World) : Prop := e = .returned (.bool b) ∧ Below w.heap.size w w'
theorem all_take {α : Type} {g : α → Bool} {xs : List α} {k : Nat} {x : α} (h : (xs.take k).all g = true) (hx : xs[k]? = some x) (hg : g x = true) : (xs.take (k + 1)).all g = true := by
  obtain ⟨hk, rfl⟩ := List.getElem?_eq_some_iff.1 hx
  rw [List.take_succ_eq_append_getElem hk, List.all_append, h]
  simp [hg]
theorem one_cell {w : World} {a : Addr} {k K : Nat} {o : Option Value} (hK : K = 1) (h : w.cell? (a.add (k * K + 0)) = o) : w.cell? (a.add k) = o := by
  subst hK
  simpa using h
set_option maxRecDepth 100000 in
theorem walk_append_str (w : World) {ops : Array Oper} {rest : List Oper} {o : Oper} {a : Act} {Q : Exit → Act → World → Prop} (hgd : o.guard = none) (sl x : Operand)
    (ho : o.op = .call { callee := .builtin .append, args := #[sl, x], argTypes := #[67, 9] })
    (base : Nat) (v : Value) (n : Nat) (xs : List Nat) (hs : a.eval sl = v) (hown : w.ownsRow base 5 1 v n (Bs xs)) (s : ByteArray) (hx : a.eval x = .string s)
    (hbig : n + (strB s).length ≤ 140737488355328) (hbase : base ≤ w.heap.size)
    (h : ∀ v' w', w'.ownsRow base 5 1 v' (n + (strB s).length) (Bs (xs ++ strB s)) → w.grownBy w' v.ownBlock → wpList Tryz.prog ops Q rest (a.put o.dst v') w') : wpList Tryz.prog ops Q (o :: rest) a w := by
  obtain ⟨i0, hi0, hz0, hz1, hz2⟩ := info_parts u8_info
  rw [strB_len] at hbig h
  refine Lib.wpList_append_own_string _ hgd sl x 67 9 ho base 5 i0 Tryz.underlying67 Tryz.underlying9 hi0 hz0 hz1 hz2 v n (Bs xs) hs hown s hx (by simp only [maxLen]; omega) hbig hbase ?_
  intro v' w' h1 h2 _
  rw [strB_cells, ← Bs_app] at h1
  exact h v' w' h1 h2
def C5 (b : Nat) (v0 v1 v2 v3 v4 : Value) (w : World) : Prop := w.cell? ⟨b, 0, none⟩ = some v0 ∧ w.cell? ⟨b, 1, none⟩ = some v1 ∧ w.cell? ⟨b, 2, none⟩ = some v2 ∧ w.cell? ⟨b, 3, none⟩ = some v3 ∧ w.cell? ⟨b, 4, none⟩ = some v4
theorem C5.below {b B : Nat} {v0 v1 v2 v3 v4 : Value} {w w' : World} (h : C5 b v0 v1 v2 v3 v4 w) (hb : Below B w w') (hB : b < B) : C5 b v0 v1 v2 v3 v4 w' :=
  ⟨(hb.cell (p := ⟨b, 0, none⟩) hB).trans h.1, (hb.cell (p := ⟨b, 1, none⟩) hB).trans h.2.1, (hb.cell (p := ⟨b, 2, none⟩) hB).trans h.2.2.1, (hb.cell (p := ⟨b, 3, none⟩) hB).trans h.2.2.2.1, (hb.cell (p := ⟨b, 4, none⟩) hB).trans h.2.2.2.2⟩
theorem take_same {α : Type} {xs ys : List α} {k : Nat} {x y : α} (h : xs.take k = ys.take k) (hx : xs[k]? = some x) (hy : ys[k]? = some y) (e : x = y) : xs.take (k + 1) = ys.take (k + 1) := by
  obtain ⟨hk, rfl⟩ := List.getElem?_eq_some_iff.1 hx
  obtain ⟨hk2, rfl⟩ := List.getElem?_eq_some_iff.1 hy
  rw [List.take_succ_eq_append_getElem hk, List.take_succ_eq_append_getElem hk2, h, e]
theorem get_ne {α : Type} {xs ys : List α} {k : Nat} {x y : α} (hx : xs[k]? = some x) (hy : ys[k]? = some y) (e : ¬ x = y) : xs ≠ ys := by
  rintro rfl
  rw [hx] at hy
  exact e (Option.some.inj hy)
theorem next_cell (a : Addr) (m i : Nat) (hi : 0 < i) : a.add (m + i) = ⟨(a.add m).block, (a.add m).off + i, none⟩ := by
  rw [← addAdd]
  generalize a.add m = x
  have : i ≠ 0 := by omega
  simp [Addr.add, this]
theorem cut_flat {α : Type} (f : α → List Nat) (xs : List α) (k : Nat) (x : α) (h : xs[k]? = some x) : ((xs.take (k + 1)).map f).flatten = ((xs.take k).map f).flatten ++ f x := by
  obtain ⟨hk, rfl⟩ := List.getElem?_eq_some_iff.1 h
  rw [List.take_succ_eq_append_getElem hk, List.map_append, List.flatten_append]
  simp
theorem flat_short {α : Type} (f : α → List Nat) (xs : List α) (k : Nat) : ((xs.take k).map f).flatten.length ≤ (xs.map f).flatten.length := by
  conv => rhs; rw [← List.take_append_drop k xs, List.map_append, List.flatten_append]
  rw [List.length_append]
  omega
theorem cell_new (w : World) (t : TypeId) (cs : List Value) : ∀ j u, cs[j]? = some u → (w.alloc (.cells cs.toArray t)).cell? ((⟨w.heap.size, 0, none⟩ : Addr).add j) = some u := fun j u hu => by
  have e : (⟨w.heap.size, 0, none⟩ : Addr).add j = ⟨w.heap.size, j, none⟩ := by unfold Addr.add; split <;> simp_all
  rw [e, World.cell?_alloc_mark]
  simpa using hu
theorem below_grown {B : Nat} {w w' : World} {row : Option Nat} (hg : w.grownBy w' row) (hB : B ≤ w.heap.size) (hr : ∀ i, row = some i → B ≤ i) : Below B w w' := (Below.refl B w).grown hg hB hr
def fn0 : Fn := ⟨[], (1, 0), [], [(26, 0, 0)]⟩
theorem mod_at {w w1 : World} {cs : List Value} {m : Mod} (h : modL.R (· < w.heap.size) w cs m) (hb : Below w.heap.size w w1) : modL.R (· < w1.heap.size) w1 cs m :=
  modL.wide (modL.keep h fun b hb1 => hb.block b hb1) fun _ hb1 => Nat.lt_of_lt_of_le hb1 hb.size
theorem mod_shape {S : Nat → Prop} {w : World} {cs : List Value} {m : Mod} (h : modL.R S w cs m) : ∃ A0 A1 A2 A3 A4 n0 n1 n2 n3 n4 c0 c1 c2 c3 c4, cs = [.slice A0 n0 c0, .slice A1 n1 c1, .slice A2 n2 c2, .slice A3 n3 c3, .slice A4 n4 c4] := by
  obtain ⟨_, _, _, _, _, rfl, ⟨A0, d0, e0, -⟩, ⟨A1, d1, e1, -⟩, ⟨A2, d2, e2, -⟩, ⟨A3, d3, e3, -⟩, ⟨A4, d4, e4, -⟩⟩ := h
  simp only [List.cons.injEq, and_true] at e0 e1 e2 e3 e4
  subst e0 e1 e2 e3 e4
  exact ⟨A0, A1, A2, A3, A4, _, _, _, _, _, d0, d1, d2, d3, d4, rfl⟩
def mE : Mod := ⟨[], [], [], [], []⟩
theorem below_drewN (w : World) (q : Nat) : Below w.heap.size w (w.drewN q) := ⟨rfl, rfl, rfl, Nat.le_refl _, fun _ _ => rfl⟩
theorem below_drews' {B : Nat} {w w1 : World} (h : Below B w w1) (q : Nat) (hB : B ≤ w1.heap.size) : Below B w (w1.drewN q) := h.trans ((below_drewN w1 q).mono hB)
end Go.Proofs.YtikhhcmfjncabaaGreat
namespace Go.Proofs.YtikhhcmfjncabaaGreat
open Go.ChangeShapes Go.WideShapes Go.ChangeAt Go.RowKit

def Opens {α : Type} (t : TypeId) (L : Lay α) : Prop := ∀ {H : Type} {enc : TypeId × Value → H} {W : World} {cs : List Value} {x : DataW H × List MemPlace} {fuel : Nat}, DataW.trod enc Tryz.prog W 0 (fun _ => true) true fuel t cs = some x → ∃ y, L.R (· < W.heap.size) W cs y

instance : Inhabited Fn := ⟨⟨[], (0, 0), [], []⟩⟩
instance : Inhabited Imp := ⟨⟨[], (0, 0)⟩⟩
theorem opens_slice {α : Type} [Inhabited α] {t e : TypeId} {L : Lay α} (hk : 0 < L.k) (ht : Tryz.prog.underlying t = some (.slice e)) (hc : Tryz.prog.cellsOf e = L.k) (h : Opens e L) : Opens t (slL L) := by
  intro H enc W cs x fuel hf
  rcases Go.Deep.open_slice ht hf with ⟨hcs, _⟩ | ⟨a, l, c, m, n, D, Pl, hcs, _, hl, hm, hmm, _, hx⟩
  · exact ⟨[], none, 0, hcs, Nat.le_refl _, by simp [maxLen], Sq.nil _ _ _ _⟩
  · simp only [if_true] at hmm
    have hall : ∀ i, i < l → ∃ y cs', (∀ j u, cs'[j]? = some u → W.cell? (a.add (i * L.k + j)) = some u) ∧ L.R (· < W.heap.size) W cs' y := fun i hi => by
      obtain ⟨cs', h1, h2⟩ := hx i (by omega)
      rw [hc] at h1
      obtain ⟨_, hlen, hcell⟩ := World.cells?_some h1
      obtain ⟨y, hy⟩ := h h2
      refine ⟨y, cs', fun j u hu => ?_, hy⟩
      have hj : j < cs'.length := (List.getElem?_eq_some_iff.1 hu).1
      have := hcell j (by omega)
      rw [addAdd] at this
      rw [this, hu]
    obtain ⟨f, hf2⟩ := Go.Deep.choose_lt hall
    refine ⟨(List.range l).map f, some a, c, by simpa using hcs, by simpa using hl, hm, fun hpos => ⟨a, rfl, ?_, fun j y hj => ?_⟩⟩
    · simp at hpos
      obtain ⟨cs', h1, h2⟩ := hf2 0 hpos
      have hlen := L.len h2
      have := World.block_lt_of_cell? W _ (h1 0 (cs'[0]'(by omega)) (List.getElem?_eq_getElem _))
      rwa [addBlock] at this
    · have hjl : j < l := by
        have := (List.getElem?_eq_some_iff.1 hj).1
        simpa using this
      have e : f j = y := by simpa [hjl] using hj
      obtain ⟨cs', h1, h2⟩ := hf2 j hjl
      exact ⟨cs', h1, e ▸ h2⟩

theorem i64_of {n : Int} (h : (Lit.int .i64 n).wf = true) : I64 n := by
  have hmin : IntKind.i64.min = -9223372036854775808 := rfl
  have hmax : IntKind.i64.max = 9223372036854775807 := rfl
  simp only [Lit.wf, Bool.and_eq_true, decide_eq_true_eq] at h
  unfold I64
  omega

set_option maxRecDepth 100000 in
theorem opens_typ : Opens 41 typL := by
  intro H enc W cs x fuel hf
  obtain ⟨xs, k, hk, hxy, hl, hxl, hfl⟩ := DataW.trod_struct Tryz.underlying41 hf
  rw [show Tryz.prog.cellsOf 41 = 2 by kernel_rfl] at hl
  match xs, hxl, cs, hl with
  | [y0, y1], _, [v0, v1], _ =>
    have g0 := hfl 0 _ rfl
    have g1 := hfl 1 _ rfl
    simp [show Tryz.prog.cellsOf 3 = 1 by kernel_rfl] at g0 g1
    obtain ⟨z0, e0, _, w0⟩ := DataW.trod_int Tryz.underlying3 g0
    obtain ⟨z1, e1, _, w1⟩ := DataW.trod_int Tryz.underlying3 g1
    simp at e0 e1
    subst e0 e1
    exact ⟨(z0, z1), rfl, i64_of w0, i64_of w1⟩
set_option maxRecDepth 100000 in
theorem opens_ins : Opens 49 insL := by
  intro H enc W cs x fuel hf
  obtain ⟨xs, k, hk, hxy, hl, hxl, hfl⟩ := DataW.trod_struct Tryz.underlying49 hf
  rw [show Tryz.prog.cellsOf 49 = 3 by kernel_rfl] at hl
  match xs, hxl, cs, hl with
  | [y0, y1, y2], _, [v0, v1, v2], _ =>
    have g0 := hfl 0 _ rfl
    have g1 := hfl 1 _ rfl
    have g2 := hfl 2 _ rfl
    simp [show Tryz.prog.cellsOf 3 = 1 by kernel_rfl] at g0 g1 g2
    obtain ⟨z0, e0, _, w0⟩ := DataW.trod_int Tryz.underlying3 g0
    obtain ⟨z1, e1, _, w1⟩ := DataW.trod_int Tryz.underlying3 g1
    obtain ⟨z2, e2, _, w2⟩ := DataW.trod_int Tryz.underlying3 g2
    simp at e0 e1 e2
    subst e0 e1 e2
    exact ⟨(z0, z1, z2), rfl, i64_of w0, i64_of w1, i64_of w2⟩
theorem opens_num : Opens 47 numL := by
  intro H enc W cs x fuel hf
  obtain ⟨z, rfl, _, hw⟩ := DataW.trod_int Tryz.underlying47 hf
  have hb := bounds_u64 hw
  exact ⟨z.toNat, by show [Value.int .u64 z] = _; rw [Int.toNat_of_nonneg hb.1], by unfold B64; omega⟩
theorem opens_tys : Opens 36 tysL := opens_slice (by decide) Tryz.underlying36 (by kernel_rfl) opens_typ
end Go.Proofs.YtikhhcmfjncabaaGreat
namespace Go.Proofs.YtikhhcmfjncabaaGreat
open Go.ChangeShapes Go.WideShapes Go.ChangeAt Go.RowKit

def OpensZ {α : Type} (t : TypeId) (L : Lay α) (Z : α → Prop) : Prop := ∀ {H : Type} {enc : TypeId × Value → H} {W : World} {cs : List Value} {x : DataW H × List MemPlace} {fuel : Nat}, DataW.trod enc Tryz.prog W 0 (fun _ => true) true fuel t cs = some x →
  (∀ n ∈ x.1.weights Tryz.prog t, n ≤ reachBytes) → ∃ y, L.R (· < W.heap.size) W cs y ∧ Z y
def Zl {α : Type} (Z : α → Prop) (xs : List α) : Prop := xs.length ≤ reachBytes ∧ ∀ x ∈ xs, Z x

theorem weightsAll_mem {H : Type} {P : Program} {e : TypeId} : ∀ {ds : List (DataW H)} {d : DataW H}, d ∈ ds → ∀ n ∈ d.weights P e, n ∈ DataW.weightsAll P e ds
  | d0 :: ds, d, hd, n, hn => by
    simp only [DataW.weightsAll, List.mem_append]
    rcases List.mem_cons.1 hd with rfl | h
    · exact .inl hn
    · exact .inr (weightsAll_mem h n hn)

theorem opensZ_slice {α : Type} [Inhabited α] {t e : TypeId} {L : Lay α} {Z : α → Prop} (hk : 0 < L.k) (ht : Tryz.prog.underlying t = some (.slice e)) (hc : Tryz.prog.cellsOf e = L.k) (hby : 0 < Tryz.prog.bytesOf e) (h : OpensZ e L Z) : OpensZ t (slL L) (Zl Z) := by
  intro H enc W cs x fuel hf hwt
  rcases Go.Deep.open_slice ht hf with ⟨hcs, _⟩ | ⟨a, l, c, m, n, D, Pl, hcs, _, hl, hm, hmm, hxx, hx⟩
  · exact ⟨[], ⟨none, 0, hcs, Nat.le_refl _, by simp [maxLen], Sq.nil _ _ _ _⟩, by simp, by simp⟩
  · simp only [if_true] at hmm
    rw [hxx] at hwt
    simp only [DataW.weights, ht] at hwt
    have hlr : l ≤ reachBytes := by
      have h1 := hwt _ (List.mem_cons_self ..)
      simp only [List.length_map, List.length_range] at h1
      have h2 := Nat.mul_le_mul (show l ≤ l + (m - l) by omega) (show 1 ≤ Tryz.prog.bytesOf e by omega)
      omega
    have hwe : ∀ i, i < l → ∀ n ∈ (D i).weights Tryz.prog e, n ≤ reachBytes := fun i hi n hn =>
      hwt n (List.mem_cons_of_mem _ (List.mem_append_left _ (weightsAll_mem (List.mem_map.2 ⟨i, List.mem_range.2 hi, rfl⟩) n hn)))
    have hall : ∀ i, i < l → ∃ y cs', (∀ j u, cs'[j]? = some u → W.cell? (a.add (i * L.k + j)) = some u) ∧ L.R (· < W.heap.size) W cs' y ∧ Z y := fun i hi => by
      obtain ⟨cs', h1, h2⟩ := hx i (by omega)
      rw [hc] at h1
      obtain ⟨_, hlen, hcell⟩ := World.cells?_some h1
      obtain ⟨y, hy⟩ := h h2 (hwe i hi)
      refine ⟨y, cs', fun j u hu => ?_, hy⟩
      have hj : j < cs'.length := (List.getElem?_eq_some_iff.1 hu).1
      have := hcell j (by omega)
      rw [addAdd] at this
      rw [this, hu]
    obtain ⟨f, hf2⟩ := Go.Deep.choose_lt hall
    refine ⟨(List.range l).map f, ⟨some a, c, by simpa using hcs, by simpa using hl, hm, fun hpos => ⟨a, rfl, ?_, fun j y hj => ?_⟩⟩, by simpa using hlr, fun y hy => ?_⟩
    · simp at hpos
      obtain ⟨cs', h1, h2, _⟩ := hf2 0 hpos
      have hlen := L.len h2
      have := World.block_lt_of_cell? W _ (h1 0 (cs'[0]'(by omega)) (List.getElem?_eq_getElem _))
      rwa [addBlock] at this
    · have hjl : j < l := by
        have := (List.getElem?_eq_some_iff.1 hj).1
        simpa using this
      have e : f j = y := by simpa [hjl] using hj
      obtain ⟨cs', h1, h2, _⟩ := hf2 j hjl
      exact ⟨cs', h1, e ▸ h2⟩
    · obtain ⟨i, hi, rfl⟩ := List.mem_map.1 hy
      obtain ⟨_, _, _, h3⟩ := hf2 i (List.mem_range.1 hi)
      exact h3

theorem OpensZ.of {α : Type} {t : TypeId} {L : Lay α} (h : Opens t L) : OpensZ t L (fun _ => True) := fun hf _ => by
  obtain ⟨y, hy⟩ := h hf
  exact ⟨y, hy, trivial⟩
theorem opensZ_str : OpensZ 9 strL (fun s => s.length ≤ reachBytes) := by
  intro H enc W cs x fuel hf hwt
  obtain ⟨s, rfl, hx, _⟩ := DataW.trod_string Tryz.underlying9 hf
  refine ⟨strB s, ⟨s, rfl, rfl⟩, ?_⟩
  have := hwt s.size (by rw [hx]; simp [DataW.weights])
  show (strB s).length ≤ reachBytes
  rw [strB_len]
  exact this
abbrev Zt : List Typ → Prop := Zl fun _ => True
theorem opensZ_tys : OpensZ 36 tysL Zt := opensZ_slice (by decide) Tryz.underlying36 (by kernel_rfl) (by decide +kernel) (OpensZ.of opens_typ)
theorem opensZ_cod : OpensZ 42 codL (Zl fun _ => True) := opensZ_slice (by decide) Tryz.underlying42 (by kernel_rfl) (by decide +kernel) (OpensZ.of opens_ins)
def Zf (f : Fn) : Prop := Zt f.args ∧ Zt f.locs ∧ Zl (fun _ => True) f.code
def Zi (f : Imp) : Prop := Zt f.args
def Zm (m : Mod) : Prop := Zl Zt m.recs ∧ Zl Zf m.funcs ∧ Zl Zi m.imps ∧ Zl (fun _ => True) m.ints ∧ Zl (fun s => s.length ≤ reachBytes) m.texts

theorem struct_weights {H : Type} {P : Program} {t : TypeId} {fs : Array Field} {parts : List (DataW H)} (ht : P.underlying t = some (.struct fs)) (h : ∀ n ∈ (DataW.agg parts).weights P t, n ≤ reachBytes) {i : Nat} {f : Field} {d : DataW H} (hf : fs[i]? = some f) (hd : parts[i]? = some d) : ∀ n ∈ d.weights P f.type, n ≤ reachBytes := by
  intro n hn
  refine h n ?_
  simp only [DataW.weights, ht]
  exact DataW.weights_mem_each (by simpa using ⟨f, hf, rfl⟩) hd n hn

set_option maxRecDepth 100000 in
theorem opensZ_fn : OpensZ 44 fnL Zf := by
  intro H enc W cs x fuel hf hwt
  obtain ⟨xs, k, hk, hxy, hl, hxl, hfl⟩ := DataW.trod_struct Tryz.underlying44 hf
  rw [hxy] at hwt
  have hw := fun i f d => struct_weights (i := i) (f := f) (d := d) Tryz.underlying44 hwt
  rw [show Tryz.prog.cellsOf 44 = 5 by kernel_rfl] at hl
  match xs, hxl, cs, hl with
  | [y0, y1, y2, y3], _, [v0, v1, v2, v3, v4], _ =>
    have g0 := hfl 0 _ rfl
    have g1 := hfl 1 _ rfl
    have g2 := hfl 2 _ rfl
    have g3 := hfl 3 _ rfl
    have w0 := hw 0 _ _ rfl rfl
    have w2 := hw 2 _ _ rfl rfl
    have w3 := hw 3 _ _ rfl rfl
    simp [show Tryz.prog.cellsOf 36 = 1 by kernel_rfl, show Tryz.prog.cellsOf 41 = 2 by kernel_rfl, show Tryz.prog.cellsOf 42 = 1 by kernel_rfl] at g0 g1 g2 g3
    obtain ⟨a, ha, za⟩ := opensZ_tys g0 w0
    obtain ⟨r, hr, i1, i2⟩ := opens_typ g1
    obtain ⟨l, hl, zl⟩ := opensZ_tys g2 w2
    obtain ⟨c, hc, zc⟩ := opensZ_cod g3 w3
    simp at hr
    obtain ⟨rfl, rfl⟩ := hr
    exact ⟨⟨a, r, l, c⟩, ⟨v0, v3, v4, rfl, i1, i2, ha, hl, hc⟩, za, zl, zc⟩
set_option maxRecDepth 100000 in
theorem opensZ_imp : OpensZ 46 impL Zi := by
  intro H enc W cs x fuel hf hwt
  obtain ⟨xs, k, hk, hxy, hl, hxl, hfl⟩ := DataW.trod_struct Tryz.underlying46 hf
  rw [hxy] at hwt
  have hw := fun i f d => struct_weights (i := i) (f := f) (d := d) Tryz.underlying46 hwt
  rw [show Tryz.prog.cellsOf 46 = 3 by kernel_rfl] at hl
  match xs, hxl, cs, hl with
  | [y0, y1], _, [v0, v1, v2], _ =>
    have g0 := hfl 0 _ rfl
    have g1 := hfl 1 _ rfl
    have w0 := hw 0 _ _ rfl rfl
    simp [show Tryz.prog.cellsOf 36 = 1 by kernel_rfl, show Tryz.prog.cellsOf 41 = 2 by kernel_rfl] at g0 g1
    obtain ⟨a, ha, za⟩ := opensZ_tys g0 w0
    obtain ⟨r, hr, i1, i2⟩ := opens_typ g1
    simp at hr
    obtain ⟨rfl, rfl⟩ := hr
    exact ⟨⟨a, r⟩, ⟨v0, rfl, i1, i2, ha⟩, za⟩
set_option maxRecDepth 100000 in
theorem opensZ_mod : OpensZ 28 modL Zm := by
  intro H enc W cs x fuel hf hwt
  obtain ⟨xs, k, hk, hxy, hl, hxl, hfl⟩ := DataW.trod_struct Tryz.underlying28 hf
  rw [hxy] at hwt
  have hw := fun i f d => struct_weights (i := i) (f := f) (d := d) Tryz.underlying28 hwt
  rw [show Tryz.prog.cellsOf 28 = 5 by kernel_rfl] at hl
  match xs, hxl, cs, hl with
  | [y0, y1, y2, y3, y4], _, [v0, v1, v2, v3, v4], _ =>
    have g0 := hfl 0 _ rfl
    have g1 := hfl 1 _ rfl
    have g2 := hfl 2 _ rfl
    have g3 := hfl 3 _ rfl
    have g4 := hfl 4 _ rfl
    have w0 := hw 0 _ _ rfl rfl
    have w1 := hw 1 _ _ rfl rfl
    have w2 := hw 2 _ _ rfl rfl
    have w3 := hw 3 _ _ rfl rfl
    have w4 := hw 4 _ _ rfl rfl
    simp [show Tryz.prog.cellsOf 22 = 1 by kernel_rfl, show Tryz.prog.cellsOf 23 = 1 by kernel_rfl, show Tryz.prog.cellsOf 24 = 1 by kernel_rfl, show Tryz.prog.cellsOf 25 = 1 by kernel_rfl, show Tryz.prog.cellsOf 26 = 1 by kernel_rfl] at g0 g1 g2 g3 g4
    obtain ⟨r, hr, zr⟩ := opensZ_slice (L := tysL) (by decide) Tryz.underlying22 (by kernel_rfl) (by decide +kernel) opensZ_tys g0 w0
    obtain ⟨f, hf, zf⟩ := opensZ_slice (L := fnL) (by decide) Tryz.underlying23 (by kernel_rfl) (by decide +kernel) opensZ_fn g1 w1
    obtain ⟨i, hi, zi⟩ := opensZ_slice (L := impL) (by decide) Tryz.underlying24 (by kernel_rfl) (by decide +kernel) opensZ_imp g2 w2
    obtain ⟨n, hn, zn⟩ := opensZ_slice (L := numL) (by decide) Tryz.underlying25 (by kernel_rfl) (by decide +kernel) (OpensZ.of opens_num) g3 w3
    obtain ⟨s, hs, zs⟩ := opensZ_slice (L := strL) (by decide) Tryz.underlying26 (by kernel_rfl) (by decide +kernel) opensZ_str g4 w4
    exact ⟨⟨r, f, i, n, s⟩, ⟨v0, v1, v2, v3, v4, rfl, hr, hf, hi, hn, hs⟩, zr, zf, zi, zn, zs⟩

theorem open_modZ {H : Type} {enc : TypeId × Value → H} {W : World} {v : Value} {d : DataW H} {p : List MemPlace} (h : DataW.Trod enc Tryz.prog W 0 (fun _ => true) true 28 v d p) (hw : ∀ n ∈ d.weights Tryz.prog 28, n ≤ reachBytes) :
    ∃ cs m, v = vAgg cs ∧ modL.R (· < W.heap.size) W cs m ∧ Zm m := by
  obtain ⟨fuel, hf⟩ := h
  obtain ⟨m, hm, hz⟩ := opensZ_mod hf hw
  have hl := modL.len hm
  have hv : v = .agg v.cells := by
    cases v <;> first | rfl | exact absurd hl (by simp [Value.cells, modL])
  refine ⟨v.cells.toList, m, ?_, hm, hz⟩
  rw [vAgg, Array.toArray_toList]
  exact hv
end Go.Proofs.YtikhhcmfjncabaaGreat
namespace Go.Proofs.YtikhhcmfjncabaaGreat

def namedB (m : Mod) (f : Fn) (i : Ins) : Bool :=
  if i.1 = 0 then decide (i.2.1 < (m.ints.length : Int))
  else if i.1 = 1 then decide (i.2.1 < (m.texts.length : Int))
  else if i.1 = 3 ∨ i.1 = 4 then decide (i.2.1 < (f.args.length : Int) + (f.locs.length : Int))
  else if i.1 = 23 ∨ i.1 = 24 then decide (i.2.1 < (f.code.length : Int))
  else if i.1 = 25 then decide (i.2.1 < (m.funcs.length : Int))
  else if i.1 = 27 then decide (i.2.1 < (m.imps.length : Int))
  else if i.1 = 28 then decide (i.2.1 < (m.recs.length : Int))
  else if i.1 = 29 ∨ i.1 = 30 then (match m.recs[i.2.1.toNat]? with | some r => decide (i.2.2 < (r.length : Int)) | none => false)
  else true
def hanB (t : Typ) : Bool := decide (t.1 = 5)
def hostB (t : Typ) : Bool := decide (t.1 = 1 ∨ t.1 = 5)
def badFn (m : Mod) (f : Fn) : Bool := f.locs.any hanB || f.code.any fun i => !namedB m f i
def badImp (i : Imp) : Bool := i.args.any (fun t => !hostB t) || !hostB i.ret
def badM (m : Mod) : Bool := m.funcs.any (badFn m) || m.imps.any badImp
def checkN (m : Mod) : Int := if fitB m = false then 2 else if badM m = true then 1 else 0
def mainB (m : Mod) : Bool := decide (checkN m = 0) && (match m.funcs with | f :: _ => decide (f.args.length = 0) && decide (f.ret.1 = 1) | [] => false)

theorem checkN_unfit {m : Mod} (h : fitB m = false) : checkN m = 2 := by simp [checkN, h]
theorem checkN_bad {m : Mod} (h : fitB m = true) (hb : badM m = true) : checkN m = 1 := by simp [checkN, h, hb]
theorem checkN_ok {m : Mod} (h : fitB m = true) (hb : badM m = false) : checkN m = 0 := by simp [checkN, h, hb]
theorem mainB_not {m : Mod} (h : checkN m ≠ 0) : mainB m = false := by simp [mainB, h]
theorem mainB_yes {m : Mod} {f : Fn} {fs : List Fn} (h : checkN m = 0) (hf : m.funcs = f :: fs) : mainB m = (decide (f.args.length = 0) && decide (f.ret.1 = 1)) := by simp [mainB, h, hf]
theorem checkN_fit {m : Mod} (h : checkN m = 0) : fitB m = true := by
  cases hf : fitB m
  · rw [checkN_unfit hf] at h; cases h
  · rfl
theorem badFn_any {m : Mod} {f : Fn} (hf : f ∈ m.funcs) (h : badFn m f = true) : badM m = true := by
  rw [badM, Bool.or_eq_true]
  exact .inl (List.any_eq_true.2 ⟨f, hf, h⟩)
theorem badImp_any {m : Mod} {f : Imp} (hf : f ∈ m.imps) (h : badImp f = true) : badM m = true := by
  rw [badM, Bool.or_eq_true]
  exact .inr (List.any_eq_true.2 ⟨f, hf, h⟩)
theorem bad_loc {m : Mod} {f : Fn} {t : Typ} (ht : t ∈ f.locs) (h : hanB t = true) : badFn m f = true := by
  rw [badFn, Bool.or_eq_true]
  exact .inl (List.any_eq_true.2 ⟨t, ht, h⟩)
theorem bad_code {m : Mod} {f : Fn} {t : Ins} (ht : t ∈ f.code) (h : namedB m f t = false) : badFn m f = true := by
  rw [badFn, Bool.or_eq_true]
  exact .inr (List.any_eq_true.2 ⟨t, ht, by rw [h]; rfl⟩)
theorem any_take {α : Type} {g : α → Bool} {xs : List α} {k : Nat} {x : α} (h : (xs.take k).any g = false) (hx : xs[k]? = some x) (hg : g x = false) : (xs.take (k + 1)).any g = false := by
  obtain ⟨hk, rfl⟩ := List.getElem?_eq_some_iff.1 hx
  rw [List.take_succ_eq_append_getElem hk, List.any_append, h]
  simp [hg]
theorem any_here {α : Type} {g : α → Bool} {xs : List α} {x : α} (hx : x ∈ xs) (hg : g x = true) : xs.any g = true := List.any_eq_true.2 ⟨x, hx, hg⟩
theorem any_full {α : Type} {g : α → Bool} {xs : List α} {n : Nat} (h : (xs.take n).any g = false) (hl : xs.length = n) : xs.any g = false := by
  rwa [List.take_of_length_le (by omega)] at h
theorem dge (a b : Int) : decide (b ≤ a) = !decide (a < b) := by rw [Bool.eq_iff_iff]; simp
end Go.Proofs.YtikhhcmfjncabaaGreat
