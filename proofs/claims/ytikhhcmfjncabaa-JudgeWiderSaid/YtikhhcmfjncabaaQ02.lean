/-
  Mo Lay Sn Fl Kgd
-/
import Derived.Test.YtikhhcmfjncabaaQ01
import Derived.Lib.AppendStr
set_option linter.unusedSimpArgs false
set_option linter.unusedVariables false
namespace Go.Proofs.Ytikhhcmfjncabaa

abbrev Typ := Int × Int
structure Fn where
  args : List Typ
  ret : Typ
  locs : List Typ
  code : List Ins
structure Imp where
  args : List Typ
  ret : Typ
structure Mod where
  recs : List (List Typ)
  funcs : List Fn
  imps : List Imp
  ints : List Nat
  texts : List (List Nat)

noncomputable def eqB {α : Type} (a b : α) : Bool := @decide (a = b) (Classical.propDecidable _)
def tB (t : Typ) : List Nat := typB t.1 t.2
def iB (t : Ins) : List Nat := insB t.1 t.2.1 t.2.2
def lB {α : Type} (f : α → List Nat) (xs : List α) : List Nat := vb xs.length ++ (xs.map f).flatten
def fnB (f : Fn) : List Nat := lB tB f.args ++ (tB f.ret ++ (lB tB f.locs ++ lB iB f.code))
def impB (i : Imp) : List Nat := lB tB i.args ++ tB i.ret
def numB (n : Nat) : List Nat := fb n 8
def partsB (m : Mod) : List (List Nat) := [lB (lB tB) m.recs, lB fnB m.funcs, lB impB m.imps, lB numB m.ints, lB pt m.texts]
def modB (m : Mod) : List Nat := joinB (partsB m)

def goodT (r : Int) (t : Typ) : Bool := goodB t.1 t.2 r
def goodIn (t : Ins) : Bool := goodI t.1 t.2.1 t.2.2
def witB {α : Type} (lo hi : Int) (g : α → Bool) (xs : List α) : Bool := decide (lo ≤ (xs.length : Int) ∧ (xs.length : Int) ≤ hi) && xs.all g
def recOk (r : Int) (ts : List Typ) : Bool := witB 0 6 (goodT r) ts
def fnOk (r : Int) (f : Fn) : Bool := witB 0 4 (goodT r) f.args && goodT r f.ret && witB 0 (8 - (f.args.length : Int)) (goodT r) f.locs && witB 1 64 goodIn f.code
def impOk (r : Int) (i : Imp) : Bool := witB 0 4 (goodT r) i.args && goodT r i.ret
def shortB (s : List Nat) : Bool := decide (s.length ≤ 32)
def fitB (m : Mod) : Bool := witB 0 8 (recOk m.recs.length) m.recs && witB 1 8 (fnOk m.recs.length) m.funcs && witB 0 8 (impOk m.recs.length) m.imps && decide (m.ints.length ≤ 16) && witB 0 16 shortB m.texts

theorem witB_iff {α : Type} {lo hi : Int} {g : α → Bool} {xs : List α} : witB lo hi g xs = true ↔ (lo ≤ (xs.length : Int) ∧ (xs.length : Int) ≤ hi) ∧ ∀ x ∈ xs, g x = true := by simp [witB]

def PF {α : Type} (f : α → List Nat) (g : α → Prop) : Prop := ∀ x y r s, g x → g y → f x ++ r = f y ++ s → x = y ∧ r = s

theorem PF.row {α : Type} {f : α → List Nat} {g : α → Prop} (h : PF f g) : ∀ (xs ys : List α) (r s : List Nat), xs.length = ys.length → (∀ x ∈ xs, g x) → (∀ y ∈ ys, g y) → (xs.map f).flatten ++ r = (ys.map f).flatten ++ s → xs = ys ∧ r = s := by
  intro xs
  induction xs with
  | nil =>
    intro ys r s hl _ _ e
    cases ys with
    | nil => exact ⟨rfl, by simpa using e⟩
    | cons y ys => simp at hl
  | cons x xs ih =>
    intro ys r s hl hx hy e
    cases ys with
    | nil => simp at hl
    | cons y ys =>
      simp only [List.map_cons, List.flatten_cons, List.append_assoc] at e
      obtain ⟨rfl, e2⟩ := h x y _ _ (hx x (by simp)) (hy y (by simp)) e
      obtain ⟨rfl, rfl⟩ := ih ys r s (by simpa using hl) (fun z hz => hx z (by simp [hz])) (fun z hz => hy z (by simp [hz])) e2
      exact ⟨rfl, rfl⟩

def HasN {α : Type} (f : α → List Nat) (g : α → Prop) (n : Nat) (xs : List Nat) : Prop := ∃ (ys : List α) (rest : List Nat), ys.length = n ∧ (∀ y ∈ ys, g y) ∧ xs = (ys.map f).flatten ++ rest
def Has {α : Type} (f : α → List Nat) (g : α → Prop) (xs : List Nat) : Prop := ∃ (y : α) (rest : List Nat), g y ∧ xs = f y ++ rest

theorem goodT_nat {r : Int} {t : Typ} (hr : r ≤ 8) (h : goodT r t = true) : ∃ a b : Nat, t = ((a : Int), (b : Int)) ∧ a ≤ 8 ∧ b ≤ 255 := by
  obtain ⟨k, n⟩ := t
  simp only [goodT, goodB] at h
  split at h
  · rename_i hk
    simp at h
    exact ⟨k.toNat, n.toNat, by ext <;> simp <;> omega, by omega, by omega⟩
  · split at h
    · simp at h
      exact ⟨k.toNat, n.toNat, by ext <;> simp <;> omega, by omega, by omega⟩
    · split at h
      · simp at h
        exact ⟨k.toNat, n.toNat, by ext <;> simp <;> omega, by omega, by omega⟩
      · cases h

theorem fn_sizes {r : Int} {f : Fn} (h : fnOk r f = true) : f.args.length ≤ 4 ∧ f.args.length + f.locs.length ≤ 8 ∧ 1 ≤ f.code.length ∧ f.code.length ≤ 64 ∧ (∀ t ∈ f.args, goodT r t = true) ∧ goodT r f.ret = true ∧ (∀ t ∈ f.locs, goodT r t = true) ∧ ∀ t ∈ f.code, goodIn t = true := by
  simp only [fnOk, Bool.and_eq_true, witB_iff] at h
  obtain ⟨⟨⟨⟨h1, h2⟩, h3⟩, h4, h5⟩, h6, h7⟩ := h
  exact ⟨by omega, by omega, by omega, by omega, h2, h3, h5, h7⟩

theorem imp_sizes {r : Int} {i : Imp} (h : impOk r i = true) : i.args.length ≤ 4 ∧ (∀ t ∈ i.args, goodT r t = true) ∧ goodT r i.ret = true := by
  simp only [impOk, Bool.and_eq_true, witB_iff] at h
  exact ⟨by omega, h.1.2, h.2⟩

theorem rec_sizes {r : Int} {ts : List Typ} (h : recOk r ts = true) : ts.length ≤ 6 ∧ ∀ t ∈ ts, goodT r t = true := by
  simp only [recOk, witB_iff] at h
  exact ⟨by omega, h.2⟩

theorem lB_bound {α : Type} (f : α → List Nat) (xs : List α) (M : Nat) (h : ∀ x ∈ xs, (f x).length ≤ M) (hl : xs.length < B64) : (lB f xs).length ≤ 10 + xs.length * M := by
  have h1 := vb_len 9 xs.length (by unfold B64 at hl; simp; omega)
  have h2 : ∀ zs : List α, (∀ x ∈ zs, (f x).length ≤ M) → ((zs.map f).flatten).length ≤ zs.length * M := by
    intro zs
    induction zs with
    | nil => simp
    | cons z zs ih =>
      intro hz
      have e1 := hz z (by simp)
      have e2 := ih fun x hx => hz x (by simp [hx])
      simp only [List.map_cons, List.flatten_cons, List.length_append, List.length_cons, Nat.succ_mul]
      omega
  have h3 := h2 xs h
  simp only [lB, List.length_append]
  omega
theorem tB_len {r : Int} {t : Typ} (hr : r ≤ 8) (h : goodT r t = true) : (tB t).length ≤ 4 := by
  obtain ⟨a, b, rfl, ha, hb⟩ := goodT_nat hr h
  have h1 := vb_len 1 a (by simp; omega)
  have h2 := vb_len 1 b (by simp; omega)
  simp [tB, typB]
  omega
theorem iB_len (t : Ins) : (iB t).length ≤ 5 := insB_len _ _ _
theorem tys_len {r : Int} {ts : List Typ} (hr : r ≤ 8) (hl : ts.length ≤ 8) (h : ∀ t ∈ ts, goodT r t = true) : (lB tB ts).length ≤ 42 := by
  have := lB_bound tB ts 4 (fun t ht => tB_len hr (h t ht)) (by unfold B64; omega)
  omega
theorem fnB_len {r : Int} {f : Fn} (hr : r ≤ 8) (h : fnOk r f = true) : (fnB f).length ≤ 500 := by
  obtain ⟨a1, a2, a3, a4, a5, a6, a7, a8⟩ := fn_sizes h
  have h1 := tys_len hr (by omega) a5
  have h2 := tB_len hr a6
  have h3 := tys_len hr (by omega) a7
  have h4 := lB_bound iB f.code 5 (fun t _ => iB_len t) (by unfold B64; omega)
  simp only [fnB, List.length_append]
  omega
theorem impB_len {r : Int} {f : Imp} (hr : r ≤ 8) (h : impOk r f = true) : (impB f).length ≤ 50 := by
  obtain ⟨a1, a2, a3⟩ := imp_sizes h
  have h1 := tys_len hr (by omega) a2
  have h2 := tB_len hr a3
  simp only [impB, List.length_append]
  omega

structure Fit (m : Mod) : Prop where
  r8 : (m.recs.length : Int) ≤ 8
  recs : ∀ t ∈ m.recs, recOk m.recs.length t = true
  f1 : 1 ≤ m.funcs.length
  f8 : m.funcs.length ≤ 8
  funcs : ∀ f ∈ m.funcs, fnOk m.recs.length f = true
  i8 : m.imps.length ≤ 8
  imps : ∀ f ∈ m.imps, impOk m.recs.length f = true
  n16 : m.ints.length ≤ 16
  t16 : m.texts.length ≤ 16
  texts : ∀ s ∈ m.texts, s.length ≤ 32
theorem fitB_iff {m : Mod} : fitB m = true ↔ Fit m := by
  simp only [fitB, Bool.and_eq_true, witB_iff, decide_eq_true_eq]
  constructor
  · rintro ⟨⟨⟨⟨⟨h1, h2⟩, h3, h4⟩, h5, h6⟩, h7⟩, h8, h9⟩
    exact ⟨h1.2, h2, by omega, by omega, h4, by omega, h6, h7, by omega, fun s hs => by simpa [shortB] using h9 s hs⟩
  · rintro ⟨h1, h2, h3, h4, h5, h6, h7, h8, h9, h10⟩
    exact ⟨⟨⟨⟨⟨by omega, h2⟩, by omega, h5⟩, by omega, h7⟩, h8⟩, by omega, fun s hs => by simpa [shortB] using h10 s hs⟩

theorem Fit.parts_len {m : Mod} (h : Fit m) : ∀ j, j < (partsB m).length → ((partsB m)[j]?.getD []).length ≤ 5000 := by
  have hB : (64 : Nat) < B64 := by unfold B64; omega
  have hr := h.r8
  have b0 := lB_bound (lB tB) m.recs 42 (fun x hx => by have := rec_sizes (h.recs x hx); exact tys_len h.r8 (by omega) this.2) (by omega)
  have b1 := lB_bound fnB m.funcs 500 (fun x hx => fnB_len h.r8 (h.funcs x hx)) (by have := h.f8; omega)
  have b2 := lB_bound impB m.imps 50 (fun x hx => impB_len h.r8 (h.imps x hx)) (by have := h.i8; omega)
  have b3 := lB_bound numB m.ints 8 (fun x _ => by simp [numB, fb_length]) (by have := h.n16; omega)
  have b4 := lB_bound pt m.texts 42 (fun x hx => by have h1 := h.texts x hx; have h2 := vb_len 9 x.length (by simp; omega); simp [pt]; omega) (by have := h.t16; omega)
  have := h.f8
  have := h.i8
  have := h.n16
  have := h.t16
  intro j hj
  match j, hj with
  | 0, _ => simp [partsB]; omega
  | 1, _ => simp [partsB]; omega
  | 2, _ => simp [partsB]; omega
  | 3, _ => simp [partsB]; omega
  | 4, _ => simp [partsB]; omega
  | j + 5, hj => exact absurd hj (by simp [partsB])
theorem Fit.len {m : Mod} (h : Fit m) : (modB m).length ≤ 30000 := by
  have := joinB_bound (partsB m) 5000 (by unfold B64; omega) (by simp [partsB]; unfold B64; omega) h.parts_len
  simp [partsB] at this
  simp [modB, partsB]
  omega

end Go.Proofs.Ytikhhcmfjncabaa
namespace Go.Proofs.Ytikhhcmfjncabaa
open Go.RowKit

structure Lay (α : Type) where
  k : Nat
  R : (Nat → Prop) → World → List Value → α → Prop
  len : ∀ {S w cs x}, R S w cs x → cs.length = k
  keep : ∀ {S : Nat → Prop} {w w' : World} {cs : List Value} {x : α}, R S w cs x → (∀ b, S b → w'.heap[b]? = w.heap[b]?) → R S w' cs x
  wide : ∀ {S T : Nat → Prop} {w : World} {cs : List Value} {x : α}, R S w cs x → (∀ b, S b → T b) → R T w cs x
  one : ∀ {S w cs x}, R S w cs x → ∀ u ∈ cs, u.oneCell' = true

def Sq {α : Type} (L : Lay α) (S : Nat → Prop) (w : World) (A : Option Addr) (xs : List α) : Prop :=
  0 < xs.length → ∃ a, A = some a ∧ S a.block ∧ ∀ j x, xs[j]? = some x → ∃ cs, (∀ i u, cs[i]? = some u → w.cell? (a.add (j * L.k + i)) = some u) ∧ L.R S w cs x

theorem Sq.nil {α : Type} (L : Lay α) (S : Nat → Prop) (w : World) (A : Option Addr) : Sq L S w A [] := fun h => absurd h (by simp)
theorem Sq.keep {α : Type} {L : Lay α} {S : Nat → Prop} {w w' : World} {A : Option Addr} {xs : List α} (h : Sq L S w A xs) (hk : ∀ b, S b → w'.heap[b]? = w.heap[b]?) : Sq L S w' A xs := fun hn => by
  obtain ⟨a, e, hs, hc⟩ := h hn
  refine ⟨a, e, hs, fun j x hx => ?_⟩
  obtain ⟨cs, h1, h2⟩ := hc j x hx
  exact ⟨cs, fun i u hu => (World.cell?_of_block (hk _ (by rw [addBlock]; exact hs))).trans (h1 i u hu), L.keep h2 hk⟩
theorem Sq.wide {α : Type} {L : Lay α} {S T : Nat → Prop} {w : World} {A : Option Addr} {xs : List α} (h : Sq L S w A xs) (hk : ∀ b, S b → T b) : Sq L T w A xs := fun hn => by
  obtain ⟨a, e, hs, hc⟩ := h hn
  refine ⟨a, e, hk _ hs, fun j x hx => ?_⟩
  obtain ⟨cs, h1, h2⟩ := hc j x hx
  exact ⟨cs, h1, L.wide h2 hk⟩
theorem Sq.below {α : Type} {L : Lay α} {B B' : Nat} {w w' : World} {A : Option Addr} {xs : List α} (h : Sq L (· < B) w A xs) (hb : Below B' w w') (hB : B ≤ B') : Sq L (· < B) w' A xs := h.keep fun b h1 => hb.block b (Nat.lt_of_lt_of_le h1 hB)
theorem Sq.at {α : Type} {L : Lay α} {S : Nat → Prop} {w : World} {A : Option Addr} {xs : List α} (h : Sq L S w A xs) {k : Nat} {x : α} (hk : xs[k]? = some x) :
    ∃ a cs, A = some a ∧ S a.block ∧ (∀ i u, cs[i]? = some u → w.cell? (a.add (k * L.k + i)) = some u) ∧ L.R S w cs x := by
  obtain ⟨a, e, hs, hc⟩ := h (by have := (List.getElem?_eq_some_iff.1 hk).1; omega)
  obtain ⟨cs, h1, h2⟩ := hc k x hk
  exact ⟨a, cs, e, hs, h1, h2⟩

def slL {α : Type} (L : Lay α) : Lay (List α) where
  k := 1
  R S w cs xs := ∃ A c, cs = [.slice A xs.length c] ∧ xs.length ≤ c ∧ c ≤ maxLen ∧ Sq L S w A xs
  len := by rintro S w cs x ⟨A, c, rfl, _⟩; rfl
  keep := by rintro S w w' cs x ⟨A, c, rfl, h1, h2, h3⟩ hk; exact ⟨A, c, rfl, h1, h2, h3.keep hk⟩
  wide := by rintro S T w cs x ⟨A, c, rfl, h1, h2, h3⟩ hk; exact ⟨A, c, rfl, h1, h2, h3.wide hk⟩
  one := by rintro S w cs x ⟨A, c, rfl, _⟩ u hu; simp at hu; subst hu; rfl

def I64 (n : Int) : Prop := -9223372036854775808 ≤ n ∧ n ≤ 9223372036854775807
def typL : Lay Typ where
  k := 2
  R _ _ cs t := cs = [.int .i64 t.1, .int .i64 t.2] ∧ I64 t.1 ∧ I64 t.2
  len := by rintro S w cs x ⟨rfl, _⟩; rfl
  keep := by rintro S w w' cs x h _; exact h
  wide := by rintro S T w cs x h _; exact h
  one := by rintro S w cs x ⟨rfl, _⟩ u hu; simp at hu; rcases hu with rfl | rfl <;> rfl
def insL : Lay Ins where
  k := 3
  R _ _ cs t := cs = [.int .i64 t.1, .int .i64 t.2.1, .int .i64 t.2.2] ∧ I64 t.1 ∧ I64 t.2.1 ∧ I64 t.2.2
  len := by rintro S w cs x ⟨rfl, _⟩; rfl
  keep := by rintro S w w' cs x h _; exact h
  wide := by rintro S T w cs x h _; exact h
  one := by rintro S w cs x ⟨rfl, _⟩ u hu; simp at hu; rcases hu with rfl | rfl | rfl <;> rfl
def numL : Lay Nat where
  k := 1
  R _ _ cs n := cs = [.int .u64 (n : Int)] ∧ n < B64
  len := by rintro S w cs x ⟨rfl, _⟩; rfl
  keep := by rintro S w w' cs x h _; exact h
  wide := by rintro S T w cs x h _; exact h
  one := by rintro S w cs x ⟨rfl, _⟩ u hu; simp at hu; subst hu; rfl
def strB (s : ByteArray) : List Nat := s.data.toList.map UInt8.toNat
def strL : Lay (List Nat) where
  k := 1
  R _ _ cs xs := ∃ s, cs = [.string s] ∧ xs = strB s
  len := by rintro S w cs x ⟨s, rfl, _⟩; rfl
  keep := by rintro S w w' cs x h _; exact h
  wide := by rintro S T w cs x h _; exact h
  one := by rintro S w cs x ⟨s, rfl, _⟩ u hu; simp at hu; subst hu; rfl
abbrev tysL : Lay (List Typ) := slL typL
abbrev codL : Lay (List Ins) := slL insL
def fnL : Lay Fn where
  k := 5
  R S w cs f := ∃ v0 v1 v2, cs = [v0, .int .i64 f.ret.1, .int .i64 f.ret.2, v1, v2] ∧ I64 f.ret.1 ∧ I64 f.ret.2 ∧ tysL.R S w [v0] f.args ∧ tysL.R S w [v1] f.locs ∧ codL.R S w [v2] f.code
  len := by rintro S w cs x ⟨v0, v1, v2, rfl, _⟩; rfl
  keep := by rintro S w w' cs x ⟨v0, v1, v2, rfl, h1, h2, h3, h4, h5⟩ hk; exact ⟨v0, v1, v2, rfl, h1, h2, tysL.keep h3 hk, tysL.keep h4 hk, codL.keep h5 hk⟩
  wide := by rintro S T w cs x ⟨v0, v1, v2, rfl, h1, h2, h3, h4, h5⟩ hk; exact ⟨v0, v1, v2, rfl, h1, h2, tysL.wide h3 hk, tysL.wide h4 hk, codL.wide h5 hk⟩
  one := by
    rintro S w cs x ⟨v0, v1, v2, rfl, h1, h2, h3, h4, h5⟩ u hu
    simp at hu
    rcases hu with rfl | rfl | rfl | rfl | rfl
    · exact tysL.one h3 _ (by simp)
    · rfl
    · rfl
    · exact tysL.one h4 _ (by simp)
    · exact codL.one h5 _ (by simp)
def impL : Lay Imp where
  k := 3
  R S w cs f := ∃ v0, cs = [v0, .int .i64 f.ret.1, .int .i64 f.ret.2] ∧ I64 f.ret.1 ∧ I64 f.ret.2 ∧ tysL.R S w [v0] f.args
  len := by rintro S w cs x ⟨v0, rfl, _⟩; rfl
  keep := by rintro S w w' cs x ⟨v0, rfl, h1, h2, h3⟩ hk; exact ⟨v0, rfl, h1, h2, tysL.keep h3 hk⟩
  wide := by rintro S T w cs x ⟨v0, rfl, h1, h2, h3⟩ hk; exact ⟨v0, rfl, h1, h2, tysL.wide h3 hk⟩
  one := by
    rintro S w cs x ⟨v0, rfl, h1, h2, h3⟩ u hu
    simp at hu
    rcases hu with rfl | rfl | rfl
    · exact tysL.one h3 _ (by simp)
    · rfl
    · rfl
def modL : Lay Mod where
  k := 5
  R S w cs m := ∃ v0 v1 v2 v3 v4, cs = [v0, v1, v2, v3, v4] ∧ (slL tysL).R S w [v0] m.recs ∧ (slL fnL).R S w [v1] m.funcs ∧ (slL impL).R S w [v2] m.imps ∧ (slL numL).R S w [v3] m.ints ∧ (slL strL).R S w [v4] m.texts
  len := by rintro S w cs x ⟨v0, v1, v2, v3, v4, rfl, _⟩; rfl
  keep := by rintro S w w' cs x ⟨v0, v1, v2, v3, v4, rfl, h0, h1, h2, h3, h4⟩ hk; exact ⟨v0, v1, v2, v3, v4, rfl, (slL tysL).keep h0 hk, (slL fnL).keep h1 hk, (slL impL).keep h2 hk, (slL numL).keep h3 hk, (slL strL).keep h4 hk⟩
  wide := by rintro S T w cs x ⟨v0, v1, v2, v3, v4, rfl, h0, h1, h2, h3, h4⟩ hk; exact ⟨v0, v1, v2, v3, v4, rfl, (slL tysL).wide h0 hk, (slL fnL).wide h1 hk, (slL impL).wide h2 hk, (slL numL).wide h3 hk, (slL strL).wide h4 hk⟩
  one := by
    rintro S w cs x ⟨v0, v1, v2, v3, v4, rfl, h0, h1, h2, h3, h4⟩ u hu
    simp at hu
    rcases hu with rfl | rfl | rfl | rfl | rfl
    · exact (slL tysL).one h0 _ (by simp)
    · exact (slL fnL).one h1 _ (by simp)
    · exact (slL impL).one h2 _ (by simp)
    · exact (slL numL).one h3 _ (by simp)
    · exact (slL strL).one h4 _ (by simp)

theorem strB_len (s : ByteArray) : (strB s).length = s.size := by simp [strB]
theorem strB_cells (s : ByteArray) : Lib.strCells s = Bs (strB s) := by simp [Lib.strCells, Bs, strB]
def Owns {α : Type} (L : Lay α) (ty base : Nat) (w : World) (v : Value) (xs : List α) : Prop :=
  ∃ css : List (List Value), css.length = xs.length ∧ w.ownsRow base ty L.k v xs.length css.flatten ∧
    ∀ (j : Nat) (x : α) (cs : List Value), xs[j]? = some x → css[j]? = some cs → L.R (fun b => base ≤ b ∧ b < w.heap.size ∧ v.ownBlock ≠ some b) w cs x

theorem Owns.nil {α : Type} (L : Lay α) (ty base : Nat) (w : World) : Owns L ty base w (.slice none 0 0) ([] : List α) :=
  ⟨[], rfl, World.ownsRow_nil _ _ _ _, fun j x cs h => by simp at h⟩

theorem flat_get {css : List (List Value)} {k : Nat} (hk : ∀ cs ∈ css, cs.length = k) {j : Nat} {cs : List Value} (hj : css[j]? = some cs) (i : Nat) (hi : i < k) : css.flatten[j * k + i]? = cs[i]? := by
  induction css generalizing j with
  | nil => simp at hj
  | cons c css ih =>
    have hc := hk c (by simp)
    cases j with
    | zero =>
      simp at hj
      subst hj
      rw [List.flatten_cons, List.getElem?_append_left (by omega)]
      simp
    | succ j =>
      rw [List.flatten_cons, List.getElem?_append_right (by rw [hc, Nat.succ_mul]; omega), hc, show (j + 1) * k + i - k = j * k + i by rw [Nat.succ_mul]; omega]
      exact ih (fun x hx => hk x (by simp [hx])) (by simpa using hj)

theorem Owns.slice {α : Type} {L : Lay α} {ty base : Nat} {w : World} {v : Value} {xs : List α} (h : Owns L ty base w v xs) :
    (slL L).R (fun b => base ≤ b ∧ b < w.heap.size) w [v] xs := by
  obtain ⟨css, hl, hown, hR⟩ := h
  have hk : ∀ cs ∈ css, cs.length = L.k := fun cs hcs => by
    obtain ⟨j, hj⟩ := List.mem_iff_getElem?.1 hcs
    have hjl : j < xs.length := by rw [← hl]; exact (List.getElem?_eq_some_iff.1 hj).1
    exact L.len (hR j _ cs (List.getElem?_eq_getElem hjl) hj)
  rcases hown.2 with ⟨rfl, h0⟩ | ⟨g, cap, cur, rfl, hb, hg, hnc, hcm, _, _⟩
  · exact ⟨none, 0, by rw [h0], by omega, by simp [maxLen], fun hpos => absurd hpos (by omega)⟩
  · refine ⟨some ⟨g, 0, none⟩, cap, rfl, hnc, hcm, fun _ => ⟨⟨g, 0, none⟩, rfl, ⟨hb, (Array.getElem?_eq_some_iff.1 hg).1⟩, fun j x hx => ?_⟩⟩
    have hjl : j < css.length := by rw [hl]; exact (List.getElem?_eq_some_iff.1 hx).1
    have hcs := List.getElem?_eq_getElem hjl
    have hr := hR j x _ hx hcs
    refine ⟨_, fun i u hu => ?_, L.wide hr fun b hb => ⟨hb.1, hb.2.1⟩⟩
    have hi : i < L.k := by rw [← L.len hr]; exact (List.getElem?_eq_some_iff.1 hu).1
    exact hown.cells rfl (j * L.k + i) u (by rw [flat_get hk hcs i hi]; exact hu)

theorem Owns.lt {α : Type} {L : Lay α} {ty base : Nat} {w : World} {v : Value} {xs : List α} (h : Owns L ty base w v xs) : ∀ i, v.ownBlock = some i → base ≤ i ∧ i < w.heap.size := by
  obtain ⟨css, hl, hown, hR⟩ := h
  exact fun i hi => ⟨(hown.lt i hi).1, (hown.lt i hi).2⟩

theorem Owns.kept {α : Type} {L : Lay α} {ty base : Nat} {w w' : World} {v : Value} {xs : List α} (h : Owns L ty base w v xs) {g : Nat} (hg : g < base) (ho : Only g w w') : Owns L ty base w' v xs := by
  have hlt := h.lt
  obtain ⟨css, hl, hown, hR⟩ := h
  refine ⟨css, hl, hown.kept (row := some g) ho (.inr fun e => by have := hlt g e; omega), fun j x cs h1 h2 => ?_⟩
  refine L.wide (L.keep (hR j x cs h1 h2) fun b hb => ho.block b hb.2.1 (fun e => by injection e; omega)) fun b hb => ⟨hb.1, Nat.lt_of_lt_of_le hb.2.1 ho.size, hb.2.2⟩

def vOne : List Value → Value
  | [v] => v
  | _ => .nilFunc
def vAgg (cs : List Value) : Value := .agg cs.toArray
def Puts (ys : List Nat) (w : World) (e : Ending) (w' : World) : Prop := ∃ u, e = .returned u ∧ w'.ownsRow w.heap.size 5 1 u ys.length (Bs ys) ∧ Below w.heap.size w w'
def Tells (b : Bool) (w : World) (e : Ending) (w' : World) : Prop := e = .returned (.bool b) ∧ Below w.heap.size w w'
theorem all_take {α : Type} {g : α → Bool} {xs : List α} {k : Nat} {x : α} (h : (xs.take k).all g = true) (hx : xs[k]? = some x) (hg : g x = true) : (xs.take (k + 1)).all g = true := by
  obtain ⟨hk, rfl⟩ := List.getElem?_eq_some_iff.1 hx
  rw [List.take_succ_eq_append_getElem hk, List.all_append, h]
  simp [hg]
theorem one_cell {w : World} {a : Addr} {k K : Nat} {o : Option Value} (hK : K = 1) (h : w.cell? (a.add (k * K + 0)) = o) : w.cell? (a.add k) = o := by
  subst hK
  simpa using h
set_option maxRecDepth 100000 in
theorem walk_append_str (w : World) {ops : Array Oper} {rest : List Oper} {o : Oper} {a : Act} {Q : Exit → Act → World → Prop} (hgd : o.guard = none) (sl x : Operand)
    (ho : o.op = .call { callee := .builtin .append, args := #[sl, x], argTypes := #[62, 9] })
    (base : Nat) (v : Value) (n : Nat) (xs : List Nat) (hs : a.eval sl = v) (hown : w.ownsRow base 5 1 v n (Bs xs)) (s : ByteArray) (hx : a.eval x = .string s)
    (hbig : n + (strB s).length ≤ 140737488355328) (hbase : base ≤ w.heap.size)
    (h : ∀ v' w', w'.ownsRow base 5 1 v' (n + (strB s).length) (Bs (xs ++ strB s)) → w.grownBy w' v.ownBlock → wpList Try.prog ops Q rest (a.put o.dst v') w') : wpList Try.prog ops Q (o :: rest) a w := by
  obtain ⟨i0, hi0, hz0, hz1, hz2⟩ := info_parts u8_info
  rw [strB_len] at hbig h
  refine Lib.wpList_append_own_string _ hgd sl x 62 9 ho base 5 i0 Try.underlying62 Try.underlying9 hi0 hz0 hz1 hz2 v n (Bs xs) hs hown s hx (by simp only [maxLen]; omega) hbig hbase ?_
  intro v' w' h1 h2 _
  rw [strB_cells, ← Bs_app] at h1
  exact h v' w' h1 h2
def C5 (b : Nat) (v0 v1 v2 v3 v4 : Value) (w : World) : Prop := w.cell? ⟨b, 0, none⟩ = some v0 ∧ w.cell? ⟨b, 1, none⟩ = some v1 ∧ w.cell? ⟨b, 2, none⟩ = some v2 ∧ w.cell? ⟨b, 3, none⟩ = some v3 ∧ w.cell? ⟨b, 4, none⟩ = some v4
theorem C5.below {b B : Nat} {v0 v1 v2 v3 v4 : Value} {w w' : World} (h : C5 b v0 v1 v2 v3 v4 w) (hb : Below B w w') (hB : b < B) : C5 b v0 v1 v2 v3 v4 w' :=
  ⟨(hb.cell (p := ⟨b, 0, none⟩) hB).trans h.1, (hb.cell (p := ⟨b, 1, none⟩) hB).trans h.2.1, (hb.cell (p := ⟨b, 2, none⟩) hB).trans h.2.2.1, (hb.cell (p := ⟨b, 3, none⟩) hB).trans h.2.2.2.1, (hb.cell (p := ⟨b, 4, none⟩) hB).trans h.2.2.2.2⟩
theorem next_cell (a : Addr) (m i : Nat) (hi : 0 < i) : a.add (m + i) = ⟨(a.add m).block, (a.add m).off + i, none⟩ := by
  rw [← addAdd]
  generalize a.add m = x
  have : i ≠ 0 := by omega
  simp [Addr.add, this]
theorem cut_flat {α : Type} (f : α → List Nat) (xs : List α) (k : Nat) (x : α) (h : xs[k]? = some x) : ((xs.take (k + 1)).map f).flatten = ((xs.take k).map f).flatten ++ f x := by
  obtain ⟨hk, rfl⟩ := List.getElem?_eq_some_iff.1 h
  rw [List.take_succ_eq_append_getElem hk, List.map_append, List.flatten_append]
  simp
theorem flat_short {α : Type} (f : α → List Nat) (xs : List α) (k : Nat) : ((xs.take k).map f).flatten.length ≤ (xs.map f).flatten.length := by
  conv => rhs; rw [← List.take_append_drop k xs, List.map_append, List.flatten_append]
  rw [List.length_append]
  omega
theorem cell_new (w : World) (t : TypeId) (cs : List Value) : ∀ j u, cs[j]? = some u → (w.alloc (.cells cs.toArray t)).cell? ((⟨w.heap.size, 0, none⟩ : Addr).add j) = some u := fun j u hu => by
  have e : (⟨w.heap.size, 0, none⟩ : Addr).add j = ⟨w.heap.size, j, none⟩ := by unfold Addr.add; split <;> simp_all
  rw [e, World.cell?_alloc_mark]
  simpa using hu
theorem below_grown {B : Nat} {w w' : World} {row : Option Nat} (hg : w.grownBy w' row) (hB : B ≤ w.heap.size) (hr : ∀ i, row = some i → B ≤ i) : Below B w w' := (Below.refl B w).grown hg hB hr
def fn0 : Fn := ⟨[], (1, 0), [], [(26, 0, 0)]⟩
theorem mod_at {w w1 : World} {cs : List Value} {m : Mod} (h : modL.R (· < w.heap.size) w cs m) (hb : Below w.heap.size w w1) : modL.R (· < w1.heap.size) w1 cs m :=
  modL.wide (modL.keep h fun b hb1 => hb.block b hb1) fun _ hb1 => Nat.lt_of_lt_of_le hb1 hb.size
def mE : Mod := ⟨[], [], [], [], []⟩
theorem below_drewN (w : World) (q : Nat) : Below w.heap.size w (w.drewN q) := ⟨rfl, rfl, rfl, Nat.le_refl _, fun _ _ => rfl⟩
theorem below_drews' {B : Nat} {w w1 : World} (h : Below B w w1) (q : Nat) (hB : B ≤ w1.heap.size) : Below B w (w1.drewN q) := h.trans ((below_drewN w1 q).mono hB)
end Go.Proofs.Ytikhhcmfjncabaa
namespace Go.Proofs.Ytikhhcmfjncabaa

def namedB (m : Mod) (f : Fn) (i : Ins) : Bool :=
  if i.1 = 0 then decide (i.2.1 < (m.ints.length : Int))
  else if i.1 = 1 then decide (i.2.1 < (m.texts.length : Int))
  else if i.1 = 3 ∨ i.1 = 4 then decide (i.2.1 < (f.args.length : Int) + (f.locs.length : Int))
  else if i.1 = 23 ∨ i.1 = 24 then decide (i.2.1 < (f.code.length : Int))
  else if i.1 = 25 then decide (i.2.1 < (m.funcs.length : Int))
  else if i.1 = 27 then decide (i.2.1 < (m.imps.length : Int))
  else if i.1 = 28 then decide (i.2.1 < (m.recs.length : Int))
  else if i.1 = 29 ∨ i.1 = 30 then (match m.recs[i.2.1.toNat]? with | some r => decide (i.2.2 < (r.length : Int)) | none => false)
  else true
def hanB (t : Typ) : Bool := decide (t.1 = 5)
def hostB (t : Typ) : Bool := decide (t.1 = 1 ∨ t.1 = 5)
def badFn (m : Mod) (f : Fn) : Bool := f.locs.any hanB || f.code.any fun i => !namedB m f i
def badImp (i : Imp) : Bool := i.args.any (fun t => !hostB t) || !hostB i.ret
def badM (m : Mod) : Bool := m.funcs.any (badFn m) || m.imps.any badImp
def checkN (m : Mod) : Int := if fitB m = false then 2 else if badM m = true then 1 else 0
def mainB (m : Mod) : Bool := decide (checkN m = 0) && (match m.funcs with | f :: _ => decide (f.args.length = 0) && decide (f.ret.1 = 1) | [] => false)

theorem checkN_unfit {m : Mod} (h : fitB m = false) : checkN m = 2 := by simp [checkN, h]
theorem checkN_bad {m : Mod} (h : fitB m = true) (hb : badM m = true) : checkN m = 1 := by simp [checkN, h, hb]
theorem mainB_not {m : Mod} (h : checkN m ≠ 0) : mainB m = false := by simp [mainB, h]
theorem mainB_yes {m : Mod} {f : Fn} {fs : List Fn} (h : checkN m = 0) (hf : m.funcs = f :: fs) : mainB m = (decide (f.args.length = 0) && decide (f.ret.1 = 1)) := by simp [mainB, h, hf]
theorem checkN_fit {m : Mod} (h : checkN m = 0) : fitB m = true := by
  cases hf : fitB m
  · rw [checkN_unfit hf] at h; cases h
  · rfl
theorem badFn_any {m : Mod} {f : Fn} (hf : f ∈ m.funcs) (h : badFn m f = true) : badM m = true := by
  rw [badM, Bool.or_eq_true]
  exact .inl (List.any_eq_true.2 ⟨f, hf, h⟩)
theorem bad_code {m : Mod} {f : Fn} {t : Ins} (ht : t ∈ f.code) (h : namedB m f t = false) : badFn m f = true := by
  rw [badFn, Bool.or_eq_true]
  exact .inr (List.any_eq_true.2 ⟨t, ht, by rw [h]; rfl⟩)
theorem any_take {α : Type} {g : α → Bool} {xs : List α} {k : Nat} {x : α} (h : (xs.take k).any g = false) (hx : xs[k]? = some x) (hg : g x = false) : (xs.take (k + 1)).any g = false := by
  obtain ⟨hk, rfl⟩ := List.getElem?_eq_some_iff.1 hx
  rw [List.take_succ_eq_append_getElem hk, List.any_append, h]
  simp [hg]
theorem any_here {α : Type} {g : α → Bool} {xs : List α} {x : α} (hx : x ∈ xs) (hg : g x = true) : xs.any g = true := List.any_eq_true.2 ⟨x, hx, hg⟩
theorem any_full {α : Type} {g : α → Bool} {xs : List α} {n : Nat} (h : (xs.take n).any g = false) (hl : xs.length = n) : xs.any g = false := by
  rwa [List.take_of_length_le (by omega)] at h
theorem dge (a b : Int) : decide (b ≤ a) = !decide (a < b) := by rw [Bool.eq_iff_iff]; simp
end Go.Proofs.Ytikhhcmfjncabaa
namespace Go.Proofs.Ytikhhcmfjncabaa

def subT (a b : Typ) : Bool := subB a.1 a.2 b.1 b.2
def belowT : List Typ → List Typ → Bool
  | [], [] => true
  | a :: xs, b :: ys => subT a b && belowT xs ys
  | _, _ => false
def locB (f : Fn) (n : Int) : Typ := if n < 0 then (8, 0) else ((f.args ++ f.locs)[n.toNat]?).getD (8, 0)
def fldB (m : Mod) (a b : Int) : Typ := (((m.recs[a.toNat]?).getD [])[b.toNat]?).getD (0, 0)
def ruleB (m : Mod) (f : Fn) (i : Ins) (s : List Typ) : Option (List Typ × List Typ) :=
  if i.1 = 0 then some ([], [(1, 0)])
  else if i.1 = 1 then some ([], [(2, 0)])
  else if i.1 = 2 then some ([], [(6, 0)])
  else if i.1 = 3 then some ([], [locB f i.2.1])
  else if i.1 = 4 then some ([locB f i.2.1], [])
  else if i.1 = 5 then some ([(8, 0)], [])
  else if i.1 = 6 then (match s.reverse with | x :: _ => some ([x], [x, x]) | _ => none)
  else if i.1 = 7 then (match s.reverse with | x :: y :: _ => some ([y, x], [x, y]) | _ => none)
  else if i.1 = 22 then some ([(1, 0), (1, 0)], [(1, 0), (1, 0)])
  else if i.1 = 23 then some ([], [])
  else if i.1 = 24 then some ([(1, 0)], [])
  else if i.1 = 25 then (match m.funcs[i.2.1.toNat]? with | some g => some (g.args, [g.ret]) | none => none)
  else if i.1 = 26 then some ([f.ret], [])
  else if i.1 = 27 then (match m.imps[i.2.1.toNat]? with | some g => some (g.args, [g.ret]) | none => none)
  else if i.1 = 28 then (match m.recs[i.2.1.toNat]? with | some r => some (r, [(4, i.2.1)]) | none => none)
  else if i.1 = 29 then some ([(4, i.2.1)], [fldB m i.2.1 i.2.2])
  else if i.1 = 30 then some ([(4, i.2.1), fldB m i.2.1 i.2.2], [])
  else if i.1 = 31 then some ([(1, 0)], [(3, 0)])
  else if i.1 = 32 then some ([(3, 0), (1, 0)], [(1, 0)])
  else if i.1 = 33 then some ([(3, 0), (1, 0), (1, 0)], [])
  else if i.1 = 34 then some ([(3, 0)], [(1, 0)])
  else if i.1 = 35 then some ([(1, 0)], [(2, 0)])
  else if i.1 = 36 then some ([(2, 0), (1, 0)], [(1, 0)])
  else if i.1 = 37 then some ([(2, 0), (1, 0), (1, 0)], [])
  else if i.1 = 38 then some ([(2, 0)], [(1, 0)])
  else if i.1 = 39 then some ([(7, 0)], [(1, 0)])
  else if i.1 = 40 then some ([(7, 0), (7, 0)], [(1, 0)])
  else if i.1 = 41 then (match s.reverse with | x :: _ => if x.1 = 5 then some ([x], []) else none | _ => none)
  else some ([(1, 0), (1, 0)], [(1, 0)])
def movB (s ins outs : List Typ) : Option (List Typ) :=
  if ins.length ≤ s.length ∧ s.length - ins.length + outs.length ≤ 8 ∧ belowT (s.drop (s.length - ins.length)) ins = true then some (s.take (s.length - ins.length) ++ outs) else none
def nextB (f : Fn) (i : Ins) (pc : Nat) : Option (List Int) :=
  if i.1 = 26 then some [] else if i.1 = 23 then some [i.2.1] else if f.code.length ≤ pc + 1 then none else if i.1 = 24 then some [(pc : Int) + 1, i.2.1] else some [(pc : Int) + 1]
def insB8 (m : Mod) (f : Fn) (i : Ins) (pc : Nat) (s : List Typ) : Int × List Typ × List Int :=
  match ruleB m f i s with
  | none => (4, [], [])
  | some (ins, outs) => match movB s ins outs with
    | none => (4, [], [])
    | some t => match nextB f i pc with
      | none => (1, [], [])
      | some l => (0, t, l)
def flowB (m : Mod) (f pc : Int) (s : List Typ) : Int × List Typ × List Int :=
  if checkN m ≠ 0 ∨ f < 0 ∨ pc < 0 then (1, [], [])
  else match m.funcs[f.toNat]? with
    | none => (1, [], [])
    | some fn => match fn.code[pc.toNat]? with
      | none => (1, [], [])
      | some i => insB8 m fn i pc.toNat s

theorem subT_refl (a : Typ) : subT a a = true := by simp [subT, subB]
theorem subT_trans {a b c : Typ} (h1 : subT a b = true) (h2 : subT b c = true) : subT a c = true := by
  obtain ⟨a, a'⟩ := a
  obtain ⟨b, b'⟩ := b
  obtain ⟨c, c'⟩ := c
  simp only [subT, subB, refB, Bool.or_eq_true, Bool.and_eq_true, beq_iff_eq] at h1 h2 ⊢
  omega
theorem belowT_len {a b : List Typ} (h : belowT a b = true) : a.length = b.length := by
  induction a generalizing b with
  | nil => cases b <;> simp [belowT] at h ⊢
  | cons x a ih =>
    cases b with
    | nil => simp [belowT] at h
    | cons y b => simp only [belowT, Bool.and_eq_true] at h; simp [ih h.2]
theorem belowT_refl (a : List Typ) : belowT a a = true := by
  induction a with
  | nil => rfl
  | cons x a ih => simp [belowT, subT_refl, ih]
theorem belowT_trans {a b c : List Typ} (h1 : belowT a b = true) (h2 : belowT b c = true) : belowT a c = true := by
  induction a generalizing b c with
  | nil => cases b <;> cases c <;> simp [belowT] at h1 h2 ⊢
  | cons x a ih =>
    cases b with
    | nil => simp [belowT] at h1
    | cons y b =>
      cases c with
      | nil => simp [belowT] at h2
      | cons z c =>
        simp only [belowT, Bool.and_eq_true] at h1 h2 ⊢
        exact ⟨subT_trans h1.1 h2.1, ih h1.2 h2.2⟩
theorem belowT_app {a b c d : List Typ} (h1 : belowT a b = true) (h2 : belowT c d = true) : belowT (a ++ c) (b ++ d) = true := by
  induction a generalizing b with
  | nil => cases b <;> simp [belowT] at h1 ⊢; exact h2
  | cons x a ih =>
    cases b with
    | nil => simp [belowT] at h1
    | cons y b =>
      simp only [belowT, Bool.and_eq_true, List.cons_append] at h1 ⊢
      exact ⟨h1.1, ih h1.2⟩
theorem below_step {xs ys : List Typ} {k : Nat} {x y : Typ} (h : belowT (xs.take k) (ys.take k) = true) (hx : xs[k]? = some x) (hy : ys[k]? = some y) (hs : subT x y = true) : belowT (xs.take (k + 1)) (ys.take (k + 1)) = true := by
  obtain ⟨hk, rfl⟩ := List.getElem?_eq_some_iff.1 hx
  obtain ⟨hk2, rfl⟩ := List.getElem?_eq_some_iff.1 hy
  rw [List.take_succ_eq_append_getElem hk, List.take_succ_eq_append_getElem hk2]
  exact belowT_app h (by simp [belowT, hs])
theorem below_not {xs ys : List Typ} {k : Nat} {x y : Typ} (hx : xs[k]? = some x) (hy : ys[k]? = some y) (hs : subT x y = false) : belowT xs ys = false := by
  induction xs generalizing ys k with
  | nil => simp at hx
  | cons a xs ih =>
    cases ys with
    | nil => rfl
    | cons b ys =>
      cases k with
      | zero => simp at hx hy; subst hx hy; simp [belowT, hs]
      | succ k => simp only [belowT, ih (k := k) (by simpa using hx) (by simpa using hy), Bool.and_false]
theorem below_len_not {xs ys : List Typ} (h : xs.length ≠ ys.length) : belowT xs ys = false := by
  cases hb : belowT xs ys
  · rfl
  · exact absurd (belowT_len hb) h
end Go.Proofs.Ytikhhcmfjncabaa
namespace Go.Proofs.Ytikhhcmfjncabaa
open Go.RowKit

theorem kgood (k n r : Int) (w : World) : Calls Try.prog 68 #[.agg #[.int .i64 k, .int .i64 n], .int .i64 r] w fun e w' => e = .returned (.bool (goodB k n r)) ∧ Below w.heap.size w w' := by
  by_cases h1 : k = 1
  · subst h1
    go_enter Try.func68, Try.ntmps68
    go_wp2_with fail
    go_ret
    exact ⟨rfl, (Below.refl _ _).alloc (Nat.le_refl _) _⟩
  by_cases h2 : k = 2
  · subst h2
    go_enter Try.func68, Try.ntmps68
    go_wp2_with fail
    go_ret
    exact ⟨rfl, (Below.refl _ _).alloc (Nat.le_refl _) _⟩
  by_cases h3 : k = 3
  · subst h3
    go_enter Try.func68, Try.ntmps68
    go_wp2_with fail
    go_ret
    exact ⟨rfl, (Below.refl _ _).alloc (Nat.le_refl _) _⟩
  by_cases h7 : k = 7
  · subst h7
    go_enter Try.func68, Try.ntmps68
    go_wp2_with fail
    go_ret
    exact ⟨rfl, (Below.refl _ _).alloc (Nat.le_refl _) _⟩
  by_cases h4 : k = 4
  · subst h4
    by_cases hn : 0 ≤ n
    · have e : goodB 4 n r = decide (n < r) := by simp [goodB, hn]
      rw [e]
      clear e
      go_enter Try.func68, Try.ntmps68
      go_wp2_with fail
      go_ret
      exact ⟨rfl, (Below.refl _ _).alloc (Nat.le_refl _) _⟩
    · have e : goodB 4 n r = false := by simp [goodB, hn]
      rw [e]
      clear e
      go_enter Try.func68, Try.ntmps68
      go_wp2_with fail
      go_ret
      exact ⟨rfl, (Below.refl _ _).alloc (Nat.le_refl _) _⟩
  by_cases h5 : k = 5
  · subst h5
    by_cases hn : 0 ≤ n
    · have e : goodB 5 n r = decide (n < 4) := by simp [goodB, hn]
      rw [e]
      clear e
      go_enter Try.func68, Try.ntmps68
      go_wp2_with fail
      go_ret
      exact ⟨rfl, (Below.refl _ _).alloc (Nat.le_refl _) _⟩
    · have e : goodB 5 n r = false := by simp [goodB, hn]
      rw [e]
      clear e
      go_enter Try.func68, Try.ntmps68
      go_wp2_with fail
      go_ret
      exact ⟨rfl, (Below.refl _ _).alloc (Nat.le_refl _) _⟩
  have e : goodB k n r = false := by simp [goodB, h1, h2, h3, h7, h4, h5]
  rw [e]
  clear e
  go_enter Try.func68, Try.ntmps68
  go_wp2_with fail
  go_ret
  exact ⟨rfl, (Below.refl _ _).alloc (Nat.le_refl _) _⟩
end Go.Proofs.Ytikhhcmfjncabaa
