/-
  Modules as plain data: their bytes, which of them fit, and that no bytes are those of two. Conditions: none; nothing here speaks of a program.
  Words on memory that holds a module's lists: how an element lies in its cells, slices of elements, and slices of elements that the call owns. Conditions: as each theorem says.
-/
import Derived.Test.YtlfcglolehmmiaaQ01
import Derived.Test.YtlfcglolehmmiaaQ02
import Derived.Lib.AppendStr
namespace Go.Proofs.Ytlfcglolehmmiaa

abbrev Typ := Int × Int
structure Fn where
  args : List Typ
  ret : Typ
  locs : List Typ
  code : List Ins
structure Imp where
  args : List Typ
  ret : Typ
structure Mod where
  recs : List (List Typ)
  funcs : List Fn
  imps : List Imp
  ints : List Nat
  texts : List (List Nat)

/-- Whether two things are the same. -/
noncomputable def eqB {α : Type} (a b : α) : Bool := @decide (a = b) (Classical.propDecidable _)
theorem eqB_iff {α : Type} {a b : α} : eqB a b = true ↔ a = b := by
  unfold eqB
  exact @decide_eq_true_iff _ (Classical.propDecidable _)
theorem eqB_self {α : Type} (a : α) : eqB a a = true := eqB_iff.2 rfl
theorem eqB_ne {α : Type} {a b : α} (h : a ≠ b) : eqB a b = false := by
  cases e : eqB a b
  · rfl
  · exact absurd (eqB_iff.1 e) h
theorem eqB_false {α : Type} {a b : α} (h : eqB a b = false) : a ≠ b := fun e => by rw [e, eqB_self] at h; cases h

def tB (t : Typ) : List Nat := typB t.1 t.2
def iB (t : Ins) : List Nat := insB t.1 t.2.1 t.2.2
/-- How many, and each. -/
def lB {α : Type} (f : α → List Nat) (xs : List α) : List Nat := vb xs.length ++ (xs.map f).flatten
def fnB (f : Fn) : List Nat := lB tB f.args ++ (tB f.ret ++ (lB tB f.locs ++ lB iB f.code))
def impB (i : Imp) : List Nat := lB tB i.args ++ tB i.ret
def numB (n : Nat) : List Nat := fb n 8
def partsB (m : Mod) : List (List Nat) := [lB (lB tB) m.recs, lB fnB m.funcs, lB impB m.imps, lB numB m.ints, lB pt m.texts]
def modB (m : Mod) : List Nat := joinB (partsB m)

def goodT (r : Int) (t : Typ) : Bool := goodB t.1 t.2 r
def goodIn (t : Ins) : Bool := goodI t.1 t.2.1 t.2.2
def witB {α : Type} (lo hi : Int) (g : α → Bool) (xs : List α) : Bool := decide (lo ≤ (xs.length : Int) ∧ (xs.length : Int) ≤ hi) && xs.all g
def recOk (r : Int) (ts : List Typ) : Bool := witB 0 6 (goodT r) ts
def fnOk (r : Int) (f : Fn) : Bool := witB 0 4 (goodT r) f.args && goodT r f.ret && witB 0 (8 - (f.args.length : Int)) (goodT r) f.locs && witB 1 64 goodIn f.code
def impOk (r : Int) (i : Imp) : Bool := witB 0 4 (goodT r) i.args && goodT r i.ret
def shortB (s : List Nat) : Bool := decide (s.length ≤ 32)
def fitB (m : Mod) : Bool := witB 0 8 (recOk m.recs.length) m.recs && witB 1 8 (fnOk m.recs.length) m.funcs && witB 0 8 (impOk m.recs.length) m.imps && decide (m.ints.length ≤ 16) && witB 0 16 shortB m.texts

theorem witB_iff {α : Type} {lo hi : Int} {g : α → Bool} {xs : List α} : witB lo hi g xs = true ↔ (lo ≤ (xs.length : Int) ∧ (xs.length : Int) ≤ hi) ∧ ∀ x ∈ xs, g x = true := by simp [witB]

/-- No bytes begin with those of two. -/
def PF {α : Type} (f : α → List Nat) (g : α → Prop) : Prop := ∀ x y r s, g x → g y → f x ++ r = f y ++ s → x = y ∧ r = s

theorem PF.row {α : Type} {f : α → List Nat} {g : α → Prop} (h : PF f g) : ∀ (xs ys : List α) (r s : List Nat), xs.length = ys.length → (∀ x ∈ xs, g x) → (∀ y ∈ ys, g y) → (xs.map f).flatten ++ r = (ys.map f).flatten ++ s → xs = ys ∧ r = s := by
  intro xs
  induction xs with
  | nil =>
    intro ys r s hl _ _ e
    cases ys with
    | nil => exact ⟨rfl, by simpa using e⟩
    | cons y ys => simp at hl
  | cons x xs ih =>
    intro ys r s hl hx hy e
    cases ys with
    | nil => simp at hl
    | cons y ys =>
      simp only [List.map_cons, List.flatten_cons, List.append_assoc] at e
      obtain ⟨rfl, e2⟩ := h x y _ _ (hx x (by simp)) (hy y (by simp)) e
      obtain ⟨rfl, rfl⟩ := ih ys r s (by simpa using hl) (fun z hz => hx z (by simp [hz])) (fun z hz => hy z (by simp [hz])) e2
      exact ⟨rfl, rfl⟩

theorem PF.list {α : Type} {f : α → List Nat} {g : α → Prop} (h : PF f g) : PF (lB f) (fun xs => xs.length < B64 ∧ ∀ x ∈ xs, g x) := by
  intro xs ys r s hx hy e
  unfold lB at e
  rw [List.append_assoc, List.append_assoc] at e
  obtain ⟨e1, e2⟩ := vb_unique hx.1 hy.1 e
  exact h.row xs ys r s e1 hx.2 hy.2 e2

/-- Some elements, as many as are asked for, stand in front. -/
def HasN {α : Type} (f : α → List Nat) (g : α → Prop) (n : Nat) (xs : List Nat) : Prop := ∃ (ys : List α) (rest : List Nat), ys.length = n ∧ (∀ y ∈ ys, g y) ∧ xs = (ys.map f).flatten ++ rest
/-- One stands in front. -/
def Has {α : Type} (f : α → List Nat) (g : α → Prop) (xs : List Nat) : Prop := ∃ (y : α) (rest : List Nat), g y ∧ xs = f y ++ rest

theorem PF.row_no {α : Type} {f : α → List Nat} {g : α → Prop} (h : PF f g) {ys : List α} {n : Nat} {xs rest : List Nat} (hx : xs = (ys.map f).flatten ++ rest) (hy : ∀ y ∈ ys, g y) (hn : ys.length < n) (hno : ¬ Has f g rest) : ¬ HasN f g n xs := by
  rintro ⟨zs, r, hl, hz, e⟩
  have e2 : (ys.map f).flatten ++ rest = ((zs.take ys.length).map f).flatten ++ (((zs.drop ys.length).map f).flatten ++ r) := by
    rw [← hx, e, ← List.append_assoc, ← List.flatten_append, ← List.map_append, List.take_append_drop]
  obtain ⟨_, e3⟩ := h.row ys (zs.take ys.length) rest _ (by simp; omega) hy (fun z hz' => hz z (List.mem_of_mem_take hz')) e2
  cases hd : zs.drop ys.length with
  | nil =>
    have := congrArg List.length hd
    simp at this
    omega
  | cons z zs' =>
    refine hno ⟨z, (zs'.map f).flatten ++ r, hz z (List.mem_of_mem_drop (by rw [hd]; simp)), ?_⟩
    rw [e3, hd]
    simp

/-- How many, within bounds, and each. -/
theorem PF.list_no {α : Type} {f : α → List Nat} {g : α → Prop} {n : Nat} {xs rest : List Nat} (hn : n < B64) (hx : xs = vb n ++ rest) (hno : ¬ HasN f g n rest) : ¬ Has (lB f) (fun ys => ys.length < B64 ∧ ∀ y ∈ ys, g y) xs := by
  rintro ⟨ys, r, ⟨h1, h2⟩, e⟩
  rw [hx] at e
  unfold lB at e
  rw [List.append_assoc] at e
  obtain ⟨e1, e2⟩ := vb_unique hn h1 e
  exact hno ⟨ys, r, e1.symm, h2, e2⟩

theorem goodT_nat {r : Int} {t : Typ} (hr : r ≤ 8) (h : goodT r t = true) : ∃ a b : Nat, t = ((a : Int), (b : Int)) ∧ a ≤ 8 ∧ b ≤ 255 := by
  obtain ⟨k, n⟩ := t
  simp only [goodT, goodB] at h
  split at h
  · rename_i hk
    simp at h
    exact ⟨k.toNat, n.toNat, by ext <;> simp <;> omega, by omega, by omega⟩
  · split at h
    · simp at h
      exact ⟨k.toNat, n.toNat, by ext <;> simp <;> omega, by omega, by omega⟩
    · split at h
      · simp at h
        exact ⟨k.toNat, n.toNat, by ext <;> simp <;> omega, by omega, by omega⟩
      · cases h

theorem pf_typ {r : Int} (hr : r ≤ 8) : PF tB (fun t => goodT r t = true) := by
  intro x y p q hx hy e
  obtain ⟨a, b, rfl, ha, hb⟩ := goodT_nat hr hx
  obtain ⟨c, d, rfl, hc, hd⟩ := goodT_nat hr hy
  simp only [tB, typB, Int.toNat_natCast, List.append_assoc] at e
  obtain ⟨rfl, e2⟩ := vb_unique (by unfold B64; omega) (by unfold B64; omega) e
  obtain ⟨rfl, rfl⟩ := vb_unique (by unfold B64; omega) (by unfold B64; omega) e2
  exact ⟨rfl, rfl⟩

theorem pf_ins : PF iB (fun t => goodIn t = true) := by
  intro x y p q hx hy e
  obtain ⟨o, a, b⟩ := x
  obtain ⟨o', a', b'⟩ := y
  obtain ⟨o1, a1, b1, e1, e2, e3, _⟩ := goodI_parts (op := o) (a := a) (b := b) hx
  obtain ⟨o2, a2, b2, e4, e5, e6, _⟩ := goodI_parts (op := o') (a := a') (b := b') hy
  subst e1 e2 e3 e4 e5 e6
  obtain ⟨rfl, rfl, rfl, rfl⟩ := ins_unique hx hy e
  exact ⟨rfl, rfl⟩

theorem pf_txt : PF pt (fun s => s.length < B64) := by
  intro x y p q hx hy e
  simp only [pt, List.append_assoc] at e
  obtain ⟨e1, e2⟩ := vb_unique hx hy e
  exact List.append_inj e2 e1

theorem fn_sizes {r : Int} {f : Fn} (h : fnOk r f = true) : f.args.length ≤ 4 ∧ f.args.length + f.locs.length ≤ 8 ∧ 1 ≤ f.code.length ∧ f.code.length ≤ 64 ∧ (∀ t ∈ f.args, goodT r t = true) ∧ goodT r f.ret = true ∧ (∀ t ∈ f.locs, goodT r t = true) ∧ ∀ t ∈ f.code, goodIn t = true := by
  simp only [fnOk, Bool.and_eq_true, witB_iff] at h
  obtain ⟨⟨⟨⟨h1, h2⟩, h3⟩, h4, h5⟩, h6, h7⟩ := h
  exact ⟨by omega, by omega, by omega, by omega, h2, h3, h5, h7⟩

theorem imp_sizes {r : Int} {i : Imp} (h : impOk r i = true) : i.args.length ≤ 4 ∧ (∀ t ∈ i.args, goodT r t = true) ∧ goodT r i.ret = true := by
  simp only [impOk, Bool.and_eq_true, witB_iff] at h
  exact ⟨by omega, h.1.2, h.2⟩

theorem rec_sizes {r : Int} {ts : List Typ} (h : recOk r ts = true) : ts.length ≤ 6 ∧ ∀ t ∈ ts, goodT r t = true := by
  simp only [recOk, witB_iff] at h
  exact ⟨by omega, h.2⟩

theorem pf_fn {r : Int} (hr : r ≤ 8) : PF fnB (fun f => fnOk r f = true) := by
  intro x y p q hx hy e
  obtain ⟨a1, a2, a3, a4, a5, a6, a7, a8⟩ := fn_sizes hx
  obtain ⟨b1, b2, b3, b4, b5, b6, b7, b8⟩ := fn_sizes hy
  obtain ⟨xa, xr, xl, xc⟩ := x
  obtain ⟨ya, yr, yl, yc⟩ := y
  simp only [fnB, List.append_assoc] at *
  have hB : (64 : Nat) < B64 := by unfold B64; omega
  obtain ⟨rfl, e1⟩ := (pf_typ hr).list xa ya _ _ ⟨by omega, a5⟩ ⟨by omega, b5⟩ e
  obtain ⟨rfl, e2⟩ := pf_typ hr xr yr _ _ a6 b6 e1
  obtain ⟨rfl, e3⟩ := (pf_typ hr).list xl yl _ _ ⟨by omega, a7⟩ ⟨by omega, b7⟩ e2
  obtain ⟨rfl, e4⟩ := pf_ins.list xc yc _ _ ⟨by omega, a8⟩ ⟨by omega, b8⟩ e3
  exact ⟨rfl, e4⟩

theorem pf_imp {r : Int} (hr : r ≤ 8) : PF impB (fun f => impOk r f = true) := by
  intro x y p q hx hy e
  obtain ⟨a1, a2, a3⟩ := imp_sizes hx
  obtain ⟨b1, b2, b3⟩ := imp_sizes hy
  obtain ⟨xa, xr⟩ := x
  obtain ⟨ya, yr⟩ := y
  simp only [impB, List.append_assoc] at *
  have hB : (64 : Nat) < B64 := by unfold B64; omega
  obtain ⟨rfl, e1⟩ := (pf_typ hr).list xa ya _ _ ⟨by omega, a2⟩ ⟨by omega, b2⟩ e
  obtain ⟨rfl, e2⟩ := pf_typ hr xr yr _ _ a3 b3 e1
  exact ⟨rfl, e2⟩

theorem pf_rec {r : Int} (hr : r ≤ 8) : PF (lB tB) (fun ts => recOk r ts = true) := by
  intro x y p q hx hy e
  have hB : (64 : Nat) < B64 := by unfold B64; omega
  obtain ⟨a1, a2⟩ := rec_sizes hx
  obtain ⟨b1, b2⟩ := rec_sizes hy
  exact (pf_typ hr).list x y p q ⟨by omega, a2⟩ ⟨by omega, b2⟩ e

theorem fb_unique {n m : Nat} (hn : n < B64) (hm : m < B64) (h : fb n 8 = fb m 8) : n = m := by
  have e := congrArg le h
  have h8 : (256 : Nat) ^ 8 = B64 := by decide
  rw [le_fb, le_fb, h8, Nat.mod_eq_of_lt hn, Nat.mod_eq_of_lt hm] at e
  exact e
theorem pf_num : PF numB (· < B64) := by
  intro x y p q hx hy e
  obtain ⟨e1, e2⟩ := List.append_inj e (by simp [numB, fb_length])
  exact ⟨fb_unique hx hy e1, e2⟩

theorem lB_bound {α : Type} (f : α → List Nat) (xs : List α) (M : Nat) (h : ∀ x ∈ xs, (f x).length ≤ M) (hl : xs.length < B64) : (lB f xs).length ≤ 10 + xs.length * M := by
  have h1 := vb_len 9 xs.length (by unfold B64 at hl; simp; omega)
  have h2 : ∀ zs : List α, (∀ x ∈ zs, (f x).length ≤ M) → ((zs.map f).flatten).length ≤ zs.length * M := by
    intro zs
    induction zs with
    | nil => simp
    | cons z zs ih =>
      intro hz
      have e1 := hz z (by simp)
      have e2 := ih fun x hx => hz x (by simp [hx])
      simp only [List.map_cons, List.flatten_cons, List.length_append, List.length_cons, Nat.succ_mul]
      omega
  have h3 := h2 xs h
  simp only [lB, List.length_append]
  omega
theorem lB_bytes {α : Type} (f : α → List Nat) (xs : List α) (h : ∀ x ∈ xs, ∀ z ∈ f x, z < 256) : ∀ z ∈ lB f xs, z < 256 := by
  intro z hz
  simp only [lB, List.mem_append, List.mem_flatten, List.mem_map] at hz
  rcases hz with hz | ⟨l, ⟨x, hx, rfl⟩, hz⟩
  · exact vb_bytes _ z hz
  · exact h x hx z hz

theorem tB_bytes (t : Typ) : ∀ z ∈ tB t, z < 256 := by
  intro z hz
  simp only [tB, typB, List.mem_append] at hz
  rcases hz with hz | hz <;> exact vb_bytes _ z hz
theorem iB_bytes (t : Ins) : ∀ z ∈ iB t, z < 256 := insB_bytes _ _ _
theorem fnB_bytes (f : Fn) : ∀ z ∈ fnB f, z < 256 := by
  intro z hz
  simp only [fnB, List.mem_append] at hz
  rcases hz with hz | hz | hz | hz
  · exact lB_bytes tB _ (fun x _ => tB_bytes x) z hz
  · exact tB_bytes _ z hz
  · exact lB_bytes tB _ (fun x _ => tB_bytes x) z hz
  · exact lB_bytes iB _ (fun x _ => iB_bytes x) z hz
theorem impB_bytes (f : Imp) : ∀ z ∈ impB f, z < 256 := by
  intro z hz
  simp only [impB, List.mem_append] at hz
  rcases hz with hz | hz
  · exact lB_bytes tB _ (fun x _ => tB_bytes x) z hz
  · exact tB_bytes _ z hz
theorem numB_bytes (n : Nat) : ∀ z ∈ numB n, z < 256 := fb_bytes n 8
theorem pt_bytes (s : List Nat) (h : ∀ z ∈ s, z < 256) : ∀ z ∈ pt s, z < 256 := by
  intro z hz
  simp only [pt, List.mem_append] at hz
  rcases hz with hz | hz
  · exact vb_bytes _ z hz
  · exact h z hz
theorem modB_bytes (m : Mod) (h : ∀ s ∈ m.texts, ∀ z ∈ s, z < 256) : ∀ z ∈ modB m, z < 256 := by
  refine joinB_bytes _ fun j hj z hz => ?_
  match j, hj with
  | 0, _ => exact lB_bytes _ _ (fun x _ => lB_bytes tB _ (fun t _ => tB_bytes t)) z (by simpa [partsB] using hz)
  | 1, _ => exact lB_bytes _ _ (fun x _ => fnB_bytes x) z (by simpa [partsB] using hz)
  | 2, _ => exact lB_bytes _ _ (fun x _ => impB_bytes x) z (by simpa [partsB] using hz)
  | 3, _ => exact lB_bytes _ _ (fun x _ => numB_bytes x) z (by simpa [partsB] using hz)
  | 4, _ => exact lB_bytes _ _ (fun x hx => pt_bytes x (h x hx)) z (by simpa [partsB] using hz)
  | j + 5, hj => exact absurd hj (by simp [partsB])

theorem tB_len {r : Int} {t : Typ} (hr : r ≤ 8) (h : goodT r t = true) : (tB t).length ≤ 4 := by
  obtain ⟨a, b, rfl, ha, hb⟩ := goodT_nat hr h
  have h1 := vb_len 1 a (by simp; omega)
  have h2 := vb_len 1 b (by simp; omega)
  simp [tB, typB]
  omega
theorem iB_len (t : Ins) : (iB t).length ≤ 5 := insB_len _ _ _
theorem tys_len {r : Int} {ts : List Typ} (hr : r ≤ 8) (hl : ts.length ≤ 8) (h : ∀ t ∈ ts, goodT r t = true) : (lB tB ts).length ≤ 42 := by
  have := lB_bound tB ts 4 (fun t ht => tB_len hr (h t ht)) (by unfold B64; omega)
  omega
theorem fnB_len {r : Int} {f : Fn} (hr : r ≤ 8) (h : fnOk r f = true) : (fnB f).length ≤ 500 := by
  obtain ⟨a1, a2, a3, a4, a5, a6, a7, a8⟩ := fn_sizes h
  have h1 := tys_len hr (by omega) a5
  have h2 := tB_len hr a6
  have h3 := tys_len hr (by omega) a7
  have h4 := lB_bound iB f.code 5 (fun t _ => iB_len t) (by unfold B64; omega)
  simp only [fnB, List.length_append]
  omega
theorem impB_len {r : Int} {f : Imp} (hr : r ≤ 8) (h : impOk r f = true) : (impB f).length ≤ 50 := by
  obtain ⟨a1, a2, a3⟩ := imp_sizes h
  have h1 := tys_len hr (by omega) a2
  have h2 := tB_len hr a3
  simp only [impB, List.length_append]
  omega

/-- What a module that fits is made of. -/
structure Fit (m : Mod) : Prop where
  r8 : (m.recs.length : Int) ≤ 8
  recs : ∀ t ∈ m.recs, recOk m.recs.length t = true
  f1 : 1 ≤ m.funcs.length
  f8 : m.funcs.length ≤ 8
  funcs : ∀ f ∈ m.funcs, fnOk m.recs.length f = true
  i8 : m.imps.length ≤ 8
  imps : ∀ f ∈ m.imps, impOk m.recs.length f = true
  n16 : m.ints.length ≤ 16
  t16 : m.texts.length ≤ 16
  texts : ∀ s ∈ m.texts, s.length ≤ 32
theorem fitB_iff {m : Mod} : fitB m = true ↔ Fit m := by
  simp only [fitB, Bool.and_eq_true, witB_iff, decide_eq_true_eq]
  constructor
  · rintro ⟨⟨⟨⟨⟨h1, h2⟩, h3, h4⟩, h5, h6⟩, h7⟩, h8, h9⟩
    exact ⟨h1.2, h2, by omega, by omega, h4, by omega, h6, h7, by omega, fun s hs => by simpa [shortB] using h9 s hs⟩
  · rintro ⟨h1, h2, h3, h4, h5, h6, h7, h8, h9, h10⟩
    exact ⟨⟨⟨⟨⟨by omega, h2⟩, by omega, h5⟩, by omega, h7⟩, h8⟩, by omega, fun s hs => by simpa [shortB] using h10 s hs⟩

theorem Fit.parts_len {m : Mod} (h : Fit m) : ∀ j, j < (partsB m).length → ((partsB m)[j]?.getD []).length ≤ 5000 := by
  have hB : (64 : Nat) < B64 := by unfold B64; omega
  have hr := h.r8
  have b0 := lB_bound (lB tB) m.recs 42 (fun x hx => by have := rec_sizes (h.recs x hx); exact tys_len h.r8 (by omega) this.2) (by omega)
  have b1 := lB_bound fnB m.funcs 500 (fun x hx => fnB_len h.r8 (h.funcs x hx)) (by have := h.f8; omega)
  have b2 := lB_bound impB m.imps 50 (fun x hx => impB_len h.r8 (h.imps x hx)) (by have := h.i8; omega)
  have b3 := lB_bound numB m.ints 8 (fun x _ => by simp [numB, fb_length]) (by have := h.n16; omega)
  have b4 := lB_bound pt m.texts 42 (fun x hx => by have h1 := h.texts x hx; have h2 := vb_len 9 x.length (by simp; omega); simp [pt]; omega) (by have := h.t16; omega)
  have := h.f8
  have := h.i8
  have := h.n16
  have := h.t16
  intro j hj
  match j, hj with
  | 0, _ => simp [partsB]; omega
  | 1, _ => simp [partsB]; omega
  | 2, _ => simp [partsB]; omega
  | 3, _ => simp [partsB]; omega
  | 4, _ => simp [partsB]; omega
  | j + 5, hj => exact absurd hj (by simp [partsB])
theorem Fit.len {m : Mod} (h : Fit m) : (modB m).length ≤ 30000 := by
  have := joinB_bound (partsB m) 5000 (by unfold B64; omega) (by simp [partsB]; unfold B64; omega) h.parts_len
  simp [partsB] at this
  simp [modB, partsB]
  omega

theorem recs_part {m : Mod} (h : Fit m) : m.recs.length < B64 ∧ ∀ t ∈ m.recs, recOk m.recs.length t = true := ⟨by have := h.r8; unfold B64; omega, h.recs⟩
/-- Two modules of the same bytes are one. -/
theorem mod_unique {a b : Mod} (ha : Fit a) (hb : Fit b) (hia : ∀ n ∈ a.ints, n < B64) (hib : ∀ n ∈ b.ints, n < B64) (h : modB a = modB b) : a = b := by
  have hB : (64 : Nat) < B64 := by unfold B64; omega
  have hp := join_unique (xs := modB a) (by have := ha.len; unfold B64; omega) (xss := partsB a) (yss := partsB b) rfl h
  obtain ⟨ar, af, ai, an, ax⟩ := a
  obtain ⟨br, bf, bi, bn, bx⟩ := b
  simp only [partsB, List.cons.injEq, and_true] at hp
  obtain ⟨e0, e1, e2, e3, e4⟩ := hp
  have l0 : ar.length = br.length := by
    have h1 := ha.r8
    have h2 := hb.r8
    simp only [lB] at e0 h1 h2
    exact (vb_unique (by omega) (by omega) e0).1
  have r8 := ha.r8
  simp only at r8
  have hbr : ∀ t ∈ br, recOk (ar.length : Int) t = true := by rw [l0]; exact hb.recs
  have hbf : ∀ t ∈ bf, fnOk (ar.length : Int) t = true := by rw [l0]; exact hb.funcs
  have hbi : ∀ t ∈ bi, impOk (ar.length : Int) t = true := by rw [l0]; exact hb.imps
  have f1 := ha.f8
  have f2 := hb.f8
  have i1 := ha.i8
  have i2 := hb.i8
  have n1 := ha.n16
  have n2 := hb.n16
  have t1 := ha.t16
  have t2 := hb.t16
  simp only at f1 f2 i1 i2 n1 n2 t1 t2
  obtain ⟨rfl, _⟩ := (pf_rec r8).list ar br [] [] ⟨by omega, ha.recs⟩ ⟨by omega, hbr⟩ (by rw [e0])
  obtain ⟨rfl, _⟩ := (pf_fn r8).list af bf [] [] ⟨by omega, ha.funcs⟩ ⟨by omega, hbf⟩ (by rw [e1])
  obtain ⟨rfl, _⟩ := (pf_imp r8).list ai bi [] [] ⟨by omega, ha.imps⟩ ⟨by omega, hbi⟩ (by rw [e2])
  obtain ⟨rfl, _⟩ := pf_num.list an bn [] [] ⟨by omega, hia⟩ ⟨by omega, hib⟩ (by rw [e3])
  obtain ⟨rfl, _⟩ := pf_txt.list ax bx [] [] ⟨by omega, fun s hs => by have := ha.texts s hs; omega⟩ ⟨by omega, fun s hs => by have := hb.texts s hs; omega⟩ (by rw [e4])
  rfl
end Go.Proofs.Ytlfcglolehmmiaa
namespace Go.Proofs.Ytlfcglolehmmiaa
open Go.RowKit

/-- How a thing lies in memory: in k cells, which say by R what it is; what they point to lies in blocks of which S says yes. -/
structure Lay (α : Type) where
  k : Nat
  R : (Nat → Prop) → World → List Value → α → Prop
  len : ∀ {S w cs x}, R S w cs x → cs.length = k
  keep : ∀ {S : Nat → Prop} {w w' : World} {cs : List Value} {x : α}, R S w cs x → (∀ b, S b → w'.heap[b]? = w.heap[b]?) → R S w' cs x
  wide : ∀ {S T : Nat → Prop} {w : World} {cs : List Value} {x : α}, R S w cs x → (∀ b, S b → T b) → R T w cs x
  one : ∀ {S w cs x}, R S w cs x → ∀ u ∈ cs, u.oneCell' = true

/-- A slice with the address A holds the things xs. -/
def Sq {α : Type} (L : Lay α) (S : Nat → Prop) (w : World) (A : Option Addr) (xs : List α) : Prop :=
  0 < xs.length → ∃ a, A = some a ∧ S a.block ∧ ∀ j x, xs[j]? = some x → ∃ cs, (∀ i u, cs[i]? = some u → w.cell? (a.add (j * L.k + i)) = some u) ∧ L.R S w cs x

theorem Sq.nil {α : Type} (L : Lay α) (S : Nat → Prop) (w : World) (A : Option Addr) : Sq L S w A [] := fun h => absurd h (by simp)
theorem Sq.keep {α : Type} {L : Lay α} {S : Nat → Prop} {w w' : World} {A : Option Addr} {xs : List α} (h : Sq L S w A xs) (hk : ∀ b, S b → w'.heap[b]? = w.heap[b]?) : Sq L S w' A xs := fun hn => by
  obtain ⟨a, e, hs, hc⟩ := h hn
  refine ⟨a, e, hs, fun j x hx => ?_⟩
  obtain ⟨cs, h1, h2⟩ := hc j x hx
  exact ⟨cs, fun i u hu => (World.cell?_of_block (hk _ (by rw [addBlock]; exact hs))).trans (h1 i u hu), L.keep h2 hk⟩
theorem Sq.wide {α : Type} {L : Lay α} {S T : Nat → Prop} {w : World} {A : Option Addr} {xs : List α} (h : Sq L S w A xs) (hk : ∀ b, S b → T b) : Sq L T w A xs := fun hn => by
  obtain ⟨a, e, hs, hc⟩ := h hn
  refine ⟨a, e, hk _ hs, fun j x hx => ?_⟩
  obtain ⟨cs, h1, h2⟩ := hc j x hx
  exact ⟨cs, h1, L.wide h2 hk⟩
theorem Sq.below {α : Type} {L : Lay α} {B B' : Nat} {w w' : World} {A : Option Addr} {xs : List α} (h : Sq L (· < B) w A xs) (hb : Below B' w w') (hB : B ≤ B') : Sq L (· < B) w' A xs := h.keep fun b h1 => hb.block b (Nat.lt_of_lt_of_le h1 hB)
theorem Sq.at {α : Type} {L : Lay α} {S : Nat → Prop} {w : World} {A : Option Addr} {xs : List α} (h : Sq L S w A xs) {k : Nat} {x : α} (hk : xs[k]? = some x) :
    ∃ a cs, A = some a ∧ S a.block ∧ (∀ i u, cs[i]? = some u → w.cell? (a.add (k * L.k + i)) = some u) ∧ L.R S w cs x := by
  obtain ⟨a, e, hs, hc⟩ := h (by have := (List.getElem?_eq_some_iff.1 hk).1; omega)
  obtain ⟨cs, h1, h2⟩ := hc k x hk
  exact ⟨a, cs, e, hs, h1, h2⟩

/-- A slice, as one cell. -/
def slL {α : Type} (L : Lay α) : Lay (List α) where
  k := 1
  R S w cs xs := ∃ A c, cs = [.slice A xs.length c] ∧ xs.length ≤ c ∧ c ≤ maxLen ∧ Sq L S w A xs
  len := by rintro S w cs x ⟨A, c, rfl, _⟩; rfl
  keep := by rintro S w w' cs x ⟨A, c, rfl, h1, h2, h3⟩ hk; exact ⟨A, c, rfl, h1, h2, h3.keep hk⟩
  wide := by rintro S T w cs x ⟨A, c, rfl, h1, h2, h3⟩ hk; exact ⟨A, c, rfl, h1, h2, h3.wide hk⟩
  one := by rintro S w cs x ⟨A, c, rfl, _⟩ u hu; simp at hu; subst hu; rfl

/-- A number of 64 bits. -/
def I64 (n : Int) : Prop := -9223372036854775808 ≤ n ∧ n ≤ 9223372036854775807
def typL : Lay Typ where
  k := 2
  R _ _ cs t := cs = [.int .i64 t.1, .int .i64 t.2] ∧ I64 t.1 ∧ I64 t.2
  len := by rintro S w cs x ⟨rfl, _⟩; rfl
  keep := by rintro S w w' cs x h _; exact h
  wide := by rintro S T w cs x h _; exact h
  one := by rintro S w cs x ⟨rfl, _⟩ u hu; simp at hu; rcases hu with rfl | rfl <;> rfl
def insL : Lay Ins where
  k := 3
  R _ _ cs t := cs = [.int .i64 t.1, .int .i64 t.2.1, .int .i64 t.2.2] ∧ I64 t.1 ∧ I64 t.2.1 ∧ I64 t.2.2
  len := by rintro S w cs x ⟨rfl, _⟩; rfl
  keep := by rintro S w w' cs x h _; exact h
  wide := by rintro S T w cs x h _; exact h
  one := by rintro S w cs x ⟨rfl, _⟩ u hu; simp at hu; rcases hu with rfl | rfl | rfl <;> rfl
def numL : Lay Nat where
  k := 1
  R _ _ cs n := cs = [.int .u64 (n : Int)] ∧ n < B64
  len := by rintro S w cs x ⟨rfl, _⟩; rfl
  keep := by rintro S w w' cs x h _; exact h
  wide := by rintro S T w cs x h _; exact h
  one := by rintro S w cs x ⟨rfl, _⟩ u hu; simp at hu; subst hu; rfl
/-- A string's bytes. -/
def strB (s : ByteArray) : List Nat := s.data.toList.map UInt8.toNat
def strL : Lay (List Nat) where
  k := 1
  R _ _ cs xs := ∃ s, cs = [.string s] ∧ xs = strB s
  len := by rintro S w cs x ⟨s, rfl, _⟩; rfl
  keep := by rintro S w w' cs x h _; exact h
  wide := by rintro S T w cs x h _; exact h
  one := by rintro S w cs x ⟨s, rfl, _⟩ u hu; simp at hu; subst hu; rfl
abbrev tysL : Lay (List Typ) := slL typL
abbrev codL : Lay (List Ins) := slL insL
def fnL : Lay Fn where
  k := 5
  R S w cs f := ∃ v0 v1 v2, cs = [v0, .int .i64 f.ret.1, .int .i64 f.ret.2, v1, v2] ∧ I64 f.ret.1 ∧ I64 f.ret.2 ∧ tysL.R S w [v0] f.args ∧ tysL.R S w [v1] f.locs ∧ codL.R S w [v2] f.code
  len := by rintro S w cs x ⟨v0, v1, v2, rfl, _⟩; rfl
  keep := by rintro S w w' cs x ⟨v0, v1, v2, rfl, h1, h2, h3, h4, h5⟩ hk; exact ⟨v0, v1, v2, rfl, h1, h2, tysL.keep h3 hk, tysL.keep h4 hk, codL.keep h5 hk⟩
  wide := by rintro S T w cs x ⟨v0, v1, v2, rfl, h1, h2, h3, h4, h5⟩ hk; exact ⟨v0, v1, v2, rfl, h1, h2, tysL.wide h3 hk, tysL.wide h4 hk, codL.wide h5 hk⟩
  one := by
    rintro S w cs x ⟨v0, v1, v2, rfl, h1, h2, h3, h4, h5⟩ u hu
    simp at hu
    rcases hu with rfl | rfl | rfl | rfl | rfl
    · exact tysL.one h3 _ (by simp)
    · rfl
    · rfl
    · exact tysL.one h4 _ (by simp)
    · exact codL.one h5 _ (by simp)
def impL : Lay Imp where
  k := 3
  R S w cs f := ∃ v0, cs = [v0, .int .i64 f.ret.1, .int .i64 f.ret.2] ∧ I64 f.ret.1 ∧ I64 f.ret.2 ∧ tysL.R S w [v0] f.args
  len := by rintro S w cs x ⟨v0, rfl, _⟩; rfl
  keep := by rintro S w w' cs x ⟨v0, rfl, h1, h2, h3⟩ hk; exact ⟨v0, rfl, h1, h2, tysL.keep h3 hk⟩
  wide := by rintro S T w cs x ⟨v0, rfl, h1, h2, h3⟩ hk; exact ⟨v0, rfl, h1, h2, tysL.wide h3 hk⟩
  one := by
    rintro S w cs x ⟨v0, rfl, h1, h2, h3⟩ u hu
    simp at hu
    rcases hu with rfl | rfl | rfl
    · exact tysL.one h3 _ (by simp)
    · rfl
    · rfl
def modL : Lay Mod where
  k := 5
  R S w cs m := ∃ v0 v1 v2 v3 v4, cs = [v0, v1, v2, v3, v4] ∧ (slL tysL).R S w [v0] m.recs ∧ (slL fnL).R S w [v1] m.funcs ∧ (slL impL).R S w [v2] m.imps ∧ (slL numL).R S w [v3] m.ints ∧ (slL strL).R S w [v4] m.texts
  len := by rintro S w cs x ⟨v0, v1, v2, v3, v4, rfl, _⟩; rfl
  keep := by rintro S w w' cs x ⟨v0, v1, v2, v3, v4, rfl, h0, h1, h2, h3, h4⟩ hk; exact ⟨v0, v1, v2, v3, v4, rfl, (slL tysL).keep h0 hk, (slL fnL).keep h1 hk, (slL impL).keep h2 hk, (slL numL).keep h3 hk, (slL strL).keep h4 hk⟩
  wide := by rintro S T w cs x ⟨v0, v1, v2, v3, v4, rfl, h0, h1, h2, h3, h4⟩ hk; exact ⟨v0, v1, v2, v3, v4, rfl, (slL tysL).wide h0 hk, (slL fnL).wide h1 hk, (slL impL).wide h2 hk, (slL numL).wide h3 hk, (slL strL).wide h4 hk⟩
  one := by
    rintro S w cs x ⟨v0, v1, v2, v3, v4, rfl, h0, h1, h2, h3, h4⟩ u hu
    simp at hu
    rcases hu with rfl | rfl | rfl | rfl | rfl
    · exact (slL tysL).one h0 _ (by simp)
    · exact (slL fnL).one h1 _ (by simp)
    · exact (slL impL).one h2 _ (by simp)
    · exact (slL numL).one h3 _ (by simp)
    · exact (slL strL).one h4 _ (by simp)

theorem strB_bytes (s : ByteArray) : ∀ z ∈ strB s, z < 256 := by
  intro z hz
  obtain ⟨x, _, rfl⟩ := List.mem_map.1 hz
  exact x.toNat_lt
theorem strB_len (s : ByteArray) : (strB s).length = s.size := by simp [strB]
theorem strB_cells (s : ByteArray) : Lib.strCells s = Bs (strB s) := by simp [Lib.strCells, Bs, strB]
theorem strB_inj {s t : ByteArray} (h : strB s = strB t) : s.toList = t.toList := by
  rw [ByteArray.toList_eq, ByteArray.toList_eq]
  unfold strB at h
  exact (List.map_inj_right (fun a b hab => UInt8.toNat_inj.1 hab)).1 h

/-- The slice v, which the call owns, holds the things xs; what these point to are blocks of the call's own, and not the slice's. -/
def Owns {α : Type} (L : Lay α) (ty base : Nat) (w : World) (v : Value) (xs : List α) : Prop :=
  ∃ css : List (List Value), css.length = xs.length ∧ w.ownsRow base ty L.k v xs.length css.flatten ∧
    ∀ (j : Nat) (x : α) (cs : List Value), xs[j]? = some x → css[j]? = some cs → L.R (fun b => base ≤ b ∧ b < w.heap.size ∧ v.ownBlock ≠ some b) w cs x

theorem Owns.nil {α : Type} (L : Lay α) (ty base : Nat) (w : World) : Owns L ty base w (.slice none 0 0) ([] : List α) :=
  ⟨[], rfl, World.ownsRow_nil _ _ _ _, fun j x cs h => by simp at h⟩

theorem flat_get {css : List (List Value)} {k : Nat} (hk : ∀ cs ∈ css, cs.length = k) {j : Nat} {cs : List Value} (hj : css[j]? = some cs) (i : Nat) (hi : i < k) : css.flatten[j * k + i]? = cs[i]? := by
  induction css generalizing j with
  | nil => simp at hj
  | cons c css ih =>
    have hc := hk c (by simp)
    cases j with
    | zero =>
      simp at hj
      subst hj
      rw [List.flatten_cons, List.getElem?_append_left (by omega)]
      simp
    | succ j =>
      rw [List.flatten_cons, List.getElem?_append_right (by rw [hc, Nat.succ_mul]; omega), hc, show (j + 1) * k + i - k = j * k + i by rw [Nat.succ_mul]; omega]
      exact ih (fun x hx => hk x (by simp [hx])) (by simpa using hj)

/-- What the call owns is a slice that holds the things. -/
theorem Owns.slice {α : Type} {L : Lay α} {ty base : Nat} {w : World} {v : Value} {xs : List α} (h : Owns L ty base w v xs) :
    (slL L).R (fun b => base ≤ b ∧ b < w.heap.size) w [v] xs := by
  obtain ⟨css, hl, hown, hR⟩ := h
  have hk : ∀ cs ∈ css, cs.length = L.k := fun cs hcs => by
    obtain ⟨j, hj⟩ := List.mem_iff_getElem?.1 hcs
    have hjl : j < xs.length := by rw [← hl]; exact (List.getElem?_eq_some_iff.1 hj).1
    exact L.len (hR j _ cs (List.getElem?_eq_getElem hjl) hj)
  rcases hown.2 with ⟨rfl, h0⟩ | ⟨g, cap, cur, rfl, hb, hg, hnc, hcm, _, _⟩
  · exact ⟨none, 0, by rw [h0], by omega, by simp [maxLen], fun hpos => absurd hpos (by omega)⟩
  · refine ⟨some ⟨g, 0, none⟩, cap, rfl, hnc, hcm, fun _ => ⟨⟨g, 0, none⟩, rfl, ⟨hb, (Array.getElem?_eq_some_iff.1 hg).1⟩, fun j x hx => ?_⟩⟩
    have hjl : j < css.length := by rw [hl]; exact (List.getElem?_eq_some_iff.1 hx).1
    have hcs := List.getElem?_eq_getElem hjl
    have hr := hR j x _ hx hcs
    refine ⟨_, fun i u hu => ?_, L.wide hr fun b hb => ⟨hb.1, hb.2.1⟩⟩
    have hi : i < L.k := by rw [← L.len hr]; exact (List.getElem?_eq_some_iff.1 hu).1
    exact hown.cells rfl (j * L.k + i) u (by rw [flat_get hk hcs i hi]; exact hu)

theorem Owns.lt {α : Type} {L : Lay α} {ty base : Nat} {w : World} {v : Value} {xs : List α} (h : Owns L ty base w v xs) : ∀ i, v.ownBlock = some i → base ≤ i ∧ i < w.heap.size := by
  obtain ⟨css, hl, hown, hR⟩ := h
  exact fun i hi => ⟨(hown.lt i hi).1, (hown.lt i hi).2⟩

/-- It stays where nothing below has changed but a block that is not among its own. -/
theorem Owns.kept {α : Type} {L : Lay α} {ty base : Nat} {w w' : World} {v : Value} {xs : List α} (h : Owns L ty base w v xs) {g : Nat} (hg : g < base) (ho : Only g w w') : Owns L ty base w' v xs := by
  have hlt := h.lt
  obtain ⟨css, hl, hown, hR⟩ := h
  refine ⟨css, hl, hown.kept (row := some g) ho (.inr fun e => by have := hlt g e; omega), fun j x cs h1 h2 => ?_⟩
  refine L.wide (L.keep (hR j x cs h1 h2) fun b hb => ho.block b hb.2.1 (fun e => by injection e; omega)) fun b hb => ⟨hb.1, Nat.lt_of_lt_of_le hb.2.1 ho.size, hb.2.2⟩

def vOne : List Value → Value
  | [v] => v
  | _ => .nilFunc
def vAgg (cs : List Value) : Value := .agg cs.toArray
/-- It answers the bytes ys, in memory of its own; nothing else is changed. -/
def Puts (ys : List Nat) (w : World) (e : Ending) (w' : World) : Prop := ∃ u, e = .returned u ∧ w'.ownsRow w.heap.size 5 1 u ys.length (Bs ys) ∧ Below w.heap.size w w'
/-- It answers b; nothing is changed. -/
def Tells (b : Bool) (w : World) (e : Ending) (w' : World) : Prop := e = .returned (.bool b) ∧ Below w.heap.size w w'
theorem all_take {α : Type} {g : α → Bool} {xs : List α} {k : Nat} {x : α} (h : (xs.take k).all g = true) (hx : xs[k]? = some x) (hg : g x = true) : (xs.take (k + 1)).all g = true := by
  obtain ⟨hk, rfl⟩ := List.getElem?_eq_some_iff.1 hx
  rw [List.take_succ_eq_append_getElem hk, List.all_append, h]
  simp [hg]
theorem one_cell {w : World} {a : Addr} {k K : Nat} {o : Option Value} (hK : K = 1) (h : w.cell? (a.add (k * K + 0)) = o) : w.cell? (a.add k) = o := by
  subst hK
  simpa using h
set_option maxRecDepth 100000 in
/-- append of a string's bytes to a slice of bytes that the call owns. -/
theorem walk_append_str (w : World) {ops : Array Oper} {rest : List Oper} {o : Oper} {a : Act} {Q : Exit → Act → World → Prop} (hgd : o.guard = none) (sl x : Operand)
    (ho : o.op = .call { callee := .builtin .append, args := #[sl, x], argTypes := #[62, 9] })
    (base : Nat) (v : Value) (n : Nat) (xs : List Nat) (hs : a.eval sl = v) (hown : w.ownsRow base 5 1 v n (Bs xs)) (s : ByteArray) (hx : a.eval x = .string s)
    (hbig : n + (strB s).length ≤ 140737488355328) (hbase : base ≤ w.heap.size)
    (h : ∀ v' w', w'.ownsRow base 5 1 v' (n + (strB s).length) (Bs (xs ++ strB s)) → w.grownBy w' v.ownBlock → wpList Try.prog ops Q rest (a.put o.dst v') w') : wpList Try.prog ops Q (o :: rest) a w := by
  obtain ⟨i0, hi0, hz0, hz1, hz2⟩ := info_parts u8_info
  rw [strB_len] at hbig h
  refine Lib.wpList_append_own_string _ hgd sl x 62 9 ho base 5 i0 Try.underlying62 Try.underlying9 hi0 hz0 hz1 hz2 v n (Bs xs) hs hown s hx (by simp only [maxLen]; omega) hbig hbase ?_
  intro v' w' h1 h2 _
  rw [strB_cells, ← Bs_app] at h1
  exact h v' w' h1 h2
/-- Five cells of one block, which stay. -/
def C5 (b : Nat) (v0 v1 v2 v3 v4 : Value) (w : World) : Prop := w.cell? ⟨b, 0, none⟩ = some v0 ∧ w.cell? ⟨b, 1, none⟩ = some v1 ∧ w.cell? ⟨b, 2, none⟩ = some v2 ∧ w.cell? ⟨b, 3, none⟩ = some v3 ∧ w.cell? ⟨b, 4, none⟩ = some v4
theorem C5.below {b B : Nat} {v0 v1 v2 v3 v4 : Value} {w w' : World} (h : C5 b v0 v1 v2 v3 v4 w) (hb : Below B w w') (hB : b < B) : C5 b v0 v1 v2 v3 v4 w' :=
  ⟨(hb.cell (p := ⟨b, 0, none⟩) hB).trans h.1, (hb.cell (p := ⟨b, 1, none⟩) hB).trans h.2.1, (hb.cell (p := ⟨b, 2, none⟩) hB).trans h.2.2.1, (hb.cell (p := ⟨b, 3, none⟩) hB).trans h.2.2.2.1, (hb.cell (p := ⟨b, 4, none⟩) hB).trans h.2.2.2.2⟩
theorem take_same {α : Type} {xs ys : List α} {k : Nat} {x y : α} (h : xs.take k = ys.take k) (hx : xs[k]? = some x) (hy : ys[k]? = some y) (e : x = y) : xs.take (k + 1) = ys.take (k + 1) := by
  obtain ⟨hk, rfl⟩ := List.getElem?_eq_some_iff.1 hx
  obtain ⟨hk2, rfl⟩ := List.getElem?_eq_some_iff.1 hy
  rw [List.take_succ_eq_append_getElem hk, List.take_succ_eq_append_getElem hk2, h, e]
theorem get_ne {α : Type} {xs ys : List α} {k : Nat} {x y : α} (hx : xs[k]? = some x) (hy : ys[k]? = some y) (e : ¬ x = y) : xs ≠ ys := by
  rintro rfl
  rw [hx] at hy
  exact e (Option.some.inj hy)
theorem next_cell (a : Addr) (m i : Nat) (hi : 0 < i) : a.add (m + i) = ⟨(a.add m).block, (a.add m).off + i, none⟩ := by
  rw [← addAdd]
  generalize a.add m = x
  have : i ≠ 0 := by omega
  simp [Addr.add, this]
theorem cut_flat {α : Type} (f : α → List Nat) (xs : List α) (k : Nat) (x : α) (h : xs[k]? = some x) : ((xs.take (k + 1)).map f).flatten = ((xs.take k).map f).flatten ++ f x := by
  obtain ⟨hk, rfl⟩ := List.getElem?_eq_some_iff.1 h
  rw [List.take_succ_eq_append_getElem hk, List.map_append, List.flatten_append]
  simp
theorem flat_short {α : Type} (f : α → List Nat) (xs : List α) (k : Nat) : ((xs.take k).map f).flatten.length ≤ (xs.map f).flatten.length := by
  conv => rhs; rw [← List.take_append_drop k xs, List.map_append, List.flatten_append]
  rw [List.length_append]
  omega
theorem cell_new (w : World) (t : TypeId) (cs : List Value) : ∀ j u, cs[j]? = some u → (w.alloc (.cells cs.toArray t)).cell? ((⟨w.heap.size, 0, none⟩ : Addr).add j) = some u := fun j u hu => by
  have e : (⟨w.heap.size, 0, none⟩ : Addr).add j = ⟨w.heap.size, j, none⟩ := by unfold Addr.add; split <;> simp_all
  rw [e, World.cell?_alloc_mark]
  simpa using hu
theorem below_grown {B : Nat} {w w' : World} {row : Option Nat} (hg : w.grownBy w' row) (hB : B ≤ w.heap.size) (hr : ∀ i, row = some i → B ≤ i) : Below B w w' := (Below.refl B w).grown hg hB hr
def fn0 : Fn := ⟨[], (1, 0), [], [(26, 0, 0)]⟩
theorem mod_at {w w1 : World} {cs : List Value} {m : Mod} (h : modL.R (· < w.heap.size) w cs m) (hb : Below w.heap.size w w1) : modL.R (· < w1.heap.size) w1 cs m :=
  modL.wide (modL.keep h fun b hb1 => hb.block b hb1) fun _ hb1 => Nat.lt_of_lt_of_le hb1 hb.size
theorem mod_shape {S : Nat → Prop} {w : World} {cs : List Value} {m : Mod} (h : modL.R S w cs m) : ∃ A0 A1 A2 A3 A4 n0 n1 n2 n3 n4 c0 c1 c2 c3 c4, cs = [.slice A0 n0 c0, .slice A1 n1 c1, .slice A2 n2 c2, .slice A3 n3 c3, .slice A4 n4 c4] := by
  obtain ⟨_, _, _, _, _, rfl, ⟨A0, d0, e0, -⟩, ⟨A1, d1, e1, -⟩, ⟨A2, d2, e2, -⟩, ⟨A3, d3, e3, -⟩, ⟨A4, d4, e4, -⟩⟩ := h
  simp only [List.cons.injEq, and_true] at e0 e1 e2 e3 e4
  subst e0 e1 e2 e3 e4
  exact ⟨A0, A1, A2, A3, A4, _, _, _, _, _, d0, d1, d2, d3, d4, rfl⟩
def mE : Mod := ⟨[], [], [], [], []⟩
theorem mE_laid (S : Nat → Prop) (w : World) : modL.R S w [.slice none 0 0, .slice none 0 0, .slice none 0 0, .slice none 0 0, .slice none 0 0] mE := by
  have hm : (0 : Nat) ≤ maxLen := Nat.zero_le _
  exact ⟨_, _, _, _, _, rfl, ⟨none, 0, rfl, Nat.le_refl _, hm, Sq.nil _ _ _ _⟩, ⟨none, 0, rfl, Nat.le_refl _, hm, Sq.nil _ _ _ _⟩, ⟨none, 0, rfl, Nat.le_refl _, hm, Sq.nil _ _ _ _⟩, ⟨none, 0, rfl, Nat.le_refl _, hm, Sq.nil _ _ _ _⟩, ⟨none, 0, rfl, Nat.le_refl _, hm, Sq.nil _ _ _ _⟩⟩
theorem below_drewN (w : World) (q : Nat) : Below w.heap.size w (w.drewN q) := ⟨rfl, rfl, rfl, Nat.le_refl _, fun _ _ => rfl⟩
theorem below_drews' {B : Nat} {w w1 : World} (h : Below B w w1) (q : Nat) (hB : B ≤ w1.heap.size) : Below B w (w1.drewN q) := h.trans ((below_drewN w1 q).mono hB)
end Go.Proofs.Ytlfcglolehmmiaa
