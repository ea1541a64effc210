/-
  Wds Opn Math Im Iun Pkm Km Nvr Stp Kwo Own Kpt Iss Le Wid Nfx
-/
import Derived.Test.YtikhhcmfjncabaaProg
import Derived.Test.YtikhhcmfjncabaaRows
import Derived.WalkKit
import Derived.WalkSpells
import Derived.WalkLawsBesides
import Derived.Maps.AppendAt
import Derived.Deep.Draws
import Derived.Lib.Hide
import Derived.OpenShut
import Derived.Laws.BitsAllLaws
import Derived.Laws.Bits64
import Derived.ProofKit
import Derived.ShutString
import Derived.Deep.Slices
import Derived.Deep.RegionLaw
import Init
set_option linter.unusedSimpArgs false
set_option linter.unusedVariables false
namespace Go.Proofs.Ytikhhcmfjncabaa
open Go.RowKit
theorem trn {B : Nat} {a b c : World} (h : Below B a b) (k : Below b.heap.size b c) (hB : B = a.heap.size := by rfl) : Below B a c := h.trans (k.mono (by rw [hB]; exact h.size))
end Go.Proofs.Ytikhhcmfjncabaa
namespace Go.Proofs.Ytikhhcmfjncabaa
open Go.RowKit
def Bs (xs : List Nat) : List Value := xs.map fun x : Nat => Value.int .u8 (x : Int)
theorem Bs_length (xs : List Nat) : (Bs xs).length = xs.length := by simp [Bs]
theorem Bs_get (xs : List Nat) (j : Nat) (h : j < xs.length) : (Bs xs)[j]? = some (.int .u8 ((xs[j]?.getD 0 : Nat) : Int)) := by simp [Bs, h]
theorem Bs_app (xs ys : List Nat) : Bs (xs ++ ys) = Bs xs ++ Bs ys := by simp [Bs]
theorem Bs_one (xs : List Nat) : ∀ u ∈ Bs xs, u.oneCell' = true := by
  intro u hu
  obtain ⟨x, _, rfl⟩ := List.mem_map.1 hu
  rfl

def Byt (S : Nat → Prop) (w : World) (A : Option Addr) (xs : List Nat) : Prop :=
  0 < xs.length → ∃ a, A = some a ∧ S a.block ∧ ∀ j, j < xs.length → w.cell? (a.add j) = some (.int .u8 ((xs[j]?.getD 0 : Nat) : Int))

theorem addBlock (a : Addr) (n : Nat) : (a.add n).block = a.block := by
  unfold Addr.add
  by_cases h : n = 0 <;> simp [h]
theorem addAdd (a : Addr) (i j : Nat) : (a.add i).add j = a.add (i + j) := by
  unfold Addr.add
  by_cases hi : i = 0
  · simp [hi]
  · by_cases hj : j = 0
    · simp [hi, hj]
    · simp [hi, hj, Nat.add_assoc]

theorem Byt.nil (S : Nat → Prop) (w : World) (A : Option Addr) : Byt S w A [] := fun h => absurd h (by simp)
theorem Byt.keep {S : Nat → Prop} {w w' : World} {A : Option Addr} {xs : List Nat} (h : Byt S w A xs) (hk : ∀ b, S b → w'.heap[b]? = w.heap[b]?) : Byt S w' A xs := fun hn => by
  obtain ⟨a, e, hs, hc⟩ := h hn
  exact ⟨a, e, hs, fun j hj => (World.cell?_of_block (hk _ (by rw [addBlock]; exact hs))).trans (hc j hj)⟩
theorem Byt.wide {S T : Nat → Prop} {w : World} {A : Option Addr} {xs : List Nat} (h : Byt S w A xs) (hk : ∀ b, S b → T b) : Byt T w A xs := fun hn => by
  obtain ⟨a, e, hs, hc⟩ := h hn
  exact ⟨a, e, hk _ hs, hc⟩
theorem Byt.take {S : Nat → Prop} {w : World} {A : Option Addr} {xs : List Nat} (h : Byt S w A xs) (k : Nat) : Byt S w A (xs.take k) := fun hn => by
  have hl : (xs.take k).length ≤ xs.length := by simp; omega
  obtain ⟨a, e, hs, hc⟩ := h (by omega)
  refine ⟨a, e, hs, fun j hj => ?_⟩
  have hj' : j < k := by simp at hj; omega
  rw [hc j (by omega), List.getElem?_take_of_lt hj']
theorem Byt.drop {S : Nat → Prop} {w : World} {A : Option Addr} {xs : List Nat} (h : Byt S w A xs) (k : Nat) : Byt S w (A.map (·.add k)) (xs.drop k) := fun hn => by
  have hl : (xs.drop k).length = xs.length - k := by simp
  obtain ⟨a, e, hs, hc⟩ := h (by omega)
  refine ⟨a.add k, by rw [e]; rfl, by rw [addBlock]; exact hs, fun j hj => ?_⟩
  rw [addAdd, hc (k + j) (by omega), List.getElem?_drop]
theorem Byt.at {S : Nat → Prop} {w : World} {A : Option Addr} {xs : List Nat} (h : Byt S w A xs) {k : Nat} (hk : k < xs.length) :
    ∃ a, A = some a ∧ S a.block ∧ w.cell? (a.add k) = some (.int .u8 ((xs[k]?.getD 0 : Nat) : Int)) := by
  obtain ⟨a, e, hs, hc⟩ := h (by omega)
  exact ⟨a, e, hs, hc k hk⟩

theorem own_slice {w : World} {base n : Nat} {v : Value} {xs : List Nat} (h : w.ownsRow base 5 1 v n (Bs xs)) :
    ∃ A c, v = .slice A n c ∧ n = xs.length ∧ n ≤ c ∧ c ≤ maxLen ∧ Byt (fun b => base ≤ b ∧ b < w.heap.size) w A xs := by
  have hn : n = xs.length := by have := h.1; rw [Bs_length] at this; omega
  rcases h.2 with ⟨rfl, h0⟩ | ⟨g, cap, cur, rfl, hb, hg, hnc, hcm, _, _⟩
  · refine ⟨none, 0, by rw [h0], hn, by omega, by simp [maxLen], fun hpos => absurd hpos (by omega)⟩
  · refine ⟨some ⟨g, 0, none⟩, cap, rfl, hn, hnc, hcm, fun _ => ⟨⟨g, 0, none⟩, rfl, ⟨hb, (Array.getElem?_eq_some_iff.1 hg).1⟩, fun j hj => ?_⟩⟩
    exact h.cells rfl j _ (Bs_get xs j hj)

theorem u8_info : (Try.prog.info? 5).map (fun i => (i.zero, i.size, i.bytes)) = some (some (.int .u8 0), 1, 1) := by kernel_rfl

section
variable (w : World)
set_option maxRecDepth 100000 in
theorem run_append_bytes (base ty : Nat) (v : Value) (n : Nat) (xs : List Nat) (hown : w.ownsRow base 5 1 v n (Bs xs)) (A : Option Addr) (m c : Nat) (ys : List Nat) (hm : ys.length = m)
    (S : Nat → Prop) (hy : Byt S w A ys) (hbig : n + m ≤ 140737488355328) (hbase : base ≤ w.heap.size) :
    ∃ v' w', (Builtin.append_ #[62, 62] ty #[v, .slice A m c]).run Try.prog w = .ok v' w' ∧ w'.ownsRow base 5 1 v' (n + m) (Bs (xs ++ ys)) ∧ w.grownBy w' v.ownBlock ∧
      (v'.ownBlock = v.ownBlock ∨ v'.ownBlock = some w.heap.size) := by
  obtain ⟨i0, hi0, hz0, hz1, hz2⟩ := info_parts u8_info
  rw [Bs_app]
  rcases A with _ | a
  · have h0 : m = 0 := by
      rcases Nat.eq_zero_or_pos m with h | h
      · exact h
      · obtain ⟨a, h, _⟩ := hy (by omega)
        cases h
    subst h0
    obtain rfl : ys = [] := List.eq_nil_of_length_eq_zero hm
    refine ⟨v, w, ?_, by simpa [Bs] using hown, ⟨rfl, rfl, rfl, Nat.le_refl _, fun _ _ _ => rfl⟩, .inl rfl⟩
    have ht := run_underlying (P := Try.prog) (w := w) Try.underlying62
    rcases hown.2 with ⟨rfl, rfl⟩ | ⟨g, cap, cur, rfl, _, _, hnc, _⟩
    · simp [Builtin.append_, ht, sizeOf, typeInfo, hi0, Builtin.lenOf, Builtin.firstCells]
    · simp [Builtin.append_, ht, sizeOf, typeInfo, hi0, Builtin.lenOf, Builtin.firstCells, hnc, storeCells]
  · have hcells : ∀ j u, (Bs ys)[j]? = some u → w.cell? (a.add j) = some u := by
      intro j u hu
      have hj : j < ys.length := by
        rcases Nat.lt_or_ge j ys.length with h | h
        · exact h
        · rw [List.getElem?_eq_none (by rw [Bs_length]; omega)] at hu; cases hu
      obtain ⟨a', e, _, hc⟩ := hy (by omega)
      injection e with e
      subst e
      rw [hc j hj, ← hu, Bs_get ys j hj]
    obtain ⟨v', w', hrun, h2, h3, _, h5⟩ := run_append_own_at (P := Try.prog) w base 62 ty 5 i0 (.int .u8 0) 1 1 Try.underlying62 hi0 hz0 hz1 hz2 rfl (by omega) v n (Bs xs) hown a m c (Bs ys) (by rw [Bs_length]; omega) hcells (Bs_one ys)
      (by simp only [maxLen]; omega) (by omega) hbase
    exact ⟨v', w', hrun, h2, h3, h5⟩

theorem walk_append {ops : Array Oper} {rest : List Oper} {o : Oper} {a : Act} {Q : Exit → Act → World → Prop} (hgd : o.guard = none) (s x : Operand)
    (ho : o.op = .call { callee := .builtin .append, args := #[s, x], argTypes := #[62, 62] })
    (base : Nat) (v : Value) (n : Nat) (xs : List Nat) (hs : a.eval s = v) (hown : w.ownsRow base 5 1 v n (Bs xs)) (A : Option Addr) (m c : Nat) (ys : List Nat) (hx : a.eval x = .slice A m c) (hm : ys.length = m)
    (S : Nat → Prop) (hy : Byt S w A ys) (hbig : n + m ≤ 140737488355328) (hbase : base ≤ w.heap.size)
    (h : ∀ v' w', w'.ownsRow base 5 1 v' (n + m) (Bs (xs ++ ys)) → w.grownBy w' v.ownBlock → (v'.ownBlock = v.ownBlock ∨ v'.ownBlock = some w.heap.size) → wpList Try.prog ops Q rest (a.put o.dst v') w') :
    wpList Try.prog ops Q (o :: rest) a w := by
  refine wpList_plain hgd fun _ hK => ?_
  obtain ⟨v', w', hrun, h2, h3, h4⟩ := run_append_bytes w base o.type v n xs hown A m c ys hm S hy hbig hbase
  unfold Oper.wp execOp
  simp only [ho, resolve, invoke, builtin, Sem.run_bind, Sem.run_pure, Result.andThen_ok, List.map_toArray, List.map_cons, List.map_nil, hs, hx, hrun]
  exact hK _ _ (h v' w' h2 h3 h4)
end

def Blk (w : World) (g : Nat) (t : TypeId) (cs : Array Value) : Prop := w.heap[g]? = some (.cells cs t (0, 0))
theorem Blk.lt {w : World} {g : Nat} {t : TypeId} {cs : Array Value} (h : Blk w g t cs) : g < w.heap.size := (Array.getElem?_eq_some_iff.1 h).1
theorem Blk.cell {w : World} {g : Nat} {t : TypeId} {cs : Array Value} (h : Blk w g t cs) (i : Nat) : w.cell? ⟨g, i, none⟩ = cs[i]? := cell_of_row w g i cs t (0, 0) h
theorem Blk.frozen {w : World} {g : Nat} {t : TypeId} {cs : Array Value} (h : Blk w g t cs) (i : Nat) : w.frozen? ⟨g, i, none⟩ = false := by
  unfold Blk at h
  simp [World.frozen?, h]
theorem Blk.set {w : World} {g : Nat} {t : TypeId} {cs : Array Value} (h : Blk w g t cs) (i : Nat) (u : Value) : Blk (w.setCell ⟨g, i, none⟩ u) g t (cs.setIfInBounds i u) := by
  unfold Blk at h ⊢
  simp [World.setCell, Array.getElem?_modify, h]


theorem ret_int {k : IntKind} {a b : Int} (h : a = b) : Ending.returned (.int k a) = .returned (.int k b) := by rw [h]
def Only (g : Nat) (w w' : World) : Prop := w.grownBy w' (some g)

theorem byt_one (w : World) (z : Int) (x : Nat) (h : z = (x : Int)) : Byt (· = w.heap.size) (w.alloc (.cells #[.int .u8 z] 5)) (some ⟨w.heap.size, 0, none⟩) [x] := fun _ =>
  ⟨_, rfl, rfl, fun j hj => by
    obtain rfl : j = 0 := by simp at hj; omega
    subst h
    exact cell_one_new _ _ _ 0 _ rfl⟩
theorem own_below {w w' : World} {base B : Nat} {v : Value} {n : Nat} {xs : List Value} (h : w.ownsRow base 5 1 v n xs) (hb : Below B w w') (hB : w.heap.size ≤ B) : w'.ownsRow base 5 1 v n xs :=
  h.kept (w' := w') (row := none) ⟨hb.os, hb.tape, hb.output, hb.size, fun k hk _ => hb.block k (by omega)⟩ (by cases v.ownBlock <;> simp)

theorem Byt.below {B B' : Nat} {w w' : World} {A : Option Addr} {xs : List Nat} (h : Byt (· < B) w A xs) (hb : Below B' w w') (hB : B ≤ B') : Byt (· < B) w' A xs := h.keep fun b h1 => hb.block b (Nat.lt_of_lt_of_le h1 hB)

def IsRow (k : IntKind) (w : World) (a : Option Addr) (len cap : Nat) (zs : List Int) : Prop :=
  (a = none ∧ len = 0 ∧ cap = 0 ∧ zs = []) ∨
  ∃ x, a = some x ∧ len ≤ cap ∧ cap ≤ maxLen ∧ zs.length = cap ∧ (∀ i, i < zs.length → w.cell? (x.add i) = some (.int k (zs.getD i 0))) ∧ ∀ n ∈ zs, (Lit.int k n).wf = true

end Go.Proofs.Ytikhhcmfjncabaa
namespace Go.Proofs.Ytikhhcmfjncabaa
open Go.ChangeShapes Go.WideShapes Go.ChangeAt Go.RowKit

theorem own : ownKnob Try.prog.godebug = none := by kernel_rfl
theorem laidOut : laidOutB Try.prog = true := by kernel_rfl

end Go.Proofs.Ytikhhcmfjncabaa
namespace Go.Proofs.Ytikhhcmfjncabaa

def vb (v : Nat) : List Nat := if v < 128 then [v] else (v % 128 + 128) :: vb (v / 128)
termination_by v
decreasing_by omega

theorem vb_small (v : Nat) (h : v < 128) : vb v = [v] := by rw [vb, if_pos h]
theorem vb_big (v : Nat) (h : ¬ v < 128) : vb v = (v % 128 + 128) :: vb (v / 128) := by rw [vb, if_neg h]

theorem vb_pos (v : Nat) : 0 < (vb v).length := by
  by_cases h : v < 128
  · rw [vb_small v h]; simp
  · rw [vb_big v h]; simp

theorem vb_len (k : Nat) : ∀ v, v < 128 ^ (k + 1) → (vb v).length ≤ k + 1 := by
  induction k with
  | zero => intro v hv; rw [vb_small v (by simpa using hv)]; simp
  | succ k ih =>
    intro v hv
    by_cases h : v < 128
    · rw [vb_small v h]; simp
    · rw [vb_big v h, List.length_cons]
      have : v / 128 < 128 ^ (k + 1) := Nat.div_lt_of_lt_mul (by rw [Nat.pow_succ] at hv; omega)
      have := ih _ this
      omega

def sv : List Nat → Nat
  | [] => 0
  | x :: r => x % 128 + 128 * sv r

def B64 : Nat := 18446744073709551616

def IsVar (xs : List Nat) (v n : Nat) : Prop := n ≤ xs.length ∧ xs.take n = vb v ∧ v < B64

theorem IsVar.len {xs : List Nat} {v n : Nat} (h : IsVar xs v n) : n = (vb v).length := by
  rw [← h.2.1, List.length_take]; have := h.1; omega
theorem IsVar.pos {xs : List Nat} {v n : Nat} (h : IsVar xs v n) : 0 < n := by rw [h.len]; exact vb_pos v
def More (xs : List Nat) (i : Nat) : Prop := i ≤ xs.length ∧ ∀ j, j < i → 128 ≤ xs[j]?.getD 0

theorem More.zero (xs : List Nat) : More xs 0 := ⟨Nat.zero_le _, fun j hj => absurd hj (by omega)⟩
theorem More.succ {xs : List Nat} {i : Nat} (h : More xs i) (hi : i < xs.length) (hx : 128 ≤ xs[i]?.getD 0) : More xs (i + 1) :=
  ⟨hi, fun j hj => by rcases Nat.lt_or_ge j i with hji | hji; exact h.2 j hji; obtain rfl : j = i := by omega
                      exact hx⟩
end Go.Proofs.Ytikhhcmfjncabaa
namespace Go.Proofs.Ytikhhcmfjncabaa

def argN (op : Int) : Int :=
  if op = 29 ∨ op = 30 then 2
  else if op = 0 ∨ op = 1 ∨ op = 3 ∨ op = 4 ∨ op = 23 ∨ op = 24 ∨ op = 25 ∨ op = 27 ∨ op = 28 then 1
  else if op < 0 ∨ 42 ≤ op then -1 else 0

theorem argN_cases (op : Int) : argN op = -1 ∨ argN op = 0 ∨ argN op = 1 ∨ argN op = 2 := by
  unfold argN
  repeat' split
  all_goals simp

theorem argN_op (op : Int) (h : 0 ≤ argN op) : 0 ≤ op ∧ op < 42 := by
  unfold argN at h
  repeat' split at h
  all_goals omega

def fitN (n a b : Int) : Bool := decide (0 ≤ a ∧ a ≤ (if 0 < n then 255 else 0) ∧ 0 ≤ b ∧ b ≤ (if 1 < n then 255 else 0))
def goodI (op a b : Int) : Bool := decide (0 ≤ argN op) && fitN (argN op) a b

def bodyB (n : Int) (a b : Nat) : List Nat := (if 0 < n then vb a else []) ++ (if 1 < n then vb b else [])
def insB (op a b : Int) : List Nat := if goodI op a b = true then op.toNat :: bodyB (argN op) a.toNat b.toNat else []

theorem goodI_parts {op a b : Int} (h : goodI op a b = true) : ∃ o x y : Nat, op = (o : Int) ∧ a = (x : Int) ∧ b = (y : Int) ∧ o < 42 ∧ x ≤ 255 ∧ y ≤ 255 ∧ 0 ≤ argN op ∧ (¬ 0 < argN op → x = 0) ∧ (¬ 1 < argN op → y = 0) := by
  unfold goodI fitN at h
  simp only [Bool.and_eq_true, decide_eq_true_eq] at h
  obtain ⟨h0, h1, h2, h3, h4⟩ := h
  have := argN_op op h0
  refine ⟨op.toNat, a.toNat, b.toNat, by omega, by omega, by omega, by omega, ?_, ?_, h0, fun hn => ?_, fun hn => ?_⟩
  · split at h2 <;> omega
  · split at h4 <;> omega
  · rw [if_neg hn] at h2; omega
  · rw [if_neg hn] at h4; omega

theorem insB_good {o x y : Nat} (h : goodI o x y = true) : insB o x y = o :: bodyB (argN o) x y := by
  unfold insB
  rw [if_pos h]
  simp
theorem insB_none {op a b : Int} (h : ¬ goodI op a b = true) : insB op a b = [] := by
  unfold insB
  rw [if_neg h]

theorem vb255 (x : Nat) (h : x ≤ 255) : (vb x).length ≤ 2 := vb_len 1 x (by omega)
theorem bodyB_len (n : Int) (x y : Nat) (hx : x ≤ 255) (hy : y ≤ 255) : (bodyB n x y).length ≤ 4 := by
  have h1 := vb255 x hx
  have h2 := vb255 y hy
  unfold bodyB
  split <;> split <;> simp <;> omega
theorem insB_len (op a b : Int) : (insB op a b).length ≤ 5 := by
  by_cases h : goodI op a b = true
  · obtain ⟨o, x, y, rfl, rfl, rfl, _, hx, hy, _⟩ := goodI_parts h
    rw [insB_good h]
    have := bodyB_len (argN o) x y hx hy
    simp
    omega
  · rw [insB_none h]; simp
theorem insB_pos {op a b : Int} (h : goodI op a b = true) : 0 < (insB op a b).length := by
  obtain ⟨o, x, y, rfl, rfl, rfl, ho, hx, hy, _⟩ := goodI_parts h
  rw [insB_good h]
  simp

def HasI (xs : List Nat) : Prop := ∃ (o x y : Nat) (rest : List Nat), goodI o x y = true ∧ xs = insB o x y ++ rest
end Go.Proofs.Ytikhhcmfjncabaa
namespace Go.Proofs.Ytikhhcmfjncabaa

end Go.Proofs.Ytikhhcmfjncabaa
namespace Go.Proofs.Ytikhhcmfjncabaa

def pt (x : List Nat) : List Nat := vb x.length ++ x
def pts (xss : List (List Nat)) : List Nat := (xss.map pt).flatten
def joinB (xss : List (List Nat)) : List Nat := vb xss.length ++ pts xss

theorem pts_cons (x : List Nat) (r : List (List Nat)) : pts (x :: r) = pt x ++ pts r := by simp [pts]
theorem pts_app (a b : List (List Nat)) : pts (a ++ b) = pts a ++ pts b := by simp [pts]
theorem pts_snoc (a : List (List Nat)) (x : List Nat) : pts (a ++ [x]) = pts a ++ pt x := by simp [pts]
theorem pt_length (x : List Nat) : (pt x).length = (vb x.length).length + x.length := by simp [pt]
theorem pts_take (xss : List (List Nat)) (k : Nat) (h : k < xss.length) : pts (xss.take (k + 1)) = pts (xss.take k) ++ pt (xss[k]?.getD []) := by
  rw [List.take_succ_eq_append_getElem h, pts_snoc]
  simp [h]
theorem pts_le (xss : List (List Nat)) (k : Nat) : (pts (xss.take k)).length ≤ (pts xss).length := by
  conv => rhs; rw [← List.take_append_drop k xss, pts_app, List.length_append]
  omega
theorem pts_many (xss : List (List Nat)) : xss.length ≤ (pts xss).length := by
  induction xss with
  | nil => simp
  | cons x r ih =>
    rw [pts_cons, List.length_append, pt_length, List.length_cons]
    have := vb_pos x.length
    omega
theorem pts_bound (xss : List (List Nat)) (M : Nat) (hM : M < B64) (h : ∀ j, j < xss.length → (xss[j]?.getD []).length ≤ M) : (pts xss).length ≤ xss.length * (10 + M) := by
  induction xss with
  | nil => simp [pts]
  | cons x r ih =>
    have h0 := h 0 (by simp)
    simp at h0
    have h1 := ih fun j hj => by have := h (j + 1) (by simp; omega); simpa using this
    have h2 := vb_len 9 x.length (by unfold B64 at hM; omega)
    rw [pts_cons, List.length_append, pt_length, List.length_cons, Nat.add_mul]
    omega
theorem joinB_length (xss : List (List Nat)) : (joinB xss).length = (vb xss.length).length + (pts xss).length := by simp [joinB]
theorem joinB_bound (xss : List (List Nat)) (M : Nat) (hM : M < B64) (hn : xss.length < B64) (h : ∀ j, j < xss.length → (xss[j]?.getD []).length ≤ M) : (joinB xss).length ≤ 10 + xss.length * (10 + M) := by
  have h1 := pts_bound xss M hM h
  have h2 := vb_len 9 xss.length (by unfold B64 at hn; omega)
  rw [joinB_length]
  omega

def HasPart (rest : List Nat) (m j : Nat) : Prop := IsVar rest m j ∧ j + m ≤ rest.length
def Body (bs : List Nat) (n : Nat) (xss : List (List Nat)) : Prop := xss.length = n ∧ bs = pts xss
def IsJoin (xs : List Nat) (most : Int) (xss : List (List Nat)) : Prop := xs = joinB xss ∧ (xss.length : Int) ≤ most
end Go.Proofs.Ytikhhcmfjncabaa
namespace Go.Proofs.Ytikhhcmfjncabaa

def refB (k : Int) : Bool := k == 2 || k == 3 || k == 4 || k == 6 || k == 7
def goodB (k n r : Int) : Bool := if k = 1 ∨ k = 2 ∨ k = 3 ∨ k = 7 then n == 0 else if k = 4 then decide (0 ≤ n ∧ n < r) else if k = 5 then decide (0 ≤ n ∧ n < 4) else false
def subB (a b c d : Int) : Bool := (a == c && b == d) || c == 8 || (refB a && refB c && (a == 6 || c == 7))
def joinK (a b c d : Int) : Int := if subB a b c d then c else if subB c d a b then a else if refB a && refB c then 7 else 8
def joinN (a b c d : Int) : Int := if subB a b c d then d else if subB c d a b then b else 0
end Go.Proofs.Ytikhhcmfjncabaa
namespace Go.Proofs.Ytikhhcmfjncabaa
open Go.RowKit

theorem or128 (u : Nat) : bits .or .u8 ((u : Int) % 256) 128 = ((u % 128 + 128 : Nat) : Int) := by
  have h := u8_or_nat (u % 256) 128 (by omega) (by omega)
  have h3 : (u % 256) ||| 128 = u % 128 + 128 := by
    have e : u % 256 = u % 128 ∨ u % 256 = 128 + u % 128 := by omega
    have j : 128 ||| u % 128 = 128 + u % 128 := nat_join 7 128 (u % 128) (by omega) (by omega)
    rcases e with e | e
    · rw [e, Nat.or_comm, j]; omega
    · rw [e, ← j, Nat.or_assoc, Nat.or_comm (u % 128), ← Nat.or_assoc, Nat.or_self, j]; omega
  rw [h3] at h
  rw [← h]
  congr 1

set_option maxHeartbeats 1000000 in
theorem var_any (v : Nat) (w : World) (hv : v < B64) :
    Calls Try.prog 81 #[.int .u64 (v : Nat)] w fun e w' => ∃ u, e = .returned u ∧ w'.ownsRow w.heap.size 5 1 u (vb v).length (Bs (vb v)) ∧ Below w.heap.size w w' := by
  have HV0 := hv
  go_enter Try.func81, Try.ntmps81
  go_wp2
  go_loopw [0, 3] (fun x o wr => ∃ (u : Nat) (pre : List Nat), x = .int .u64 (u : Nat) ∧ wr.ownsRow w.heap.size 5 1 o pre.length (Bs pre) ∧ vb v = pre ++ vb u ∧ u < B64 ∧ Below w.heap.size w wr) (fun x _ _ => (intOf x).toNat)
  case atStart => exact ⟨v, [], rfl, World.ownsRow_nil _ _ _ _, by simp, hv, Below.refl _ _⟩
  case round =>
    obtain ⟨u, pre, rfl, hown, hvb, hu, hbel⟩ := hrel
    have HV := Lib.hid hvb
    have HO := Lib.hid hown
    have HU := Lib.hid hu
    clear hvb hown hu hv
    have hlen : pre.length + (vb u).length ≤ 10 := by
      have h1 := vb_len 9 v (by unfold B64 at HV0; omega)
      rw [HV.out] at h1
      simpa using h1
    have hpos := vb_pos u
    by_cases hlt : u < 128
    · have h1 : (decide ((128 : Int) ≤ (u : Int))) = false := by simp; omega
      go_wp2_with (at_builtin
                   refine walk_append _ rfl (.tmp 14) (.tmp 17) rfl w.heap.size u3 pre.length pre rfl (HO.out.alloc _) (some ⟨wr.heap.size, 0, none⟩) 1 1 [u] rfl rfl (· = wr.heap.size) (byt_one wr _ u rfl) (by omega) (by have := hbel.size; simp; omega) ?_
                   intro v1 w1 hown1 hg1 _)
      go_ret
      refine ⟨v1, rfl, ?_, (hbel.alloc hbel.size _).grown hg1 (by have := hbel.size; simp; omega) (fun k hk => (HO.out.lt k hk).1)⟩
      rw [HV.out, vb_small u hlt]
      simpa using hown1
    · have h1 : (decide ((128 : Int) ≤ (u : Int))) = true := by simp; omega
      go_wp2_with (at_builtin
                   refine walk_append _ rfl (.tmp 6) (.tmp 10) rfl w.heap.size u3 pre.length pre rfl (HO.out.alloc _) (some ⟨wr.heap.size, 0, none⟩) 1 1 [u % 128 + 128] rfl rfl (· = wr.heap.size) (byt_one wr _ (u % 128 + 128) (or128 u)) (by omega) (by have := hbel.size; simp; omega) ?_
                   intro v1 w1 hown1 hg1 _)
      go_roundw
      case rel =>
        refine ⟨u / 128, pre ++ [u % 128 + 128], by simp, by simpa using hown1, ?_, by have := HU.out; omega, (hbel.alloc hbel.size _).grown hg1 (by have := hbel.size; simp; omega) (fun k hk => (HO.out.lt k hk).1)⟩
        rw [HV.out, vb_big u hlt]
        simp
      case measure => simp [intOf]; omega
end Go.Proofs.Ytikhhcmfjncabaa
namespace Go.Proofs.Ytikhhcmfjncabaa
open Go.RowKit

theorem step_append (w : World) {ops : Array Oper} {o : Oper} {a : Act} {K : Act → World → Prop} {Q : Exit → Act → World → Prop} {E : Prop} (hgd : o.guard = none) (s x : Operand)
    (ho : o.op = .call { callee := .builtin .append, args := #[s, x], argTypes := #[62, 62] })
    (base : Nat) (v : Value) (n : Nat) (xs : List Nat) (hs : a.eval s = v) (hown : w.ownsRow base 5 1 v n (Bs xs)) (A : Option Addr) (m c : Nat) (ys : List Nat) (hx : a.eval x = .slice A m c) (hm : ys.length = m)
    (S : Nat → Prop) (hy : Byt S w A ys) (hbig : n + m ≤ 140737488355328) (hbase : base ≤ w.heap.size)
    (h : ∀ v' w', w'.ownsRow base 5 1 v' (n + m) (Bs (xs ++ ys)) → w.grownBy w' v.ownBlock → (v'.ownBlock = v.ownBlock ∨ v'.ownBlock = some w.heap.size) → K (a.put o.dst v') w') :
    if Region.wanted o (yielded ops a.tmps) = true then Oper.wp Try.prog o a w K Q else E := by
  have hw : Region.wanted o (yielded ops a.tmps) = true := by simp [Region.wanted, hgd]
  rw [if_pos hw]
  obtain ⟨v', w', hrun, h2, h3, h4⟩ := run_append_bytes w base o.type v n xs hown A m c ys hm S hy hbig hbase
  unfold Oper.wp execOp
  simp only [ho, resolve, invoke, builtin, Sem.run_bind, Sem.run_pure, Result.andThen_ok, List.map_toArray, List.map_cons, List.map_nil, hs, hx, hrun]
  exact h v' w' h2 h3 h4

theorem step_is (s x : Operand) (t : TypeId) {d : Option Tmp} {ty : TypeId} {p : String} {af : Array Edge} {g : Option (Nat × Bool)} {y : Nat → Option Bool} {inst : Decidable (Region.wanted ⟨d, .call ⟨.builtin .append, #[s, x], #[t, t]⟩, ty, p, af, g⟩ y = true)} {W E : Prop}
    (h : @ite Prop (Region.wanted ⟨d, .call ⟨.builtin .append, #[s, x], #[t, t]⟩, ty, p, af, g⟩ y = true) inst W E) : @ite Prop (Region.wanted ⟨d, .call ⟨.builtin .append, #[s, x], #[t, t]⟩, ty, p, af, g⟩ y = true) inst W E := h
theorem step_call (f : Nat) {d : Option Tmp} {ar : Array Operand} {at' : Array TypeId} {ty : TypeId} {p : String} {af : Array Edge} {g : Option (Nat × Bool)} {y : Nat → Option Bool} {inst : Decidable (Region.wanted ⟨d, .call ⟨.value (.func f), ar, at'⟩, ty, p, af, g⟩ y = true)} {W E : Prop}
    (h : @ite Prop (Region.wanted ⟨d, .call ⟨.value (.func f), ar, at'⟩, ty, p, af, g⟩ y = true) inst W E) : @ite Prop (Region.wanted ⟨d, .call ⟨.value (.func f), ar, at'⟩, ty, p, af, g⟩ y = true) inst W E := h
end Go.Proofs.Ytikhhcmfjncabaa
namespace Go.Proofs.Ytikhhcmfjncabaa
open Go.RowKit

theorem wp_world {P : Program} {c : Code} {Q : Exit → Act → World → Prop} {a : Act} {w : World} (h : ∀ W, W = w → c.wp P Q a W) : c.wp P Q a w := h w rfl

theorem bcell {W w1 : World} (hb : Below W.heap.size W w1) : (∀ b o, b < W.heap.size → w1.cell? ⟨b, o, none⟩ = W.cell? ⟨b, o, none⟩) ∧ (∀ b o, b < W.heap.size → w1.frozen? ⟨b, o, none⟩ = W.frozen? ⟨b, o, none⟩) :=
  ⟨fun b o h => hb.cell (p := ⟨b, o, none⟩) h, fun b o h => hb.frozen (p := ⟨b, o, none⟩) h⟩
theorem calls_world {P : Program} {F : Nat} {args : Array Value} {w : World} {Q : Ending → World → Prop} (h : ∀ W, W = w → Calls P F args W Q) : Calls P F args w Q := h w rfl
end Go.Proofs.Ytikhhcmfjncabaa
namespace Go.Proofs.Ytikhhcmfjncabaa
open Go.RowKit

theorem own_wide {w : World} {b b' : Nat} {v : Value} {n : Nat} {xs : List Value} (h : w.ownsRow b 5 1 v n xs) (hb : b' ≤ b) : w.ownsRow b' 5 1 v n xs := by
  refine ⟨h.1, ?_⟩
  rcases h.2 with h | ⟨g', cap, cur, e, hb2, rest⟩
  · exact .inl h
  · exact .inr ⟨g', cap, cur, e, Nat.le_trans hb hb2, rest⟩
theorem own_nil (w : World) (b : Nat) : w.ownsRow b 5 1 (.slice none 0 0) 0 (Bs []) := ⟨rfl, .inl ⟨rfl, rfl⟩⟩
theorem blk_new (w : World) (t : TypeId) (cs : Array Value) : Blk (w.alloc (.cells cs t)) w.heap.size t cs := heap_alloc_new w _
end Go.Proofs.Ytikhhcmfjncabaa
namespace Go.Proofs.Ytikhhcmfjncabaa
open Go.RowKit

def typB (k n : Int) : List Nat := vb k.toNat ++ vb n.toNat

theorem typB_len (k n : Int) (hk : k ≤ 9223372036854775807) (hn : n ≤ 9223372036854775807) : (typB k n).length ≤ 20 := by
  have h1 := vb_len 9 k.toNat (by simp; omega)
  have h2 := vb_len 9 n.toNat (by simp; omega)
  simp [typB]
  omega


theorem putNumber_any (n : Int) (w : World) (h : -9223372036854775808 ≤ n ∧ n ≤ 9223372036854775807) :
    Calls Try.prog 90 #[.int .i64 n] w fun e w' => ∃ u, e = .returned u ∧ w'.ownsRow w.heap.size 5 1 u (vb n.toNat).length (Bs (vb n.toNat)) ∧ Below w.heap.size w w' := by
  by_cases h0 : 0 ≤ n
  · obtain ⟨m, rfl⟩ : ∃ m : Nat, n = (m : Int) := ⟨n.toNat, by omega⟩
    have hm : m < B64 := by unfold B64; omega
    go_enter Try.func90, Try.ntmps90
    go_wp2_with (first | (go_at_call 81; refine (var_any m _ hm).mono ?_; rintro e w1 ⟨u, rfl, hown, hb⟩))
    go_ret
    exact ⟨_, rfl, hown, hb⟩
  · go_enter Try.func90, Try.ntmps90
    go_wp2_with (first | (go_at_call 81; refine (var_any 0 _ (by decide)).mono ?_; rintro e w1 ⟨u, rfl, hown, hb⟩))
    go_ret
    have e : n.toNat = 0 := by omega
    rw [e]
    exact ⟨_, rfl, hown, hb⟩

set_option maxHeartbeats 1000000 in
theorem kput (k n : Int) (w : World) (hk : -9223372036854775808 ≤ k ∧ k ≤ 9223372036854775807) (hn : -9223372036854775808 ≤ n ∧ n ≤ 9223372036854775807) :
    Calls Try.prog 83 #[.agg #[.int .i64 k, .int .i64 n]] w fun e w' => ∃ u, e = .returned u ∧ w'.ownsRow w.heap.size 5 1 u (typB k n).length (Bs (typB k n)) ∧ Below w.heap.size w w' := by
  have PK := Lib.hid (fun w => putNumber_any k w hk)
  have PN := Lib.hid (fun w => putNumber_any n w hn)
  have hl : (vb k.toNat).length + (vb n.toNat).length ≤ 140737488355328 := by
    have := typB_len k n hk.2 hn.2
    simp [typB] at this
    omega
  clear hk hn
  go_enter Try.func83, Try.ntmps83
  go_wp2_with fail
  refine wp_world fun W hW => ?_
  have c0 : W.cell? ⟨w.heap.size, 0, none⟩ = some (.int .i64 k) := by rw [hW]; simp [go_sem]
  have c1 : W.cell? ⟨w.heap.size, 1, none⟩ = some (.int .i64 n) := by rw [hW]; simp [go_sem]
  have HB0 : Hid (Below w.heap.size w W) := by
    show Below w.heap.size w W
    rw [hW]
    exact (Below.refl _ _).alloc (Nat.le_refl _) _
  have hs : w.heap.size < W.heap.size := by rw [hW]; simp
  clear hW
  have C1 := Lib.hid c1
  go_region_law (first
    | (with_reducible refine step_is (.tmp 5) (.tmp 8) 62 ?_
       refine step_append _ rfl (.tmp 5) (.tmp 8) rfl W.heap.size u1 (vb k.toNat).length (vb k.toNat) rfl HO1.out A2 (vb n.toNat).length c2 (vb n.toNat) rfl rfl _ HY2.out hl HS2.out ?_
       intro v3 w3 hown3 hg3 _
       have HO3 := Lib.hid hown3
       have HB3 := Lib.hid (HB2.out.grown hg3 HS2.out (fun i hi => (HO1.out.lt i hi).1))
       clear hown3 hg3)
    | (with_reducible refine step_call 90 ?_
       go_simp
       go_at_call 90
       with_reducible refine (PK.out _).mono ?_
       rintro e w1 ⟨u1, rfl, hown1, hb1⟩
       have HP1 := Lib.hid hown1
       have HB1 := Lib.hid (hb1.mono (Nat.le_refl W.heap.size))
       have hcell1 : w1.cell? ⟨w.heap.size, 1, none⟩ = some (.int .i64 n) := (hb1.cell (p := ⟨w.heap.size, 1, none⟩) hs).trans C1.out
       clear hown1 hb1)
    | (with_reducible refine step_call 90 ?_
       go_simp
       go_at_call 90
       with_reducible refine (PN.out _).mono ?_
       rintro e w2 ⟨u2, rfl, hown2, hb2⟩
       obtain ⟨A2, c2, rfl, -, -, -, hY2⟩ := own_slice hown2
       have HY2 := Lib.hid hY2
       have HB2 := Lib.hid (HB1.out.trans (hb2.mono HB1.out.size))
       have HO1 := Lib.hid (own_below HP1.out hb2 (Nat.le_refl _))
       have HS2 := Lib.hid HB2.out.size
       clear hown2 hY2 hb2))
  all_goals
    go_wp2_with fail
    go_ret
    refine ⟨_, rfl, ?_, HB0.out.drew.trans (HB3.out.mono HB0.out.size)⟩
    rw [show (typB k n).length = (vb k.toNat).length + (vb n.toNat).length by simp [typB]]
    exact own_wide HO3.out HB0.out.size
end Go.Proofs.Ytikhhcmfjncabaa
namespace Go.Proofs.Ytikhhcmfjncabaa
open Go.RowKit

abbrev Ins := Int × Int × Int
def i3 (t : Ins) : List Value := [.int .i64 t.1, .int .i64 t.2.1, .int .i64 t.2.2]
def I3 : List Ins → List Value
  | [] => []
  | t :: ts => i3 t ++ I3 ts
theorem I3_app (ts us : List Ins) : I3 (ts ++ us) = I3 ts ++ I3 us := by
  induction ts with
  | nil => rfl
  | cons t ts ih => simp [I3, ih]
theorem I3_length (ts : List Ins) : (I3 ts).length = ts.length * 3 := by
  induction ts with
  | nil => rfl
  | cons t ts ih => simp [I3, i3, ih]; omega
theorem I3_get (ts : List Ins) (j i : Nat) (hj : j < ts.length) (hi : i < 3) : (I3 ts)[j * 3 + i]? = (i3 (ts[j]?.getD (0, 0, 0)))[i]? := by
  induction ts generalizing j with
  | nil => simp at hj
  | cons t ts ih =>
    cases j with
    | zero =>
      have : i < (i3 t).length := by simp [i3]; exact hi
      simp [I3, List.getElem?_append_left this]
    | succ j =>
      have hl : (i3 t).length = 3 := rfl
      rw [I3, List.getElem?_append_right (by rw [hl]; omega), hl, show (j + 1) * 3 + i - 3 = j * 3 + i by omega, ih j (by simpa using hj)]
      simp

def Iss (S : Nat → Prop) (w : World) (A : Option Addr) (ts : List Ins) : Prop :=
  0 < ts.length → ∃ a, A = some a ∧ S a.block ∧ ∀ j, j < ts.length →
    w.cell? (a.add (j * 3)) = some (.int .i64 (ts[j]?.getD (0, 0, 0)).1) ∧ w.cell? (a.add (j * 3 + 1)) = some (.int .i64 (ts[j]?.getD (0, 0, 0)).2.1) ∧ w.cell? (a.add (j * 3 + 2)) = some (.int .i64 (ts[j]?.getD (0, 0, 0)).2.2)
theorem Iss.nil (S : Nat → Prop) (w : World) (A : Option Addr) : Iss S w A [] := fun h => absurd h (by simp)
theorem Iss.keep {S : Nat → Prop} {w w' : World} {A : Option Addr} {ts : List Ins} (h : Iss S w A ts) (hk : ∀ b, S b → w'.heap[b]? = w.heap[b]?) : Iss S w' A ts := fun hn => by
  obtain ⟨a, e, hs, hc⟩ := h hn
  refine ⟨a, e, hs, fun j hj => ?_⟩
  obtain ⟨h0, h1, h2⟩ := hc j hj
  exact ⟨(World.cell?_of_block (hk _ (by rw [addBlock]; exact hs))).trans h0, (World.cell?_of_block (hk _ (by rw [addBlock]; exact hs))).trans h1, (World.cell?_of_block (hk _ (by rw [addBlock]; exact hs))).trans h2⟩
theorem Iss.wide {S T : Nat → Prop} {w : World} {A : Option Addr} {ts : List Ins} (h : Iss S w A ts) (hk : ∀ b, S b → T b) : Iss T w A ts := fun hn => by
  obtain ⟨a, e, hs, hc⟩ := h hn
  exact ⟨a, e, hk _ hs, hc⟩
theorem Iss.below {B B' : Nat} {w w' : World} {A : Option Addr} {ts : List Ins} (h : Iss (· < B) w A ts) (hb : Below B' w w') (hB : B ≤ B') : Iss (· < B) w' A ts := h.keep fun b h1 => hb.block b (Nat.lt_of_lt_of_le h1 hB)
theorem Iss.at {S : Nat → Prop} {w : World} {A : Option Addr} {ts : List Ins} (h : Iss S w A ts) {k : Nat} (hk : k < ts.length) :
    ∃ a, A = some a ∧ S a.block ∧ w.cell? (a.add (k * 3)) = some (.int .i64 (ts[k]?.getD (0, 0, 0)).1) ∧ w.cell? (a.add (k * 3 + 1)) = some (.int .i64 (ts[k]?.getD (0, 0, 0)).2.1) ∧ w.cell? (a.add (k * 3 + 2)) = some (.int .i64 (ts[k]?.getD (0, 0, 0)).2.2) := by
  obtain ⟨a, e, hs, hc⟩ := h (by omega)
  exact ⟨a, e, hs, hc k hk⟩

theorem ins_info : (Try.prog.info? 29).map (fun i => (i.zero, i.size, i.bytes)) = some (some (.agg #[.int .i64 0, .int .i64 0, .int .i64 0]), 3, 24) := by kernel_rfl

end Go.Proofs.Ytikhhcmfjncabaa
namespace Go.Proofs.Ytikhhcmfjncabaa
def le : List Nat → Nat
  | [] => 0
  | x :: xs => x + 256 * le xs
def fb (v m : Nat) : List Nat := (List.range m).map fun j => v / 256 ^ j % 256
theorem fb_length (v m : Nat) : (fb v m).length = m := by simp [fb]
def wid (n : Int) : Nat := min n.toNat 8
theorem wid_le (n : Int) : wid n ≤ 8 := by unfold wid; omega
end Go.Proofs.Ytikhhcmfjncabaa
namespace Go.Proofs.Ytikhhcmfjncabaa
open Go.RowKit
set_option maxHeartbeats 400000 in
theorem width_any (n : Int) (w : World) : Calls Try.prog 94 #[.int .i64 n] w fun e w' => e = .returned (.int .i64 (wid n : Nat)) ∧ w = w' := by
  go_enter Try.func94, Try.ntmps94
  go_wp2
  all_goals
    go_ret
    exact ⟨ret_int (by unfold wid; omega), rfl⟩
end Go.Proofs.Ytikhhcmfjncabaa
namespace Go.Proofs.Ytikhhcmfjncabaa
open Go.RowKit
def fz (v m i : Nat) : List Nat := (List.range m).map fun j => if j < i then v / 256 ^ j % 256 else 0
theorem fz_length (v m i : Nat) : (fz v m i).length = m := by simp [fz]
theorem fz_all (v m : Nat) : fz v m m = fb v m := by
  unfold fz fb
  refine List.map_congr_left fun j hj => ?_
  rw [if_pos (List.mem_range.1 hj)]
theorem fz_zero (v m : Nat) : Bs (fz v m 0) = List.replicate m (.int .u8 0) := by
  unfold Bs fz
  rw [List.eq_replicate_iff]
  refine ⟨by simp, fun b hb => ?_⟩
  simp at hb
  exact hb.2.symm
theorem fz_set (v m i : Nat) : (Bs (fz v m i)).set i (.int .u8 ((v / 256 ^ i % 256 : Nat) : Int)) = Bs (fz v m (i + 1)) := by
  apply List.ext_getElem
  · simp [Bs, fz]
  · intro j h1 h2
    simp only [Bs, fz, List.getElem_set, List.getElem_map, List.getElem_range]
    by_cases hij : i = j
    · subst hij; simp
    · rw [if_neg hij]
      by_cases hj : j < i
      · rw [if_pos hj, if_pos (by omega)]
      · rw [if_neg hj, if_neg (by omega)]
theorem shr_byte (v k : Nat) : (v : Int) / 2 ^ (8 * k) % 256 = ((v / 256 ^ k % 256 : Nat) : Int) := by
  have : (256 : Nat) ^ k = 2 ^ (8 * k) := by rw [Nat.pow_mul]
  rw [this]
  simp

set_option maxRecDepth 100000 in
set_option maxHeartbeats 1000000 in
theorem fixed_any (v : Nat) (n : Int) (w : World) (hv : v < B64) :
    Calls Try.prog 87 #[.int .u64 (v : Nat), .int .i64 n] w fun e w' => ∃ u, e = .returned u ∧ w'.ownsRow w.heap.size 5 1 u (wid n) (Bs (fb v (wid n))) ∧ Below w.heap.size w w' := by
  obtain ⟨i0, hi0, hz0, hz1, hz2⟩ := info_parts u8_info
  have hw8 := wid_le n
  have HV := Lib.hid hv
  clear hv
  go_enter Try.func87, Try.ntmps87
  go_wp2_with fail
  refine (width_any n w).mono ?_
  rintro e w' ⟨rfl, rfl⟩
  obtain ⟨m, hm⟩ : ∃ m, wid n = m := ⟨_, rfl⟩
  rw [hm] at hw8 ⊢
  have HM := Lib.hid hm
  clear hm
  have hby : i0.bytes * m ≤ 281474976710656 := by rw [hz2]; omega
  have hml : m ≤ maxLen := by simp [maxLen]; omega
  go_wp2_with (at_make
               refine wpList_make_full _ rfl (.tmp 8) (.tmp 8) 62 rfl w.heap.size 5 i0 (.int .u8 0) 1 Try.underlying62 hi0 hz0 hz1 .i64 .i64 m m m rfl rfl rfl rfl hby hml (Nat.le_refl _) ?_
               intro w1 hown1 hg1)
  have hown2 : w1.ownsRow w.heap.size 5 1 (.slice (some ⟨w.heap.size, 0, none⟩) m m) m (Bs (fz v m 0)) := by
    rw [fz_zero]
    have := hown1
    rw [Nat.mul_one] at this
    have e : (madeCells (Value.int .u8 0).cells m).toList = List.replicate m (.int .u8 0) := toList_madeCells_one _ _
    rw [e] at this
    exact this
  have hb1 : Below w.heap.size w w1 := (Below.refl _ w).grown hg1 (Nat.le_refl _) (fun k hk => by cases hk)
  clear hown1 hg1
  go_loopw [12] (fun i wr => ∃ k : Nat, k ≤ m ∧ i = .int .i64 (k : Nat) ∧ wr.ownsRow w.heap.size 5 1 (.slice (some ⟨w.heap.size, 0, none⟩) m m) m (Bs (fz v m k)) ∧ Below w.heap.size w wr) (fun i _ => m - (intOf i).toNat)
  case atStart => exact ⟨0, Nat.zero_le _, rfl, hown2, hb1⟩
  case round =>
    obtain ⟨k, hk, rfl, hown, hbel⟩ := hrel
    have HO := Lib.hid hown
    clear hown2 hb1
    by_cases hlt : k < m
    · have hc := hown.cellAt k (by omega)
      rw [Bs_get _ _ (by rw [fz_length]; exact hlt)] at hc
      have hf := hown.frozenAt k
      clear hown
      go_wp2
      have hst := HO.out.stored k (.int .u8 ((v / 256 ^ k % 256 : Nat) : Int))
      rw [fz_set] at hst
      rw [shr_byte v k]
      exact ⟨⟨k + 1, by omega, by simp, hst.1, hbel.setCell (p := ⟨w.heap.size, k, none⟩) (Nat.le_refl _) _⟩, by simp [intOf]; omega⟩
    · obtain rfl : k = m := by omega
      clear hown
      go_wp2
      go_ret
      refine ⟨_, rfl, ?_, hbel⟩
      rw [HM.out, ← fz_all]
      exact HO.out
end Go.Proofs.Ytikhhcmfjncabaa
