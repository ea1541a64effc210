/-
Dm
-/
import Derived.Test.YtgdbhanhmenmfaaGreatQ21
set_option linter.unusedSimpArgs false
set_option linter.unusedVariables false
namespace Go.Proofs.YtgdbhanhmenmfaaGreat
open Go.RowKit
variable {a:World}{m:Mod}{rb:Nat}{w w':World}{α:Type}{x:α}{xs:List Nat}
def IsMod (xs:List Nat) (m:Mod):Prop:=Fit m∧(∀n∈m.ints,n<B64)∧xs=modB m
def Decodes (xs:List Nat) (w:World) (e:Ending) (w':World):Prop:=
 Below w.heap.size w w'∧((∃m cs,IsMod xs m∧e= .returned (.tuple #[.agg cs.toArray,.int .i64 0])∧modL.R (fun b=>w.heap.size≤b∧b<w'.heap.size) w' cs m)∨
  ((¬∃m,IsMod xs m)∧e= .returned (.tuple #[.agg #[.slice none 0 0,.slice none 0 0,.slice none 0 0,.slice none 0 0,.slice none 0 0],.int .i64 2])))
theorem qEa {f:α→List Nat} {gd:α→Prop} {p:List Nat} {t:Option (List Nat)} (h:Got f gd (some p) t x) (hPF:PF f gd) (ht:t=none∨∃rest,t=some rest∧rest≠[]):∀y,gd y→p≠f y:=by
 rintro y hy rfl;rcases h with⟨hg,zs,rest,e1,e2,rfl⟩|⟨rfl,hno⟩
 · injection e1 with e1
   subst e1;obtain⟨_,e3⟩:=hPF y x [] rest hy hg (by rw[List.append_nil];exact e2);rcases ht with h|⟨r,h,hr⟩
   · cases h
   · injection h with h
     subst h;exact hr e3.symm
 · exact hno _ rfl ⟨y,[],hy,by simp⟩
theorem qEb {f:α→List Nat} {gd:α→Prop} {p:List Nat} (h:Got f gd (some p) (some []) x):gd x∧p=f x:=by
 rcases h with⟨hg,zs,rest,e1,e2,e3⟩|⟨e,_⟩
 · injection e1 with e1
   injection e3 with e3;subst e1 e3;exact⟨hg,by simpa using e2⟩
 · cases e
theorem qC0 (h:Fit m) (hi:∀n∈m.ints,n<B64):gR m.recs∧gL 1 8 (fun x=>fnOk m.recs.length x=true) m.funcs∧gL 0 8 (fun x=>impOk m.recs.length x=true) m.imps∧gL 0 16 (fun n=>n<B64) m.ints∧gL 0 16 (fun s=>s.length≤32) m.texts:=
 ⟨⟨by have:=h.r8;omega,h.recs⟩,⟨h.f1,h.f8,h.funcs⟩,⟨qBU _,h.i8,h.imps⟩,⟨qBU _,h.n16,hi⟩,⟨qBU _,h.t16,h.texts⟩⟩
theorem qLf (h0:gR m.recs) (h1:gL 1 8 (fun x=>fnOk m.recs.length x=true) m.funcs) (h2:gL 0 8 (fun x=>impOk m.recs.length x=true) m.imps) (h3:gL 0 16 (fun n=>n<B64) m.ints) (h4:gL 0 16 (fun s=>s.length≤32) m.texts):Fit m∧∀n∈m.ints,n<B64:=
 ⟨⟨by have:=h0.1;omega,h0.2,h1.1,h1.2.1,h1.2.2,h2.2.1,h2.2.2,h3.2.1,h4.2.1,h4.2.2⟩,h3.2.2⟩
theorem qCx {p0 p1 p2 p3 p4:List Nat} (hl:xs.length<B64) (hx:xs=joinB [p0,p1,p2,p3,p4]) (h:IsMod xs m):p0=lB (lB tB) m.recs∧p1=lB fnB m.funcs∧p2=lB impB m.imps∧p3=lB numB m.ints∧p4=lB pt m.texts:=by
 have:=qDw hl hx h.2.2;simpa[partsB] using this
theorem no_five {xss:List (List Nat)} (hl:xs.length<B64) (hx:xs=joinB xss) (h5:xss.length≠5):¬∃m,IsMod xs m:=by
 rintro⟨m,h⟩;have:=qDw hl hx h.2.2;rw[this] at h5;exact h5 rfl
theorem qNV (h:¬∃xss,IsJoin xs 5 xss):¬∃m,IsMod xs m:=by
 rintro⟨m,hm⟩;exact h ⟨partsB m,hm.2.2,by simp[partsB]⟩
theorem qD4 {p0 p1 p2 p3 p4:List Nat} {x0:List (List Typ)} (hl:xs.length<B64) (hx:xs=joinB [p0,p1,p2,p3,p4]) (h:IsMod xs m) (g0:gR x0) (e0:p0=lB (lB tB) x0):m.recs=x0:=
 (qKu m.recs x0 [] [] (qC0 h.1 h.2.1).1 g0 (by rw[←e0,←(qCx hl hx h).1])).1
def Keep (rb:Nat) (w w':World):Prop:=w.heap.size≤w'.heap.size∧∀b,b<w.heap.size→b≠rb→w'.heap[b]? =w.heap[b]?
theorem Keep.refl (rb:Nat) (w:World):Keep rb w w:=⟨qBL _,fun _ _ _=>rfl⟩
theorem Keep.trans {b c:World} (h:Keep rb a b) (k:Keep rb b c):Keep rb a c:=⟨qBZ h.1 k.1,fun i h1 h2=>(k.2 i (qBN h1 h.1) h2).trans (h.2 i h1 h2)⟩
theorem Keep.below {b:World} (h:Below a.heap.size a b):Keep rb a b:=⟨h.size,fun i h1 _=>h.block i h1⟩
theorem Keep.set {i:Nat} (u:Value):Keep rb a (a.setCell ⟨rb,i,none⟩ u):=⟨by simp,fun j h1 h2=>qBP _ _ _ _ (by simpa using h2)⟩
theorem Keep.cell (hk:Keep rb w w') {p:Addr} {o:Option Value} (h:w.cell? p=o) (h1:p.block<w.heap.size) (h2:p.block≠rb):w'.cell? p=o:=(qBd (hk.2 _ h1 h2)).trans h
theorem Keep.blk {b ty:Nat} {cs:Array Value} (h:Keep rb w w') (hb:Blk w b ty cs) (hne:b≠rb):Blk w' b ty cs:=(h.2 b hb.lt hne).trans hb
theorem Keep.lay (L:Lay α) {cs:List Value} (h:L.R (fun b=>rb<b∧b<w.heap.size) w cs x) (hk:Keep rb w w'):L.R (fun b=>rb<b∧b<w'.heap.size) w' cs x:=
 L.wide (L.keep h fun b hb=>hk.2 b hb.2 (by omega)) fun b hb=>⟨hb.1,qBN hb.2 hk.1⟩
theorem Keep.byt {A:Option Addr} (h:Byt (·<rb) w A xs) (hk:Keep rb w w') (hrb:rb≤w.heap.size):Byt (·<rb) w' A xs:=h.keep fun b hb=>hk.2 b (by omega) (by omega)
end Go.Proofs.YtgdbhanhmenmfaaGreat
