/-
Lfrec Lffn Lfimp Lfnum Lfstr Rp Rwo Psp
-/
import Derived.Test.YtgdbhanhmenmfaaGreatQ02
import Derived.Test.YtgdbhanhmenmfaaGreatQ08
import Derived.Test.YtgdbhanhmenmfaaGreatQ16
import Derived.Test.YtgdbhanhmenmfaaGreatQ17
import Derived.Test.YtgdbhanhmenmfaaGreatQ18
import Derived.Test.YtgdbhanhmenmfaaGreatQ19
import Derived.Test.YtgdbhanhmenmfaaGreatQ20
set_option linter.unusedSimpArgs false
set_option linter.unusedVariables false
set_option maxRecDepth 100000
set_option maxHeartbeats 1000000
namespace Go.Proofs.YtgdbhanhmenmfaaGreat
open Go.RowKit
variable {S:Nat→Prop}{cs:List Value}{g rb ty:Nat}{w:World}{xss:List (List Nat)}
theorem qNz:(Tryz.prog.info? 62).map (fun i=>(i.zero,i.size,i.bytes))=some (some (.slice none 0 0),tysL.k,24):=by kernel_rfl
theorem qJy (rb g n:Nat) (gd:(List Typ)→Prop) (hPF:PF (lB tB) gd) (s:Option (List Nat)) (w:World) (hs:St w g s) (hn:n≤1000000)
 (hE:∀(w1:World) (s1:Option (List Nat)),Only g w w1→St w1 g s1→Calls Tryz.prog 189 #[.pointer (some ⟨rb,0,none⟩)] w1 (Reads tysL vOne (lB tB) gd g s1 w1)):
 Calls Tryz.prog 188 #[.int .i64 (n:Int),.func (.func 189) #[.pointer (some ⟨rb,0,none⟩)] #[]] w (ReadsN tysL 62 (lB tB) gd n g s w):=by
 refine qAF ?_;intro hg HS HE HPF;clear hs hE hPF
 go_enter Tryz.func188,Tryz.ntmps188
 go_wp2_with fail
 go_loopw [5,7] (fun v i wr=>∃k:Nat,k≤n∧i= .int .i64 (k:Nat)∧∃xs:List (List Typ),xs.length=k∧Owns tysL 62 w.heap.size wr v xs∧Only g w wr∧∃t,St wr g t∧Upto (lB tB) gd n s t xs) (fun _ i _=>n-(intOf i).toNat)
 case atStart=>exact⟨0,qBU _,rfl,[],rfl,Owns.nil _ _ _ _,qBv _ _,s,HS.out,Upto.start _ _ _ _⟩
 case round=>
  obtain⟨k,hk,rfl,xs,hxl,hown,honly,t,ht,hup⟩:=hrel;refine jc ?_;intro HX HO HY HT HU hsz;clear hxl hown honly ht hup
  by_cases hlt:k<n
  · have HC:=qBK (HE.out wr t HY.out HT.out)
    go_wp2_with (first
     |(go_at_call 189
       refine HC.out.mono ?_;rintro e w1 ⟨ho1,cs,x,he,hr,hx⟩;refine je ?_;intro HR HXX HO1 HW1 hs1;obtain⟨A2,d2,rfl,-,-,-⟩:=hr;obtain rfl:e= .returned (.slice A2 x.length d2):=he;clear hx ho1)
     |(at_builtin
       refine qB5 tysL _ rfl (.tmp 9) (.tmp 12) 22 62 rfl (.slice none 0 0) 24 Tryz.underlying22 qNz rfl qp qp w.heap.size u5 xs rfl (HW1.out.kept hg (qBh _)) ⟨w1.heap.size,0,none⟩ 1 rfl [.slice A2 x.length d2] x (qCg w1 62 [.slice A2 x.length d2]) ?_ zy qK ?_
       · exact tysL.wide (tysL.keep HR.out fun b hb=>qBX _ _ _ hb.2) fun b hb=>⟨by omega,by simp;omega,fun e=>by have:=HO.out.lt b e;omega⟩
       intro v2 w2 hown2 hg2;have HO2:=qBK hown2;have HG2:=qBK hg2;clear hown2 hg2))
    exact qB
  · exact qL
theorem info_fn:(Tryz.prog.info? 70).map (fun i=>(i.zero,i.size,i.bytes))=some (some (.agg #[.slice none 0 0,.int .i64 0,.int .i64 0,.slice none 0 0,.slice none 0 0]),fnL.k,88):=by kernel_rfl
theorem qGp (rb g n:Nat) (gd:Fn→Prop) (hPF:PF fnB gd) (s:Option (List Nat)) (w:World) (hs:St w g s) (hn:n≤1000000)
 (hE:∀(w1:World) (s1:Option (List Nat)),Only g w w1→St w1 g s1→Calls Tryz.prog 191 #[.pointer (some ⟨rb,0,none⟩)] w1 (Reads fnL vAgg fnB gd g s1 w1)):
 Calls Tryz.prog 190 #[.int .i64 (n:Int),.func (.func 191) #[.pointer (some ⟨rb,0,none⟩)] #[]] w (ReadsN fnL 70 fnB gd n g s w):=by
 refine qAF ?_;intro hg HS HE HPF;clear hs hE hPF
 go_enter Tryz.func190,Tryz.ntmps190
 go_wp2_with fail
 go_loopw [5,7] (fun v i wr=>∃k:Nat,k≤n∧i= .int .i64 (k:Nat)∧∃xs:List Fn,xs.length=k∧Owns fnL 70 w.heap.size wr v xs∧Only g w wr∧∃t,St wr g t∧Upto fnB gd n s t xs) (fun _ i _=>n-(intOf i).toNat)
 case atStart=>exact⟨0,qBU _,rfl,[],rfl,Owns.nil _ _ _ _,qBv _ _,s,HS.out,Upto.start _ _ _ _⟩
 case round=>
  obtain⟨k,hk,rfl,xs,hxl,hown,honly,t,ht,hup⟩:=hrel;refine jc ?_;intro HX HO HY HT HU hsz;clear hxl hown honly ht hup
  by_cases hlt:k<n
  · have HC:=qBK (HE.out wr t HY.out HT.out)
    go_wp2_with (first
     |(go_at_call 191
       refine HC.out.mono ?_;rintro e w1 ⟨ho1,cs,x,he,hr,hx⟩;refine je ?_;intro HR HXX HO1 HW1 hs1;obtain⟨p0,p1,p2,rfl,-,-,⟨A4,d4,e4,-⟩,⟨A5,d5,e5,-⟩,⟨A6,d6,e6,-⟩⟩:=hr;simp only[List.cons.injEq,and_true] at e4 e5 e6;subst e4 e5 e6;obtain rfl:e= .returned (.agg #[.slice A4 x.args.length d4,.int .i64 x.ret.1,.int .i64 x.ret.2,.slice A5 x.locs.length d5,.slice A6 x.code.length d6]):=he;clear hx ho1)
     |(at_builtin
       refine qB5 fnL _ rfl (.tmp 9) (.tmp 12) 23 70 rfl (.agg #[.slice none 0 0,.int .i64 0,.int .i64 0,.slice none 0 0,.slice none 0 0]) 88 Tryz.underlying23 info_fn rfl qp qp w.heap.size u5 xs rfl (HW1.out.kept hg (qBh _)) ⟨w1.heap.size,0,none⟩ 1 rfl [.slice A4 x.args.length d4,.int .i64 x.ret.1,.int .i64 x.ret.2,.slice A5 x.locs.length d5,.slice A6 x.code.length d6] x (qCg w1 70 [.slice A4 x.args.length d4,.int .i64 x.ret.1,.int .i64 x.ret.2,.slice A5 x.locs.length d5,.slice A6 x.code.length d6]) ?_ zy qK ?_
       · exact fnL.wide (fnL.keep HR.out fun b hb=>qBX _ _ _ hb.2) fun b hb=>⟨by omega,by simp;omega,fun e=>by have:=HO.out.lt b e;omega⟩
       intro v2 w2 hown2 hg2;have HO2:=qBK hown2;have HG2:=qBK hg2;clear hown2 hg2))
    exact qB
  · exact qL
theorem qN2:(Tryz.prog.info? 75).map (fun i=>(i.zero,i.size,i.bytes))=some (some (.agg #[.slice none 0 0,.int .i64 0,.int .i64 0]),impL.k,40):=by kernel_rfl
theorem qFt (rb g n:Nat) (gd:Imp→Prop) (hPF:PF impB gd) (s:Option (List Nat)) (w:World) (hs:St w g s) (hn:n≤1000000)
 (hE:∀(w1:World) (s1:Option (List Nat)),Only g w w1→St w1 g s1→Calls Tryz.prog 193 #[.pointer (some ⟨rb,0,none⟩)] w1 (Reads impL vAgg impB gd g s1 w1)):
 Calls Tryz.prog 192 #[.int .i64 (n:Int),.func (.func 193) #[.pointer (some ⟨rb,0,none⟩)] #[]] w (ReadsN impL 75 impB gd n g s w):=by
 refine qAF ?_;intro hg HS HE HPF;clear hs hE hPF
 go_enter Tryz.func192,Tryz.ntmps192
 go_wp2_with fail
 go_loopw [5,7] (fun v i wr=>∃k:Nat,k≤n∧i= .int .i64 (k:Nat)∧∃xs:List Imp,xs.length=k∧Owns impL 75 w.heap.size wr v xs∧Only g w wr∧∃t,St wr g t∧Upto impB gd n s t xs) (fun _ i _=>n-(intOf i).toNat)
 case atStart=>exact⟨0,qBU _,rfl,[],rfl,Owns.nil _ _ _ _,qBv _ _,s,HS.out,Upto.start _ _ _ _⟩
 case round=>
  obtain⟨k,hk,rfl,xs,hxl,hown,honly,t,ht,hup⟩:=hrel;refine jc ?_;intro HX HO HY HT HU hsz;clear hxl hown honly ht hup
  by_cases hlt:k<n
  · have HC:=qBK (HE.out wr t HY.out HT.out)
    go_wp2_with (first
     |(go_at_call 193
       refine HC.out.mono ?_;rintro e w1 ⟨ho1,cs,x,he,hr,hx⟩;refine je ?_;intro HR HXX HO1 HW1 hs1;obtain⟨p0,rfl,-,-,⟨A4,d4,e4,-⟩⟩:=hr;simp only[List.cons.injEq,and_true] at e4;subst e4;obtain rfl:e= .returned (.agg #[.slice A4 x.args.length d4,.int .i64 x.ret.1,.int .i64 x.ret.2]):=he;clear hx ho1)
     |(at_builtin
       refine qB5 impL _ rfl (.tmp 9) (.tmp 12) 24 75 rfl (.agg #[.slice none 0 0,.int .i64 0,.int .i64 0]) 40 Tryz.underlying24 qN2 rfl qp qp w.heap.size u5 xs rfl (HW1.out.kept hg (qBh _)) ⟨w1.heap.size,0,none⟩ 1 rfl [.slice A4 x.args.length d4,.int .i64 x.ret.1,.int .i64 x.ret.2] x (qCg w1 75 [.slice A4 x.args.length d4,.int .i64 x.ret.1,.int .i64 x.ret.2]) ?_ zy qK ?_
       · exact impL.wide (impL.keep HR.out fun b hb=>qBX _ _ _ hb.2) fun b hb=>⟨by omega,by simp;omega,fun e=>by have:=HO.out.lt b e;omega⟩
       intro v2 w2 hown2 hg2;have HO2:=qBK hown2;have HG2:=qBK hg2;clear hown2 hg2))
    exact qB
  · exact qL
theorem qN0:(Tryz.prog.info? 32).map (fun i=>(i.zero,i.size,i.bytes))=some (some (.int .u64 0),numL.k,8):=by kernel_rfl
theorem qFr (rb g n:Nat) (gd:Nat→Prop) (hPF:PF numB gd) (s:Option (List Nat)) (w:World) (hs:St w g s) (hn:n≤1000000)
 (hE:∀(w1:World) (s1:Option (List Nat)),Only g w w1→St w1 g s1→Calls Tryz.prog 195 #[.pointer (some ⟨rb,0,none⟩)] w1 (Reads numL vOne numB gd g s1 w1)):
 Calls Tryz.prog 194 #[.int .i64 (n:Int),.func (.func 195) #[.pointer (some ⟨rb,0,none⟩)] #[]] w (ReadsN numL 32 numB gd n g s w):=by
 refine qAF ?_;intro hg HS HE HPF;clear hs hE hPF
 go_enter Tryz.func194,Tryz.ntmps194
 go_wp2_with fail
 go_loopw [5,7] (fun v i wr=>∃k:Nat,k≤n∧i= .int .i64 (k:Nat)∧∃xs:List Nat,xs.length=k∧Owns numL 32 w.heap.size wr v xs∧Only g w wr∧∃t,St wr g t∧Upto numB gd n s t xs) (fun _ i _=>n-(intOf i).toNat)
 case atStart=>exact⟨0,qBU _,rfl,[],rfl,Owns.nil _ _ _ _,qBv _ _,s,HS.out,Upto.start _ _ _ _⟩
 case round=>
  obtain⟨k,hk,rfl,xs,hxl,hown,honly,t,ht,hup⟩:=hrel;refine jc ?_;intro HX HO HY HT HU hsz;clear hxl hown honly ht hup
  by_cases hlt:k<n
  · have HC:=qBK (HE.out wr t HY.out HT.out)
    go_wp2_with (first
     |(go_at_call 195
       refine HC.out.mono ?_;rintro e w1 ⟨ho1,cs,x,he,hr,hx⟩;refine je ?_;intro HR HXX HO1 HW1 hs1;obtain⟨rfl,-⟩:=hr;obtain rfl:e= .returned (.int .u64 (x:Int)):=he;clear hx ho1)
     |(at_builtin
       refine qB5 numL _ rfl (.tmp 9) (.tmp 12) 25 32 rfl (.int .u64 0) 8 Tryz.underlying25 qN0 rfl qp qp w.heap.size u5 xs rfl (HW1.out.kept hg (qBh _)) ⟨w1.heap.size,0,none⟩ 1 rfl [.int .u64 (x:Int)] x (qCg w1 32 [.int .u64 (x:Int)]) ?_ zy qK ?_
       · exact numL.wide (numL.keep HR.out fun b hb=>qBX _ _ _ hb.2) fun b hb=>⟨by omega,by simp;omega,fun e=>by have:=HO.out.lt b e;omega⟩
       intro v2 w2 hown2 hg2;have HO2:=qBK hown2;have HG2:=qBK hg2;clear hown2 hg2))
    exact qB
  · exact qL
theorem qNy:(Tryz.prog.info? 9).map (fun i=>(i.zero,i.size,i.bytes))=some (some (.string ⟨#[]⟩),strL.k,16):=by kernel_rfl
theorem qFq (rb g n:Nat) (gd:(List Nat)→Prop) (hPF:PF pt gd) (s:Option (List Nat)) (w:World) (hs:St w g s) (hn:n≤1000000)
 (hE:∀(w1:World) (s1:Option (List Nat)),Only g w w1→St w1 g s1→Calls Tryz.prog 197 #[.pointer (some ⟨rb,0,none⟩)] w1 (Reads strL vOne pt gd g s1 w1)):
 Calls Tryz.prog 196 #[.int .i64 (n:Int),.func (.func 197) #[.pointer (some ⟨rb,0,none⟩)] #[]] w (ReadsN strL 9 pt gd n g s w):=by
 refine qAF ?_;intro hg HS HE HPF;clear hs hE hPF
 go_enter Tryz.func196,Tryz.ntmps196
 go_wp2_with fail
 go_loopw [5,7] (fun v i wr=>∃k:Nat,k≤n∧i= .int .i64 (k:Nat)∧∃xs:List (List Nat),xs.length=k∧Owns strL 9 w.heap.size wr v xs∧Only g w wr∧∃t,St wr g t∧Upto pt gd n s t xs) (fun _ i _=>n-(intOf i).toNat)
 case atStart=>exact⟨0,qBU _,rfl,[],rfl,Owns.nil _ _ _ _,qBv _ _,s,HS.out,Upto.start _ _ _ _⟩
 case round=>
  obtain⟨k,hk,rfl,xs,hxl,hown,honly,t,ht,hup⟩:=hrel;refine jc ?_;intro HX HO HY HT HU hsz;clear hxl hown honly ht hup
  by_cases hlt:k<n
  · have HC:=qBK (HE.out wr t HY.out HT.out)
    go_wp2_with (first
     |(go_at_call 197
       refine HC.out.mono ?_;rintro e w1 ⟨ho1,cs,x,he,hr,hx⟩;refine je ?_;intro HR HXX HO1 HW1 hs1;obtain⟨s0,rfl,-⟩:=hr;obtain rfl:e= .returned (.string s0):=he;clear hx ho1)
     |(at_builtin
       refine qB5 strL _ rfl (.tmp 9) (.tmp 12) 26 9 rfl (.string ⟨#[]⟩) 16 Tryz.underlying26 qNy rfl qp qp w.heap.size u5 xs rfl (HW1.out.kept hg (qBh _)) ⟨w1.heap.size,0,none⟩ 1 rfl [.string s0] x (qCg w1 9 [.string s0]) ?_ zy qK ?_
       · exact strL.wide (strL.keep HR.out fun b hb=>qBX _ _ _ hb.2) fun b hb=>⟨by omega,by simp;omega,fun e=>by have:=HO.out.lt b e;omega⟩
       intro v2 w2 hown2 hg2;have HO2:=qBK hown2;have HG2:=qBK hg2;clear hown2 hg2))
    exact qB
  · exact qL
def isSl (v:Value):Prop:=∃A n c,v= .slice A n c
def Parted {α:Type} (L:Lay α) (f:α→List Nat) (gd:α→Prop) (g rb B:Nat) (s:Option (List Nat)) (w:World) (x:α) (v:Value) (w':World):Prop:=
 Below B w w'∧L.R (fun b=>w.heap.size≤b∧b<w'.heap.size) w' [v] x∧(∀b,b<w.heap.size→b≠g→b≠rb→w'.heap[b]? =w.heap[b]?)∧∃t,St w' g t∧Got f gd s t x
theorem not_u8 {cs:Array Value} (h:Blk w rb ty cs) (hn:∀v∈cs,∀n,v≠.int .u8 n) {p:Addr} {n:Int} (hc:w.cell? p=some (.int .u8 n)):p.block≠rb:=by
 intro e;unfold World.cell? at hc;rw[e,h] at hc;simp only at hc;split at hc
 · cases hc
 · exact hn _ (Array.mem_of_getElem? hc) n rfl
theorem St.field {cs:Array Value} {s:Option (List Nat)} (h:St w g s) (hb:Blk w rb ty cs) (hn:∀v∈cs,∀n,v≠.int .u8 n) (hne:rb≠g) (i:Nat) (u:Value):St (w.setCell ⟨rb,i,none⟩ u) g s:=by
 cases s with
 |none=>exact qB7 h _ (Ne.symm hne)
 |some xs=>
  obtain⟨⟨A,c,h1,h2,h3,h4⟩,h5⟩:=h;refine⟨⟨A,c,qB7 h1 _ (Ne.symm hne),h2,h3,fun hpos=> ?_⟩,h5⟩;obtain⟨a,rfl,ha,hc⟩:=h4 hpos;have hab:a.block≠rb:=by have:=not_u8 hb hn (hc 0 hpos);rwa [qBn] at this
  exact⟨a,rfl,ha,fun j hj=>(qBd (qBP _ _ _ _ qD)).trans (hc j hj)⟩
theorem qJs {v0 v1 v2 v3 v4:Value} {r:Int} (h0:isSl v0) (h1:isSl v1) (h2:isSl v2) (h3:isSl v3) (h4:isSl v4):∀v∈(#[.pointer (some ⟨g,0,none⟩),v0,v1,v2,v3,v4,.int .i64 r]:Array Value),∀n,v≠.int .u8 n:=by
 obtain⟨_,_,_,rfl⟩:=h0;obtain⟨_,_,_,rfl⟩:=h1;obtain⟨_,_,_,rfl⟩:=h2;obtain⟨_,_,_,rfl⟩:=h3;obtain⟨_,_,_,rfl⟩:=h4;intro v hv n;simp at hv;rcases hv with rfl|rfl|rfl|rfl|rfl|rfl|rfl<;>simp
theorem qIR:PF pt (fun s=>s.length≤32):=fun x y r s hx hy e=>pf_txt x y r s qj qj e
theorem qD6 {α:Type} {L:Lay α} {f:List α→List Nat} {gd:List α→Prop} {B i:Nat} {cs:Array Value} {s:Option (List Nat)} {w1:World} {x:List α} {u:Value} (hrb:rb<w.heap.size) (hg:g<w.heap.size) (hBg:B≤g) (hBr:B≤rb)
 (hb:Blk w1 rb ty cs) (hn:∀v∈cs,∀n,v≠.int .u8 n) (hne:rb≠g) (ho:Only g w w1) (hR:(slL L).R (fun b=>w.heap.size≤b∧b<w1.heap.size) w1 [u] x) (hst:∃t,St w1 g t∧Got f gd s t x):
 Parted (slL L) f gd g rb B s w x u (w1.setCell ⟨rb,i,none⟩ u):=by
 have hbl:Below B w w1:=qCN ho hBg (by omega);refine⟨hbl.setCell (p:=⟨rb,i,none⟩) hBr _,(slL L).up hR ((Abv.refl w.heap.size w1).set rb u hrb) (qBL _),fun b h1 h2 h3=> ?_,?_⟩
 · rw[qBP _ _ _ _ (by simpa using h3)]
   exact ho.block b h1 (fun e=>h2 (by injection e))
 · obtain⟨t,h1,h2⟩:=hst
   exact⟨t,h1.field hb hn hne _ _,h2⟩
theorem qF1 (rb g B:Nat) (v0 v1 v2 v3 v4:Value) (r:Int) (hr8:r≤8) (s:Option (List Nat)) (w:World) (h:Mrd w rb g v0 v1 v2 v3 v4 r) (hs:St w g s) (hBg:B≤g) (hBr:B≤rb) (h0:isSl v0) (h1:isSl v1) (h2:isSl v2) (h3:isSl v3) (h4:isSl v4):
 Calls Tryz.prog 125 #[.pointer (some ⟨rb,0,none⟩)] w fun e w'=>e= .returned (.tuple #[])∧∃x u,isSl u∧Mrd w' rb g v0 u v2 v3 v4 r∧Parted (slL fnL) (lB fnB) (gL 1 8 (fun x=>fnOk r x=true)) g rb B s w x u w':=by
 refine qAa ?_;intro HM HU hg hrb;have HC:Hid (Calls Tryz.prog 187 #[.pointer (some ⟨rb,0,none⟩),.int .i64 1,.int .i64 8] w (Counts 1 8 g s w)):=qC1 rb g v0 v1 v2 v3 v4 r 1 8 s w h hs (by omega) (by omega);have HLi:Hid (∀(w1:World) (n:Nat),Ahead 1 8 g s w n w1→Calls Tryz.prog 190 #[.int .i64 (n:Int),.func (.func 191) #[.pointer (some ⟨rb,0,none⟩)] #[]] w1 fun e w'=>∃x,x.length≤8∧ReadsX (slL fnL) vOne (lB fnB) (gL 1 8 (fun x=>fnOk r x=true)) g s w x e w'):=by
  intro w1 n ha;obtain⟨ho,hcase⟩:=ha;rcases hcase with⟨a1,a2,ys,rfl,a3⟩|⟨rfl,a3,a4⟩
  · exact(qGp rb g n _ (qKv hr8) _ w1 a3 (by omega) fun w2 s2 ho2 hs2=>qEJ rb g v0 v1 v2 v3 v4 r hr8 s2 w2 ((h.only ho).only ho2) hs2).mono fun e w' hr=>qBa (by omega) a1 a2 ho hr
  · exact(qGp rb g 0 _ (qKv hr8) _ w1 a3 (by omega) fun w2 s2 ho2 hs2=>qEJ rb g v0 v1 v2 v3 v4 r hr8 s2 w2 ((h.only ho).only ho2) hs2).mono fun e w' hr=>qDI ho hr a4
 clear h hs
 go_enter Tryz.func125,Tryz.ntmps125
 go_wp2_with fail
 refine HC.out.mono ?_;intro e wc hc;obtain⟨n,rfl,ha⟩:=qDV hc;have HA:=qBK ha;clear hc ha
 go_wp2_with fail
 refine(HLi.out wc n HA.out).mono ?_;rintro e w1 ⟨x,hxl,hr⟩;have HR:=qBK hr;obtain⟨ho,cs,he,hcs,-⟩:=hr;have HO:=qBK ho;obtain⟨A2,c2,rfl,-⟩:=hcs;obtain rfl:e= .returned (.slice A2 x.length c2):=he;have hb1:=(HM.out.only ho).2;have HB1:=qBK hb1;have k1:=hb1.cell 2;have k2:=hb1.frozen 2;simp at k1;clear ho hb1
 go_wp2_with fail
 go_end0
 refine⟨rfl,x,_,⟨A2,_,c2,rfl⟩,⟨HM.out.1,by simpa using HB1.out.set 2 _⟩,?_⟩;obtain⟨_,cs,he,hcs,ht⟩:=HR.out;obtain rfl:cs=[.slice A2 x.length c2]:=by
  obtain⟨A3,c3,rfl,_⟩:=hcs;injection he with he;simp only[vOne] at he;rw[he]
 exact qD6 hrb hg hBg hBr HB1.out HU.out HM.out.1 HO.out hcs ht
theorem qHX (rb g B:Nat) (v0 v1 v2 v3 v4:Value) (r:Int) (hr8:r≤8) (s:Option (List Nat)) (w:World) (h:Mrd w rb g v0 v1 v2 v3 v4 r) (hs:St w g s) (hBg:B≤g) (hBr:B≤rb) (h0:isSl v0) (h1:isSl v1) (h2:isSl v2) (h3:isSl v3) (h4:isSl v4):
 Calls Tryz.prog 126 #[.pointer (some ⟨rb,0,none⟩)] w fun e w'=>e= .returned (.tuple #[])∧∃x u,isSl u∧Mrd w' rb g v0 v1 u v3 v4 r∧Parted (slL impL) (lB impB) (gL 0 8 (fun x=>impOk r x=true)) g rb B s w x u w':=by
 refine qAa ?_;intro HM HU hg hrb;refine qA4 ?_;intro HC;have HLi:Hid (∀(w1:World) (n:Nat),Ahead 0 8 g s w n w1→Calls Tryz.prog 192 #[.int .i64 (n:Int),.func (.func 193) #[.pointer (some ⟨rb,0,none⟩)] #[]] w1 fun e w'=>∃x,x.length≤8∧ReadsX (slL impL) vOne (lB impB) (gL 0 8 (fun x=>impOk r x=true)) g s w x e w'):=by
  intro w1 n ha;obtain⟨ho,hcase⟩:=ha;rcases hcase with⟨a1,a2,ys,rfl,a3⟩|⟨rfl,a3,a4⟩
  · exact(qFt rb g n _ (qHS hr8) _ w1 a3 (by omega) fun w2 s2 ho2 hs2=>qEI rb g v0 v1 v2 v3 v4 r hr8 s2 w2 ((h.only ho).only ho2) hs2).mono fun e w' hr=>qBa (by omega) a1 a2 ho hr
  · exact(qFt rb g 0 _ (qHS hr8) _ w1 a3 (by omega) fun w2 s2 ho2 hs2=>qEI rb g v0 v1 v2 v3 v4 r hr8 s2 w2 ((h.only ho).only ho2) hs2).mono fun e w' hr=>qDI ho hr a4
 clear h hs
 go_enter Tryz.func126,Tryz.ntmps126
 go_wp2_with fail
 refine HC.out.mono ?_;intro e wc hc;obtain⟨n,rfl,ha⟩:=qDV hc;have HA:=qBK ha;clear hc ha
 go_wp2_with fail
 refine(HLi.out wc n HA.out).mono ?_;rintro e w1 ⟨x,hxl,hr⟩;have HR:=qBK hr;obtain⟨ho,cs,he,hcs,-⟩:=hr;have HO:=qBK ho;obtain⟨A2,c2,rfl,-⟩:=hcs;obtain rfl:e= .returned (.slice A2 x.length c2):=he;have hb1:=(HM.out.only ho).2;have HB1:=qBK hb1;have k1:=hb1.cell 3;have k2:=hb1.frozen 3;simp at k1;clear ho hb1
 go_wp2_with fail
 go_end0
 refine⟨rfl,x,_,⟨A2,_,c2,rfl⟩,⟨HM.out.1,by simpa using HB1.out.set 3 _⟩,?_⟩;obtain⟨_,cs,he,hcs,ht⟩:=HR.out;obtain rfl:cs=[.slice A2 x.length c2]:=by
  obtain⟨A3,c3,rfl,_⟩:=hcs;injection he with he;simp only[vOne] at he;rw[he]
 exact qD6 hrb hg hBg hBr HB1.out HU.out HM.out.1 HO.out hcs ht
theorem qHV (rb g B:Nat) (v0 v1 v2 v3 v4:Value) (r:Int) (s:Option (List Nat)) (w:World) (h:Mrd w rb g v0 v1 v2 v3 v4 r) (hs:St w g s) (hBg:B≤g) (hBr:B≤rb) (h0:isSl v0) (h1:isSl v1) (h2:isSl v2) (h3:isSl v3) (h4:isSl v4):
 Calls Tryz.prog 127 #[.pointer (some ⟨rb,0,none⟩)] w fun e w'=>e= .returned (.tuple #[])∧∃x u,isSl u∧Mrd w' rb g v0 v1 v2 u v4 r∧Parted (slL numL) (lB numB) (gL 0 16 (fun n=>n<B64)) g rb B s w x u w':=by
 refine qAR ?_;intro HM HU hg hrb HC;have HLi:Hid (∀(w1:World) (n:Nat),Ahead 0 16 g s w n w1→Calls Tryz.prog 194 #[.int .i64 (n:Int),.func (.func 195) #[.pointer (some ⟨rb,0,none⟩)] #[]] w1 fun e w'=>∃x,x.length≤16∧ReadsX (slL numL) vOne (lB numB) (gL 0 16 (fun n=>n<B64)) g s w x e w'):=by
  intro w1 n ha;obtain⟨ho,hcase⟩:=ha;rcases hcase with⟨a1,a2,ys,rfl,a3⟩|⟨rfl,a3,a4⟩
  · exact(qFr rb g n _ qNH _ w1 a3 (by omega) fun w2 s2 ho2 hs2=>qFm rb g v0 v1 v2 v3 v4 r s2 w2 ((h.only ho).only ho2) hs2).mono fun e w' hr=>qBa (by omega) a1 a2 ho hr
  · exact(qFr rb g 0 _ qNH _ w1 a3 (by omega) fun w2 s2 ho2 hs2=>qFm rb g v0 v1 v2 v3 v4 r s2 w2 ((h.only ho).only ho2) hs2).mono fun e w' hr=>qDI ho hr a4
 clear h hs
 go_enter Tryz.func127,Tryz.ntmps127
 go_wp2_with fail
 refine HC.out.mono ?_;intro e wc hc;obtain⟨n,rfl,ha⟩:=qDV hc;have HA:=qBK ha;clear hc ha
 go_wp2_with fail
 refine(HLi.out wc n HA.out).mono ?_;rintro e w1 ⟨x,hxl,hr⟩;have HR:=qBK hr;obtain⟨ho,cs,he,hcs,-⟩:=hr;have HO:=qBK ho;obtain⟨A2,c2,rfl,-⟩:=hcs;obtain rfl:e= .returned (.slice A2 x.length c2):=he;have hb1:=(HM.out.only ho).2;have HB1:=qBK hb1;have k1:=hb1.cell 4;have k2:=hb1.frozen 4;simp at k1;clear ho hb1
 go_wp2_with fail
 go_end0
 refine⟨rfl,x,_,⟨A2,_,c2,rfl⟩,⟨HM.out.1,by simpa using HB1.out.set 4 _⟩,?_⟩;obtain⟨_,cs,he,hcs,ht⟩:=HR.out;obtain rfl:cs=[.slice A2 x.length c2]:=by
  obtain⟨A3,c3,rfl,_⟩:=hcs;injection he with he;simp only[vOne] at he;rw[he]
 exact qD6 hrb hg hBg hBr HB1.out HU.out HM.out.1 HO.out hcs ht
theorem qJW (rb g B:Nat) (v0 v1 v2 v3 v4:Value) (r:Int) (s:Option (List Nat)) (w:World) (h:Mrd w rb g v0 v1 v2 v3 v4 r) (hs:St w g s) (hBg:B≤g) (hBr:B≤rb) (h0:isSl v0) (h1:isSl v1) (h2:isSl v2) (h3:isSl v3) (h4:isSl v4):
 Calls Tryz.prog 128 #[.pointer (some ⟨rb,0,none⟩)] w fun e w'=>e= .returned (.tuple #[])∧∃x u,isSl u∧Mrd w' rb g v0 v1 v2 v3 u r∧Parted (slL strL) (lB pt) (gL 0 16 (fun s=>s.length≤32)) g rb B s w x u w':=by
 refine qAR ?_;intro HM HU hg hrb HC;have HLi:Hid (∀(w1:World) (n:Nat),Ahead 0 16 g s w n w1→Calls Tryz.prog 196 #[.int .i64 (n:Int),.func (.func 197) #[.pointer (some ⟨rb,0,none⟩)] #[]] w1 fun e w'=>∃x,x.length≤16∧ReadsX (slL strL) vOne (lB pt) (gL 0 16 (fun s=>s.length≤32)) g s w x e w'):=by
  intro w1 n ha;obtain⟨ho,hcase⟩:=ha;rcases hcase with⟨a1,a2,ys,rfl,a3⟩|⟨rfl,a3,a4⟩
  · exact(qFq rb g n _ (qIR) _ w1 a3 (by omega) fun w2 s2 ho2 hs2=>qH2 rb g v0 v1 v2 v3 v4 r s2 w2 ((h.only ho).only ho2) hs2).mono fun e w' hr=>qBa (by omega) a1 a2 ho hr
  · exact(qFq rb g 0 _ (qIR) _ w1 a3 (by omega) fun w2 s2 ho2 hs2=>qH2 rb g v0 v1 v2 v3 v4 r s2 w2 ((h.only ho).only ho2) hs2).mono fun e w' hr=>qDI ho hr a4
 clear h hs
 go_enter Tryz.func128,Tryz.ntmps128
 go_wp2_with fail
 refine HC.out.mono ?_;intro e wc hc;obtain⟨n,rfl,ha⟩:=qDV hc;have HA:=qBK ha;clear hc ha
 go_wp2_with fail
 refine(HLi.out wc n HA.out).mono ?_;rintro e w1 ⟨x,hxl,hr⟩;have HR:=qBK hr;obtain⟨ho,cs,he,hcs,-⟩:=hr;have HO:=qBK ho;obtain⟨A2,c2,rfl,-⟩:=hcs;obtain rfl:e= .returned (.slice A2 x.length c2):=he;have hb1:=(HM.out.only ho).2;have HB1:=qBK hb1;have k1:=hb1.cell 5;have k2:=hb1.frozen 5;simp at k1;clear ho hb1
 go_wp2_with fail
 go_end0
 refine⟨rfl,x,_,⟨A2,_,c2,rfl⟩,⟨HM.out.1,by simpa using HB1.out.set 5 _⟩,?_⟩;obtain⟨_,cs,he,hcs,ht⟩:=HR.out;obtain rfl:cs=[.slice A2 x.length c2]:=by
  obtain⟨A3,c3,rfl,_⟩:=hcs;injection he with he;simp only[vOne] at he;rw[he]
 exact qD6 hrb hg hBg hBr HB1.out HU.out HM.out.1 HO.out hcs ht
def gR (x:List (List Typ)):Prop:=x.length≤8∧∀t∈x,recOk x.length t=true
theorem qKu:PF (lB (lB tB)) gR:=by
 intro x y r s hx hy e;have e0:=e;unfold lB at e;rw[List.append_assoc,List.append_assoc] at e;obtain⟨hl,_⟩:=qB3 (by have:=hx.1;unfold B64;omega) (by have:=hy.1;unfold B64;omega) e;have h8:(x.length:Int)≤8:=by have:=hx.1;omega
 exact(qJn h8).list x y r s ⟨by have:=hx.1;unfold B64;omega,hx.2⟩ ⟨by have:=hy.1;unfold B64;omega,by rw[hl];exact hy.2⟩ e0
theorem qHQ (rb g B:Nat) (v0 v1 v2 v3 v4:Value) (r:Int) (s:Option (List Nat)) (w:World) (h:Mrd w rb g v0 v1 v2 v3 v4 r) (hs:St w g s) (hBg:B≤g) (hBr:B≤rb) (h0:isSl v0) (h1:isSl v1) (h2:isSl v2) (h3:isSl v3) (h4:isSl v4):
 Calls Tryz.prog 124 #[.pointer (some ⟨rb,0,none⟩)] w fun e w'=>e= .returned (.tuple #[])∧∃x u,isSl u∧x.length≤8∧Mrd w' rb g u v1 v2 v3 v4 x.length∧Parted (slL tysL) (lB (lB tB)) gR g rb B s w x u w':=by
 have HM:=qBK h;have HU:=qBK (fun r=>qJs (g:=g) (r:=r) h0 h1 h2 h3 h4);have hg:=hs.lt;have hrb:=h.2.lt;refine qA4 ?_;intro HC;clear h hs
 go_enter Tryz.func124,Tryz.ntmps124
 go_wp2_with fail
 refine HC.out.mono ?_;intro e wc hc;obtain⟨n,rfl,ha⟩:=qDV hc;have HA:=qBK ha;have hbc:=(HM.out.only ha.1).2;have HBC:=qBK hbc;have q1:=hbc.cell 6;have q2:=hbc.frozen 6;simp at q1;clear hc ha hbc
 go_wp2_with fail
 refine qBy fun W hW=> ?_;have HB0:Hid (Mrd W rb g v0 v1 v2 v3 v4 n):=⟨HM.out.1,by rw[hW];simpa using HBC.out.set 6 (.int .i64 (n:Int))⟩;have HSt:Hid (∀t,St wc g t→St W g t):=fun t ht=>by rw[hW];exact ht.field HBC.out (HU.out r) HM.out.1 _ _
 have HW:Hid (Below B w W∧(∀b,b<w.heap.size→b≠g→b≠rb→W.heap[b]? =w.heap[b]?)∧w.heap.size≤W.heap.size):=by
  have hbl:Below B w wc:=qCN HA.out.1 hBg (by omega);refine⟨by rw[hW];exact hbl.setCell (p:=⟨rb,6,none⟩) hBr _,fun b h1 h2 h3=> ?_,by rw[hW];simpa using HA.out.1.size⟩;rw[hW,qBP _ _ _ _ (by simpa using h3)];exact HA.out.1.block b h1 (fun e=>h2 (by injection e))
 clear hW;have hn8:n≤8:=by
  rcases HA.out.2 with⟨_,a,_⟩|⟨a,_⟩<;>omega
 obtain⟨t0,ht0,HT⟩:∃t0,St W g t0∧∀x t,x.length=n→Upto (lB tB) (fun ts=>recOk n ts=true) n t0 t x→Got (lB (lB tB)) gR s t x:=by
  rcases HA.out.2 with⟨a1,a2,ys,rfl,a3⟩|⟨rfl,a3,a4⟩
  · refine⟨some ys,HSt.out _ a3,fun x t hx hu=> ?_⟩
    rcases hu with⟨hg',zs,rest,e1,e2,rfl⟩|⟨rfl,hno⟩
    · injection e1 with e1
      subst e1 e2;exact .inl ⟨⟨by omega,by rw[hx];exact hg'⟩,_,rest,rfl,by simp[lB,hx],rfl⟩
    · refine .inr ⟨rfl,fun zs e1 ⟨y,r',hy,e2⟩=> ?_⟩
      injection e1 with e1;subst e1;have e3:=e2;unfold lB at e3;rw[List.append_assoc] at e3;obtain⟨hl,e4⟩:=qB3 qj (by have:=hy.1;unfold B64;omega) e3;exact hno ys rfl ⟨y,r',hl.symm,by rw[hl];exact hy.2,e4⟩
  · refine⟨none,HSt.out _ a3,fun x t hx hu=> ?_⟩
    rcases hu with⟨hg',zs,rest,e1,_⟩|⟨rfl,hno⟩
    · cases e1
    · refine .inr ⟨rfl,fun zs e1 ⟨y,r',hy,e2⟩=>a4 zs e1 ⟨y.length,(y.map (lB tB)).flatten++r',qBU _,hy.1,?_⟩⟩
      rw[e2];unfold lB;rw[List.append_assoc]
 have HTT:=qBK HT;have HS0:=qBK ht0;clear HT ht0;have hn8i:(n:Int)≤8:=by omega
 refine(qJy rb g n _ (qJn hn8i) t0 W HS0.out (by omega) fun w2 s2 ho2 hs2=>qIH rb g v0 v1 v2 v3 v4 n hn8i s2 w2 (HB0.out.only ho2) hs2).mono ?_;rintro e w1 ⟨ho,u,x,rfl,hown,hxl,hh⟩;have HO:=qBK ho;have hcs:=hown.slice;have HCS:=qBK hcs;have HH:=qBK hh;have HXL:=qBK hxl;obtain⟨A2,c2,he,-⟩:=hcs;simp only[List.cons.injEq,and_true] at he;subst he;have hb1:=(HB0.out.only ho).2;have HB1:=qBK hb1;have k1:=hb1.cell 1;have k2:=hb1.frozen 1;simp at k1;clear ho hb1 hown hh hxl
 go_wp2_with fail
 go_end0
 refine⟨rfl,x,.slice A2 x.length c2,⟨A2,_,c2,rfl⟩,by rw[HXL.out];exact hn8,⟨HM.out.1,by have h7:=HB1.out.set 1 (.slice A2 x.length c2);rw[←HXL.out] at h7;simpa using h7⟩,?_⟩;have hbl:Below B W w1:=qCN HO.out hBg (by have:=HW.out.2.2;omega);refine⟨(HW.out.1.trans hbl).setCell (p:=⟨rb,1,none⟩) hBr _,?_,fun b h1 h2 h3=> ?_,?_⟩
 · exact(slL tysL).wide ((slL tysL).up HCS.out ((Abv.refl w.heap.size w1).set rb _ hrb) HW.out.2.2) fun b hb=>hb
 · rw[qBP _ _ _ _ (by simpa using h3)]
   exact(HO.out.block b (by have:=HW.out.2.2;omega) (fun e=>h2 (by injection e))).trans (HW.out.2.1 b h1 h2 h3)
 · rcases HH.out with⟨a1,zs,rest,a2,a3,a4⟩|⟨a1,a2⟩
   · exact⟨some rest,a4.field HB1.out (HU.out _) HM.out.1 _ _,HTT.out x _ HXL.out (.inl ⟨a1,zs,rest,a2,a3,rfl⟩)⟩
   · exact⟨none,a1.field HB1.out (HU.out _) HM.out.1 _ _,HTT.out x _ HXL.out (.inr ⟨rfl,a2⟩)⟩
theorem sl_info:(Tryz.prog.info? 76).map (fun i=>(i.zero,i.size,i.bytes))=some (some (.slice none 0 0),1,24):=by kernel_rfl
theorem qGJ (w:World) (base ty:Nat) (v:Value) (n:Nat) (cs:List Value) (hown:w.ownsRow base 76 1 v n cs) (ad:Addr) (B:Option Addr) (m c d:Nat) (hcell:w.cell? ad=some (.slice B m c)) (hbig:n≤1000000) (hbase:base≤w.heap.size):
 ∃v' w',(Builtin.append_ #[204,204] ty #[v,.slice (some ad) 1 d]).run Tryz.prog w= .ok v' w'∧w'.ownsRow base 76 1 v' (n+1) (cs++[.slice B m c])∧w.grownBy w' v.ownBlock∧
  (v'.ownBlock=v.ownBlock∨v'.ownBlock=some w.heap.size):=by
 obtain⟨i0,hi0,hz0,hz1,hz2⟩:=info_parts sl_info;obtain⟨v',w',hrun,h2,h3,_,h5⟩:=run_append_own_at (P:=Tryz.prog) w base 204 ty 76 i0 (.slice none 0 0) 1 24 Tryz.underlying204 hi0 hz0 hz1 hz2 rfl (by omega) v n cs hown ad 1 d [.slice B m c] rfl
  (fun j u hu=>by
    cases j with
    |zero=>simp at hu;subst hu;simpa[Addr.add] using hcell
    |succ j=>simp at hu)
  (fun u hu=>by simp at hu;subst hu;rfl) zM (by omega) hbase
 exact⟨v',w',hrun,h2,h3,h5⟩
theorem qFT (w:World) {ops:Array Oper} {rest:List Oper} {o:Oper} {a:Act} {Q:Exit→Act→World→Prop} (hgd:o.guard=none) (s x:Operand)
 (ho:o.op= .call {callee:= .builtin .append,args:= #[s,x],argTypes:= #[204,204]})
 (base:Nat) (v:Value) (n:Nat) (cs:List Value) (hs:a.eval s=v) (hown:w.ownsRow base 76 1 v n cs) (ad:Addr) (B:Option Addr) (m c d:Nat) (hx:a.eval x= .slice (some ad) 1 d) (hcell:w.cell? ad=some (.slice B m c)) (hbig:n≤1000000) (hbase:base≤w.heap.size)
 (h:∀v' w',w'.ownsRow base 76 1 v' (n+1) (cs++[.slice B m c])→w.grownBy w' v.ownBlock→(v'.ownBlock=v.ownBlock∨v'.ownBlock=some w.heap.size)→wpList Tryz.prog ops Q rest (a.put o.dst v') w'):
 wpList Tryz.prog ops Q (o::rest) a w:=by
 refine wpList_plain hgd fun _ hK=> ?_;obtain⟨v',w',hrun,h2,h3,h4⟩:=qGJ w base o.type v n cs hown ad B m c d hcell hbig hbase;unfold Oper.wp execOp;simp only[ho,resolve,invoke,builtin,Sem.run_bind,Sem.run_pure,Result.andThen_ok,List.map_toArray,List.map_cons,List.map_nil,hs,hx,hrun];exact hK _ _ (h v' w' h2 h3 h4)
def Cel (S:Nat→Prop) (w:World) (cs:List Value) (xss:List (List Nat)):Prop:=
 cs.length=xss.length∧∀j,j<xss.length→∃B c,cs[j]? =some (.slice B (xss[j]?.getD []).length c)∧(xss[j]?.getD []).length≤c∧Byt S w B (xss[j]?.getD [])
theorem Cel.nil (S:Nat→Prop) (w:World):Cel S w [] []:=⟨rfl,fun j hj=>absurd hj (by simp)⟩
theorem Cel.keep {w':World} (h:Cel S w cs xss) (hk:∀b,S b→w'.heap[b]? =w.heap[b]?):Cel S w' cs xss:=⟨h.1,fun j hj=>by
 obtain⟨B,c,h1,h2,h3⟩:=h.2 j hj;exact⟨B,c,h1,h2,h3.keep hk⟩⟩
theorem Cel.wide {T:Nat→Prop} (h:Cel S w cs xss) (hk:∀b,S b→T b):Cel T w cs xss:=⟨h.1,fun j hj=>by
 obtain⟨B,c,h1,h2,h3⟩:=h.2 j hj;exact⟨B,c,h1,h2,h3.wide hk⟩⟩
theorem Cel.snoc (h:Cel S w cs xss) {x:List Nat} {B:Option Addr} {m c:Nat} (hm:x.length=m) (hc:m≤c) (hB:Byt S w B x):Cel S w (cs++[.slice B m c]) (xss++[x]):=by
 subst hm;refine⟨by simp[h.1],fun j hj=> ?_⟩;rcases Nat.lt_or_ge j xss.length with hlt|hge
 · rw[List.getElem?_append_left (by rw[h.1];exact hlt),List.getElem?_append_left hlt]
   exact h.2 j hlt
 · obtain rfl:j=xss.length:=by simp at hj;omega
   refine⟨B,c,?_,?_,?_⟩
   · rw[List.getElem?_append_right (by rw[h.1];exact qBL _),h.1]
     simp
   · simpa using hc
   · simpa using hB
theorem qNJ {base n:Nat} {v:Value} {T:Nat→Prop} (h:w.ownsRow base 76 1 v n cs) (hn:xss.length=n) (hc:Cel S w cs xss) (hS:∀b,S b→T b) (hT:∀b,base≤b→b<w.heap.size→T b):
 ∃A c,v= .slice A n c∧n≤c∧c≤maxLen∧Rws T w A xss:=by
 rcases h.2 with⟨rfl,h0⟩|⟨g,cap,cur,rfl,hb,hg,hnc,hcm,_,_⟩
 · exact qt
 · refine⟨some ⟨g,0,none⟩,cap,rfl,hnc,hcm,fun _=>⟨⟨g,0,none⟩,rfl,hT g hb (Array.getElem?_eq_some_iff.1 hg).1,fun j hj=> ?_⟩⟩
   obtain⟨B,c,h1,h2,h3⟩:=hc.2 j hj;exact⟨B,c,h.cells rfl j _ h1,h2,h3.wide hS⟩
theorem part_ok (g:Nat) (xs:List Nat) (m j:Nat) (w:World) (h:Good w g xs) (hb:∀x∈xs,x<256) (hp:HasPart xs m j) (hl:xs.length≤1000000):
 Calls Tryz.prog 186 #[.pointer (some ⟨g,0,none⟩)] w fun e w'=>∃A c,e= .returned (.tuple #[.slice A m c,.bool true])∧m≤c∧Byt (fun b=>w.heap.size≤b∧b<w'.heap.size) w' A ((xs.drop j).take m)∧Good w' g (xs.drop (j+m))∧Only g w w':=by
 have hv:=qBK (qB1 g xs m j w h hb hp.1 (by omega));have hj:=hp.2;have hj1:=hp.1.1;have hl2:(xs.drop j).length=xs.length-j:=by simp
 obtain⟨q,hq⟩:∃q,xs.drop j=q:=⟨_,rfl⟩;have hqm:m≤q.length:=by rw[←hq,hl2];omega
 have hql:q.length≤1000000:=by rw[←hq,hl2];omega
 have HQ:=qBK hq;have Hq2:Hid (xs.drop (j+m)=q.drop m):=by show xs.drop (j+m)=q.drop m;rw[←hq,List.drop_drop]
 have t1:decide ((q.length:Int)<(m:Int))=false:=by simp;omega
 clear h hb hp hq hl2
 go_enter Tryz.func186,Tryz.ntmps186
 go_wp2_with (go_at_call 185
              refine hv.out.mono ?_;rintro e w1 ⟨rfl,hG1,hO1⟩;rw[HQ.out] at hG1;have HG1:=qBK hG1;have HO1:=qBK hO1;clear hG1 hO1)
 obtain⟨A1,c1,hk1,-,-,-⟩:=HG1.out;have HK1:=qBK hk1;clear hk1;refine(qBq g _ _ w1 HK1.out).mono ?_;rintro e w' ⟨rfl,rfl⟩
 go_wp2_with fail
 refine(qB4 g q w1 HG1.out).mono ?_;rintro e w' ⟨rfl,rfl⟩
 go_wp2_with fail
 refine(qKg g m q w1 HG1.out hqm (by omega)).mono ?_;rintro e w2 ⟨v2,rfl,hown2,hG2,hO2⟩;obtain⟨A2,c2,rfl,-,hc2,-,hB2⟩:=qBu hown2;have HB2:=qBK hB2;have HG2:=qBK hG2;have HO2:=qBK hO2;clear hown2 hB2 hG2 hO2
 go_wp2_with fail
 go_ret2;refine⟨A2,c2,rfl,hc2,?_,?_,qBb HO1.out HO2.out⟩
 · rw[HQ.out]
   exact HB2.out.wide fun b hb=>⟨qBZ HO1.out.size hb.1,hb.2⟩
 · rw[Hq2.out]
   exact HG2.out
theorem part_no (g:Nat) (xs:List Nat) (w:World) (h:Good w g xs) (hb:∀x∈xs,x<256) (hp:¬∃m j,HasPart xs m j) (hl:xs.length≤1000000):
 Calls Tryz.prog 186 #[.pointer (some ⟨g,0,none⟩)] w fun e w'=>e= .returned (.tuple #[.slice none 0 0,.bool false])∧Only g w w':=by
 by_cases hvar:∃v n,IsVar xs v n
 · obtain⟨m,j,hvar⟩:=hvar
   have hv:=qBK (qB1 g xs m j w h hb hvar (by omega));have hm64:m<B64:=hvar.2.2;unfold B64 at hm64;have hj:¬j+m≤xs.length:=fun e=>hp ⟨m,j,hvar,e⟩;have hj1:=hvar.1;have hl2:(xs.drop j).length=xs.length-j:=by simp
   obtain⟨q,hq⟩:∃q,xs.drop j=q:=⟨_,rfl⟩;have hqm:q.length<m:=by rw[←hq,hl2];omega
   have hql:q.length≤1000000:=by rw[←hq,hl2];omega
   have HQ:=qBK hq;clear h hb hp hq hl2 hvar hj
   go_enter Tryz.func186,Tryz.ntmps186
   go_wp2_with (go_at_call 185
                refine hv.out.mono ?_;rintro e w1 ⟨rfl,hG1,hO1⟩;rw[HQ.out] at hG1;have HG1:=qBK hG1;have HO1:=qBK hO1;clear hG1 hO1)
   obtain⟨A1,c1,hk1,-,-,-⟩:=HG1.out;have HK1:=qBK hk1;clear hk1;refine(qBq g _ _ w1 HK1.out).mono ?_;rintro e w' ⟨rfl,rfl⟩
   go_wp2_with fail
   refine(qB4 g q w1 HG1.out).mono ?_;rintro e w' ⟨rfl,rfl⟩
   go_wp2_with fail
   go_ret2;exact⟨rfl,HO1.out⟩
 · have hv:=qBK (qDE g xs w h hb hvar (by omega))
   clear h hb hp hvar
   go_enter Tryz.func186,Tryz.ntmps186
   go_wp2_with (go_at_call 185
                refine hv.out.mono ?_;rintro e w1 ⟨rfl,hG1,hO1⟩;have HG1:=qBK hG1;have HO1:=qBK hO1;clear hG1 hO1)
   refine(qBq g _ _ w1 HG1.out).mono ?_;rintro e w' ⟨rfl,rfl⟩
   go_wp2_with fail
   go_ret2;exact⟨rfl,HO1.out⟩
def Pil (g:Nat) (bs:List Nat) (w0:World) (v:Value) (pre:List (List Nat)) (rest:List Nat) (wr:World):Prop:=
 bs=pts pre++rest∧Good wr g rest∧(∃cs,wr.ownsRow w0.heap.size 76 1 v pre.length cs∧Cel (fun b=>w0.heap.size≤b∧b<wr.heap.size∧v.ownBlock≠some b) wr cs pre)∧Only g w0 wr∧g<w0.heap.size
theorem Pil.start {bs:List Nat} {w0:World} (h:Good w0 g bs):Pil g bs w0 (.slice none 0 0) [] bs w0:=
 ⟨rfl,h,⟨[],World.ownsRow_nil _ _ _ _,Cel.nil _ _⟩,qBv _ _,h.lt⟩
theorem Pil.took {bs:List Nat} {w0 wr w3:World} {v:Value} {pre:List (List Nat)} {rest rest' x:List Nat} {A:Option Addr} {m c:Nat} (h:Pil g bs w0 v pre rest wr) (hO:Only g wr w3) (hm:x.length=m) (hc:m≤c) (hB:Byt (fun b=>wr.heap.size≤b∧b<w3.heap.size) w3 A x):
 ∃cs,(w3.alloc (.cells #[.slice A m c] 76)).ownsRow w0.heap.size 76 1 v pre.length cs∧
  ∀v' w5,w5.ownsRow w0.heap.size 76 1 v' (pre.length+1) (cs++[.slice A m c])→(w3.alloc (.cells #[.slice A m c] 76)).grownBy w5 v.ownBlock→(v'.ownBlock=v.ownBlock∨v'.ownBlock=some (w3.alloc (.cells #[.slice A m c] 76)).heap.size)→
   Good w3 g rest'→bs=pts pre++(pt x++rest')→Pil g bs w0 v' (pre++[x]) rest' w5:=by
 obtain⟨-,hG,⟨cs,hown,hcel⟩,hOn,hg⟩:=h;have hsn:=hOn.size;have hs:=hO.size;have hvg:v.ownBlock=none∨v.ownBlock≠some g:= .inr fun e=>by have:=(hown.lt g e).1;omega
 refine⟨cs,(hown.kept hO hvg).alloc _,fun v' w5 hown5 hg5 hv' hG3 hbs=> ?_⟩;have hs5:=hg5.size;simp at hs5;have hsa:(w3.alloc (.cells #[.slice A m c] 76)).heap.size=w3.heap.size+1:=by simp
 have hkeep:∀b,b<w3.heap.size→v.ownBlock≠some b→w5.heap[b]? =w3.heap[b]? :=fun b hb hne=>
  (hg5.block b (by omega) (fun e=>hne e.symm)).trans (qBX w3 _ b hb)
 have hkeep2:∀b,b<wr.heap.size→b≠g→v.ownBlock≠some b→w5.heap[b]? =wr.heap[b]? :=fun b hb hne1 hne2=>
  (hkeep b (by omega) hne2).trans (hO.block b hb (fun e=>hne1 (by injection e)))
 have hvlt:∀b,v.ownBlock=some b→w0.heap.size≤b∧b<wr.heap.size:=fun b e=>hown.lt b e;have hne':∀b,b<w3.heap.size→v.ownBlock≠some b→v'.ownBlock≠some b:=fun b hb hne e=>by
  rcases hv' with hv'|hv'
  · exact hne (hv'▸e)
  · rw[hv',hsa] at e
    injection e with e
    omega
 refine⟨by rw[qIQ,List.append_assoc];exact hbs,?_,⟨_,by simpa using hown5,?_⟩,?_⟩
 · exact hG3.keep fun b hb=>hkeep b (by omega) (fun e=>by have:=hvlt b e;omega)
 · refine Cel.snoc ?_ hm hc ?_
   · exact(hcel.keep fun b hb=>hkeep2 b hb.2.1 (by omega) hb.2.2).wide fun b hb=>⟨hb.1,by omega,hne' b (by omega) hb.2.2⟩
   · refine(hB.keep fun b hb=>hkeep b hb.2 (fun e=>by have:=hvlt b e;omega)).wide fun b hb=>⟨by omega,by omega,hne' b hb.2 (fun e=>by have:=hvlt b e;omega)⟩
 · refine⟨⟨hg5.os.trans (hO.os.trans hOn.os),hg5.tape.trans (hO.tape.trans hOn.tape),hg5.output.trans (hO.output.trans hOn.output),by omega,fun b hb hne=> ?_⟩,hg⟩
   exact(hkeep2 b (by omega) (fun e=>hne (by rw[e])) (fun e=>by have:=hvlt b e;omega)).trans (hOn.block b hb hne)
def Splits (xs:List Nat) (most:Int) (w:World) (e:Ending) (w':World):Prop:=
 Below w.heap.size w w'∧((∃xss A c,IsJoin xs most xss∧e= .returned (.tuple #[.slice A xss.length c,.int .i64 0])∧xss.length≤c∧Rws (fun b=>w.heap.size≤b∧b<w'.heap.size) w' A xss)∨
  ((¬∃xss,IsJoin xs most xss)∧e= .returned (.tuple #[.slice none 0 0,.int .i64 2])))
theorem qLQ (A:Option Addr) (n0 c:Nat) (xs:List Nat) (most:Int) (w:World) (hx:xs.length=n0) (hb:∀x∈xs,x<256) (hB:Byt (·<w.heap.size) w A xs) (hl:n0≤1000000) (hmost: -9223372036854775808≤most∧most<9223372036854775808):
 Calls Tryz.prog 123 #[.slice A n0 c,.int .i64 most] w (Splits xs most w):=by
 have HX:=qBK hx;have Hb:=qBK hb;have HB:=qBK hB;have H64:Hid (xs.length<B64):=by show xs.length<B64;unfold B64;omega
 clear hx hb hB
 go_enter Tryz.func123,Tryz.ntmps123
 go_wp2_with fail
 refine(qCJ A n0 c xs w HX.out HB.out (by omega)).mono ?_;rintro e w1 ⟨g,rfl,hG1,hg,hb1⟩;have HG1:=qBK hG1;have HB1:=qBK hb1;clear hG1 hb1
 by_cases hvar:∃v n,IsVar xs v n
 · obtain⟨n,k,hvar⟩:=hvar
   have HV:=qBK hvar;have hn64:=hvar.2.2;unfold B64 at hn64;clear hvar
   go_wp2_with fail
   refine(qB1 g xs n k w1 HG1.out Hb.out HV.out (by have:=HX.out;omega)).mono ?_;rintro e w2 ⟨rfl,hG2,hO2⟩;obtain⟨bs,hbs⟩:∃bs,xs.drop k=bs:=⟨_,rfl⟩;rw[hbs] at hG2;have HBS:=qBK hbs;have hbl:bs.length≤1000000:=by rw[←hbs,List.length_drop,HX.out];omega
   have Hbb:Hid (∀x∈bs,x<256):=by show ∀x∈bs,x<256;rw[←hbs];exact fun x hx=>Hb.out x (List.mem_of_mem_drop hx)
   have HG2:=qBK hG2;have HO2:=qBK hO2;have HB2:Hid (Below w.heap.size w w2):=HB1.out.trans (qCN hO2 hg HB1.out.size);clear hG2 hO2 hbs;obtain⟨A1,c1,hk1,-,-,-⟩:=HG2.out;have HK1:=qBK hk1;clear hk1
   go_wp2_with fail
   refine(qBq g _ _ w2 HK1.out).mono ?_;rintro e w' ⟨rfl,rfl⟩
   by_cases hm0:most<0
   · go_wp2_with fail
     go_ret2;exact⟨HB2.out,.inr ⟨qEY H64.out HV.out (by omega),rfl⟩⟩
   · obtain⟨mo,rfl⟩:∃mo:Nat,most=(mo:Int):=⟨most.toNat,by omega⟩
     clear hm0
     by_cases hmn:mo<n
     · go_wp2_with fail
       go_ret2;exact⟨HB2.out,.inr ⟨qEY H64.out HV.out (by omega),rfl⟩⟩
     · go_wp2_with fail
       go_loopw [8,28] (fun v i wr=>∃pre rest,pre.length≤n∧pre.length≤1000000∧i= .int .u64 ((pre.length:Nat):Int)∧Pil g bs w2 v pre rest wr) (fun _ i _=>n-(intOf i).toNat)
       case atStart=>exact⟨[],bs,qBU _,by simp,rfl,Pil.start HG2.out⟩
       case round=>
        obtain⟨pre,rest,hpn,hpm,rfl,hpil⟩:=hrel;have HP:=qBK hpil;have HGr:=qBK hpil.2.1;have HBr:Hid (Below w.heap.size w wr):=HB2.out.trans (qCN hpil.2.2.2.1 hg HB2.out.size);have hrl:pre.length+rest.length≤bs.length:=by
         rw[hpil.1,List.length_append];have:=qFi pre
         omega
        have Hrb:Hid (∀x∈rest,x<256):=fun x hx=>Hbb.out x (by rw[hpil.1];exact List.mem_append_right _ hx);clear hpil;obtain⟨p,hp⟩:∃p,pre.length=p:=⟨_,rfl⟩;rw[hp] at hpn hpm hrl⊢;have HPL:=qBK hp;clear hp
        by_cases hlt:p<n
        · by_cases hpart:∃m j,HasPart rest m j
          · obtain⟨m,j,hpart⟩:=hpart
            have HH:=qBK hpart;obtain⟨hs1,hs2⟩:=qGN hpart;have HS1:=qBK hs1;have HS2:=qBK hs2;have hjm:=hpart.2;have hj0:=hpart.1.pos;clear hpart hs1 hs2
            go_wp2_with fail
            refine(part_ok g rest m j wr HGr.out Hrb.out HH.out (by omega)).mono ?_;rintro e w3 ⟨A3,c3,rfl,hc3,hB3,hG3,hO3⟩;have HO3:=qBK hO3;have HG3:=qBK hG3;obtain⟨cs,hown4,hnext⟩:=HP.out.took (rest':=rest.drop (j+m)) hO3 HS1.out hc3 hB3;rw[HPL.out] at hown4 hnext;have HO4:=qBK hown4;have HN:=qBK hnext;have hsz:Hid (w2.heap.size≤(w3.alloc (.cells #[.slice A3 m c3] 76)).heap.size):=by
             have h1:=HP.out.2.2.2.1.size;have h2:=hO3.size
             show w2.heap.size≤(w3.alloc (.cells #[.slice A3 m c3] 76)).heap.size
             simp
             omega
            clear hO3 hG3 hB3 hown4 hnext
            go_wp2_with (at_builtin
                         refine qFT _ rfl (.tmp 37) (.tmp 39) rfl w2.heap.size u8 p cs rfl HO4.out ⟨w3.heap.size,0,none⟩ A3 m c3 1 rfl (cell_one_new _ _ _ 0 _ rfl) hpm hsz.out ?_;intro v5 w5 hown5 hg5 hv5;have HP5:=qBK (HN.out v5 w5 hown5 hg5 hv5 HG3.out (by rw[←HS2.out];exact HP.out.1));clear hown5 hg5 hv5)
            refine⟨⟨pre++[(rest.drop j).take m],rest.drop (j+m),by simp[HPL.out];omega,by simp[HPL.out];omega,by simp[HPL.out],HP5.out⟩,by simp[intOf];omega⟩
          · have HH:=qBK hpart
            clear hpart
            go_wp2_with fail
            refine(part_no g rest wr HGr.out Hrb.out HH.out (by omega)).mono ?_;rintro e w3 ⟨rfl,hO3⟩;have HO3:=qBK hO3;clear hO3
            go_wp2_with fail
            go_ret2;refine⟨HBr.out.trans (qCN HO3.out hg HBr.out.size),.inr ⟨qEZ H64.out HV.out ?_,rfl⟩⟩;rw[HBS.out];exact body_no qj HP.out.1 (by rw[HPL.out];exact hlt) HH.out
        · obtain rfl:p=n:=by omega
          go_wp2_with fail
          refine(qB4 g rest wr HGr.out).mono ?_;rintro e w' ⟨rfl,rfl⟩
          by_cases hr0:rest=[]
          · subst hr0
            go_wp2_with fail
            go_ret2;obtain⟨h1,-,⟨cs,hown,hcel⟩,h3,h4⟩:=HP.out;obtain⟨A5,c5,rfl,h5,-,h6⟩:=qNJ (T:=fun b=>w.heap.size≤b∧b<wr.heap.size) hown rfl hcel (fun b hb=>⟨by have:=HB2.out.size;omega,hb.2.1⟩) (fun b hb1 hb2=>⟨by have:=HB2.out.size;omega,hb2⟩);refine⟨HBr.out,.inl ⟨pre,A5,c5,qIp HV.out (by omega) ⟨HPL.out,?_⟩,rfl,h5,h6⟩⟩;rw[HBS.out,h1,List.append_nil]
          · have hr1:0<rest.length:=List.length_pos_iff.2 hr0
            have HR0:=qBK hr0;clear hr0
            go_wp2_with fail
            go_ret2;refine⟨HBr.out,.inr ⟨qEZ H64.out HV.out ?_,rfl⟩⟩;rw[HBS.out];exact qMV qj HP.out.1 HPL.out HR0.out
 · have HV:=qBK hvar
   clear hvar
   go_wp2_with fail
   refine(qDE g xs w1 HG1.out Hb.out HV.out (by have:=HX.out;omega)).mono ?_;rintro e w2 ⟨rfl,hG2,hO2⟩;have HG2:=qBK hG2;have HB2:Hid (Below w.heap.size w w2):=HB1.out.trans (qCN hO2 hg HB1.out.size);clear hG2 hO2
   go_wp2_with fail
   refine(qBq g _ _ w2 HG2.out).mono ?_;rintro e w' ⟨rfl,rfl⟩
   go_wp2_with fail
   go_ret2;exact⟨HB2.out,.inr ⟨qIX H64.out HV.out,rfl⟩⟩
end Go.Proofs.YtgdbhanhmenmfaaGreat
