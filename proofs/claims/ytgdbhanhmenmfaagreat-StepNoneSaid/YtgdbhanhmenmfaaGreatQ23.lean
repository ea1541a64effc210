/-
De
-/
import Derived.Test.YtgdbhanhmenmfaaGreatQ22
import Derived.Laws.EntriesVeiled
import Derived.LoopN
set_option linter.unusedSimpArgs false
set_option linter.unusedVariables false
set_option maxRecDepth 100000
set_option maxHeartbeats 8000000
namespace Go.Proofs.YtgdbhanhmenmfaaGreat
open Go.RowKit
theorem qX {P:Prop} (h:P:=by simp[results,Tryz.results63,go_sem,n0,n1,n2,n3,n4]):P:=h
theorem za {P:Prop} (h:P:=by
 go_wp2_with fail
 exact bodyPost_ret (v:= .tuple #[.agg #[.slice none 0 0,.slice none 0 0,.slice none 0 0,.slice none 0 0,.slice none 0 0],.int .i64 2]) qX rfl ⟨(HB1.out).trans ((((((qBO _ _).setCell (p:=⟨w.heap.size,0,none⟩) (qBL _) _).setCell (p:=⟨w.heap.size,1,none⟩) (qBL _) _).setCell (p:=⟨w.heap.size,2,none⟩) (qBL _) _).setCell (p:=⟨w.heap.size,3,none⟩) (qBL _) _).setCell (p:=⟨w.heap.size,4,none⟩) (qBL _) _),.inr ⟨HNO.out,rfl⟩⟩):P:=h
theorem qMc (a:Addr):a.add 0=a:=by simp[Addr.add]
theorem qEl (a:Addr) (j:Nat) (hj:0<j):a.add j=⟨a.block,a.off+j,none⟩:=by
 have:j≠0:=by omega
 simp[Addr.add,this]
theorem qDN {p:Option Addr} {v0 v1 v2 v3 v4:Value} {r:Int} (h0:isSl v0) (h1:isSl v1) (h2:isSl v2) (h3:isSl v3) (h4:isSl v4):∀v∈(#[.pointer p,v0,v1,v2,v3,v4,.int .i64 r]:Array Value),∀n,v≠.int .u8 n:=by
 obtain⟨_,_,_,rfl⟩:=h0;obtain⟨_,_,_,rfl⟩:=h1;obtain⟨_,_,_,rfl⟩:=h2;obtain⟨_,_,_,rfl⟩:=h3;obtain⟨_,_,_,rfl⟩:=h4;intro v hv n;simp at hv;rcases hv with rfl|rfl|rfl|rfl|rfl|rfl|rfl<;>simp
theorem qKN (A:Option Addr) (n c:Nat) (xs:List Nat) (w:World) (hx:xs.length=n) (hb:∀x∈xs,x<256) (hB:Byt (·<w.heap.size) w A xs) (hl:n≤1000000):Calls Tryz.prog 63 #[.slice A n c] w (Decodes xs w):=by
 have HX:=qBK hx;have HBy:=qBK hb;have h64:xs.length<B64:=by rw[hx];unfold B64;omega
 go_enter Tryz.func63,Tryz.ntmps63
 go_wp2_with fail
 refine qBy fun W hW=> ?_;have HN0:Hid (Blk W w.heap.size 28 #[.slice none 0 0,.slice none 0 0,.slice none 0 0,.slice none 0 0,.slice none 0 0]):=by show Blk _ _ _ _;rw[hW];exact heap_alloc_new w _
 have HB0:Hid (Below w.heap.size w W):=by show Below _ _ _;rw[hW];exact(qBO _ _).alloc (qBL _) _
 have hYW:Byt (·<W.heap.size) W A xs:=(hB.below HB0.out (qBL _)).wide fun b h1=>qBN h1 HB0.out.size;clear hW;refine(qLQ A n c xs 5 W hx hb hYW hl (by omega)).mono ?_;clear hYW hB hx hb;rintro e w1 ⟨hb1,⟨xss,A2,c2,hJ,he,hc2,hR⟩|⟨hno,rfl⟩⟩;rotate_left
 · have HNO:=qBK (qNV hno)
   have HB1:=qBK (HB0.out.trans (hb1.mono HB0.out.size));have hN:Blk _ w.heap.size 28 #[.slice none 0 0,.slice none 0 0,.slice none 0 0,.slice none 0 0,.slice none 0 0]:=(hb1.block w.heap.size HN0.out.lt).trans HN0.out;refine jK ?_;intro n0 m0 n1 m1 n2 m2 n3 m3 n4 m4;simp at n0 n1 n2 n3 n4;clear hN;clear hno hb1;exact za
 have HB1:=qBK (HB0.out.trans (hb1.mono HB0.out.size));have HN1:Hid (Blk w1 w.heap.size 28 #[.slice none 0 0,.slice none 0 0,.slice none 0 0,.slice none 0 0,.slice none 0 0]):=(hb1.block w.heap.size HN0.out.lt).trans HN0.out
 by_cases h5:xss.length=5
 rotate_left
 · have HNO:=qBK (no_five h64 hJ.1 h5)
   obtain⟨k,hk⟩:∃k,xss.length=k:=⟨_,rfl⟩;rw[hk] at he h5 hc2;subst he;have t1:((k:Int) != 5)=true:=by simp;omega
   have hN:Blk _ w.heap.size 28 #[.slice none 0 0,.slice none 0 0,.slice none 0 0,.slice none 0 0,.slice none 0 0]:=HN1.out;refine jK ?_;intro n0 m0 n1 m1 n2 m2 n3 m3 n4 m4;simp at n0 n1 n2 n3 n4;clear hN;clear hR hJ hk hb1 hc2;exact za
 obtain⟨p0,p1,p2,p3,p4,rfl⟩:∃p0 p1 p2 p3 p4,xss=[p0,p1,p2,p3,p4]:=by
  match xss,h5 with
  |[p0,p1,p2,p3,p4],_=>exact⟨p0,p1,p2,p3,p4,rfl⟩
 have HJ:=qBK hJ.1;have hlen:(joinB [p0,p1,p2,p3,p4]).length≤1000000:=by rw[←hJ.1,HX.out];exact hl
 have hpb:∀x∈joinB [p0,p1,p2,p3,p4],x<256:=by rw[←hJ.1];exact HBy.out
 simp only[joinB,pts,pt,List.map_cons,List.map_nil,List.flatten_cons,List.flatten_nil,List.length_append,List.append_nil] at hlen hpb;obtain⟨a,ea,hab,hcell⟩:=hR (by simp);subst ea;obtain rfl:e= .returned (.tuple #[.slice (some a) 5 c2,.int .i64 0]):=he;obtain⟨B0,k0,q0,hq0,hY0⟩:=hcell 0 (by simp);simp only[List.getElem?_cons_zero,List.getElem?_cons_succ,Option.getD_some] at q0 hq0 hY0;rw[qMc] at q0;have HY0:Hid (Byt (·<w1.heap.size) w1 B0 p0):=hY0.wide fun b hb=>hb.2;have HQ0:=qBK q0;have hl0:p0.length≤1000000:=by omega
 have HP0:Hid (∀x∈p0,x<256):=fun x hx=>hpb x zN;clear hY0 q0 hq0;obtain⟨B1,k1,q1,hq1,hY1⟩:=hcell 1 (by simp);simp only[List.getElem?_cons_zero,List.getElem?_cons_succ,Option.getD_some] at q1 hq1 hY1;rw[qEl a 1 (by omega)] at q1;have HY1:Hid (Byt (·<w1.heap.size) w1 B1 p1):=hY1.wide fun b hb=>hb.2;have HQ1:=qBK q1;have hl1:p1.length≤1000000:=by omega
 have HP1:Hid (∀x∈p1,x<256):=fun x hx=>hpb x zN;clear hY1 q1 hq1;obtain⟨B2,k2,q2,hq2,hY2⟩:=hcell 2 (by simp);simp only[List.getElem?_cons_zero,List.getElem?_cons_succ,Option.getD_some] at q2 hq2 hY2;rw[qEl a 2 (by omega)] at q2;have HY2:Hid (Byt (·<w1.heap.size) w1 B2 p2):=hY2.wide fun b hb=>hb.2;have HQ2:=qBK q2;have hl2:p2.length≤1000000:=by omega
 have HP2:Hid (∀x∈p2,x<256):=fun x hx=>hpb x zN;clear hY2 q2 hq2;obtain⟨B3,k3,q3,hq3,hY3⟩:=hcell 3 (by simp);simp only[List.getElem?_cons_zero,List.getElem?_cons_succ,Option.getD_some] at q3 hq3 hY3;rw[qEl a 3 (by omega)] at q3;have HY3:Hid (Byt (·<w1.heap.size) w1 B3 p3):=hY3.wide fun b hb=>hb.2;have HQ3:=qBK q3;have hl3:p3.length≤1000000:=by omega
 have HP3:Hid (∀x∈p3,x<256):=fun x hx=>hpb x zN;clear hY3 q3 hq3;obtain⟨B4,k4,q4,hq4,hY4⟩:=hcell 4 (by simp);simp only[List.getElem?_cons_zero,List.getElem?_cons_succ,Option.getD_some] at q4 hq4 hY4;rw[qEl a 4 (by omega)] at q4;have HY4:Hid (Byt (·<w1.heap.size) w1 B4 p4):=hY4.wide fun b hb=>hb.2;have HQ4:=qBK q4;have hl4:p4.length≤1000000:=by omega
 have HP4:Hid (∀x∈p4,x<256):=fun x hx=>hpb x zN;clear hY4 q4 hq4;have habl:a.block<w1.heap.size:=hab.2;clear hcell hR hJ hlen hpb hab h5 hb1;have i0:∀w,(Instr.index 211 (.agg #[.func (.func 124) #[.pointer (some ⟨w1.heap.size,0,none⟩)] #[],.func (.func 125) #[.pointer (some ⟨w1.heap.size,0,none⟩)] #[],.func (.func 126) #[.pointer (some ⟨w1.heap.size,0,none⟩)] #[],.func (.func 127) #[.pointer (some ⟨w1.heap.size,0,none⟩)] #[],.func (.func 128) #[.pointer (some ⟨w1.heap.size,0,none⟩)] #[]]) (.int .i64 0)).run Tryz.prog w= .ok (.func (.func 124) #[.pointer (some ⟨w1.heap.size,0,none⟩)] #[]) w:=fun _=>by kernel_rfl
 have i1:∀w,(Instr.index 211 (.agg #[.func (.func 124) #[.pointer (some ⟨w1.heap.size,0,none⟩)] #[],.func (.func 125) #[.pointer (some ⟨w1.heap.size,0,none⟩)] #[],.func (.func 126) #[.pointer (some ⟨w1.heap.size,0,none⟩)] #[],.func (.func 127) #[.pointer (some ⟨w1.heap.size,0,none⟩)] #[],.func (.func 128) #[.pointer (some ⟨w1.heap.size,0,none⟩)] #[]]) (.int .i64 1)).run Tryz.prog w= .ok (.func (.func 125) #[.pointer (some ⟨w1.heap.size,0,none⟩)] #[]) w:=fun _=>by kernel_rfl
 have i2:∀w,(Instr.index 211 (.agg #[.func (.func 124) #[.pointer (some ⟨w1.heap.size,0,none⟩)] #[],.func (.func 125) #[.pointer (some ⟨w1.heap.size,0,none⟩)] #[],.func (.func 126) #[.pointer (some ⟨w1.heap.size,0,none⟩)] #[],.func (.func 127) #[.pointer (some ⟨w1.heap.size,0,none⟩)] #[],.func (.func 128) #[.pointer (some ⟨w1.heap.size,0,none⟩)] #[]]) (.int .i64 2)).run Tryz.prog w= .ok (.func (.func 126) #[.pointer (some ⟨w1.heap.size,0,none⟩)] #[]) w:=fun _=>by kernel_rfl
 have i3:∀w,(Instr.index 211 (.agg #[.func (.func 124) #[.pointer (some ⟨w1.heap.size,0,none⟩)] #[],.func (.func 125) #[.pointer (some ⟨w1.heap.size,0,none⟩)] #[],.func (.func 126) #[.pointer (some ⟨w1.heap.size,0,none⟩)] #[],.func (.func 127) #[.pointer (some ⟨w1.heap.size,0,none⟩)] #[],.func (.func 128) #[.pointer (some ⟨w1.heap.size,0,none⟩)] #[]]) (.int .i64 3)).run Tryz.prog w= .ok (.func (.func 127) #[.pointer (some ⟨w1.heap.size,0,none⟩)] #[]) w:=fun _=>by kernel_rfl
 have i4:∀w,(Instr.index 211 (.agg #[.func (.func 124) #[.pointer (some ⟨w1.heap.size,0,none⟩)] #[],.func (.func 125) #[.pointer (some ⟨w1.heap.size,0,none⟩)] #[],.func (.func 126) #[.pointer (some ⟨w1.heap.size,0,none⟩)] #[],.func (.func 127) #[.pointer (some ⟨w1.heap.size,0,none⟩)] #[],.func (.func 128) #[.pointer (some ⟨w1.heap.size,0,none⟩)] #[]]) (.int .i64 4)).run Tryz.prog w= .ok (.func (.func 128) #[.pointer (some ⟨w1.heap.size,0,none⟩)] #[]) w:=fun _=>by kernel_rfl
 have hwr:w.heap.size≤w1.heap.size:=HB1.out.size;have hNr:w.heap.size≠w1.heap.size:=by have:=HN1.out.lt;omega
 go_wp2_with fail
 refine wp_loop_rounds 6 ?_;rw[rounds_succ];refine qBV fun W0 hW=> ?_;have HD0:Hid (Blk W0 w1.heap.size 210 #[.pointer none,.slice none 0 0,.slice none 0 0,.slice none 0 0,.slice none 0 0,.slice none 0 0,.int .i64 0]):=by show Blk _ _ _ _;rw[hW];exact heap_alloc_new w1 _
 have HK0:Hid (Keep w1.heap.size w1 W0):=by show Keep _ _ _;rw[hW];exact Keep.below ((qBO _ _).alloc (qBL _) _)
 have HE0:Hid (Below w.heap.size w W0):=by show Below _ _ _;rw[hW];exact HB1.out.alloc HB1.out.size _
 have hz0:w1.heap.size<W0.heap.size:=by rw[hW];simp
 clear hW;have qc0:W0.cell? a=some (.slice B0 p0.length k0):=HK0.out.cell HQ0.out habl (Nat.ne_of_lt habl)
 go_wp2_with fail
 refine(qCJ B0 _ k0 p0 W0 rfl ((Keep.byt HY0.out HK0.out (qBL _)).wide fun b hb=>Nat.lt_trans hb hz0) (by omega)).mono ?_;rintro e z0 ⟨g0,rfl,hG,hgW0,hb2⟩;have hd:=(hb2.block w1.heap.size hz0).trans HD0.out;have HDz0:=qBK hd;have cz0:=Blk.cell hd 0;have fz0:=Blk.frozen hd 0;simp at cz0;have HGz0:=qBK hG;have HBz0:=qBK hb2;have hzz0:W0.heap.size≤z0.heap.size:=hb2.size;clear hd hG hb2
 go_wp2_with fail
 refine qBy fun V0 hV=> ?_;have HMV0:Hid (Mrd V0 w1.heap.size g0 (.slice none 0 0) (.slice none 0 0) (.slice none 0 0) (.slice none 0 0) (.slice none 0 0) 0):=⟨by omega,by rw[hV];simpa using Blk.set HDz0.out 0 (.pointer (some ⟨g0,0,none⟩))⟩;have HSV0:Hid (St V0 g0 (some p0)):=by show St _ _ _;rw[hV];exact St.field (s:=some p0) ⟨HGz0.out,HP0.out,hl0⟩ HDz0.out (qDN ⟨none,0,0,rfl⟩ ⟨none,0,0,rfl⟩ ⟨none,0,0,rfl⟩ ⟨none,0,0,rfl⟩ ⟨none,0,0,rfl⟩) (by omega) _ _
 have HKV0:Hid (Keep w1.heap.size W0 V0):=by show Keep _ _ _;rw[hV];exact(Keep.below HBz0.out).trans (Keep.set _)
 have HEV0:Hid (Below w.heap.size w V0):=by show Below _ _ _;rw[hV];exact(HE0.out.trans (HBz0.out.mono HE0.out.size)).setCell (p:=⟨w1.heap.size,0,none⟩) hwr _
 have hzV0:w1.heap.size<V0.heap.size:=qBN hz0 HKV0.out.1;clear hV;refine(qHQ w1.heap.size g0 w.heap.size (.slice none 0 0) (.slice none 0 0) (.slice none 0 0) (.slice none 0 0) (.slice none 0 0) 0 (some p0) V0 HMV0.out HSV0.out (by omega) hwr ⟨none,0,0,rfl⟩ ⟨none,0,0,rfl⟩ ⟨none,0,0,rfl⟩ ⟨none,0,0,rfl⟩ ⟨none,0,0,rfl⟩).mono ?_;rintro e y0 ⟨rfl,x0,u0,hu0,hx8,hM,hbl,hR,hkeep,t,ht,hgot⟩;have HKy0:Hid (Keep w1.heap.size W0 y0):=⟨qBZ HKV0.out.1 hbl.size,fun b h1 h2=>(hkeep b (qBN h1 HKV0.out.1) (by omega) h2).trans (HKV0.out.2 b h1 h2)⟩;have HK1:=qBK (HK0.out.trans HKy0.out);have HE1:=qBK (HEV0.out.trans hbl);have hz1:w1.heap.size<y0.heap.size:=qBN hz0 HKy0.out.1;have HRR0_0:Hid ((slL tysL).R (fun b=>w1.heap.size<b∧b<y0.heap.size) y0 [u0] x0):=(slL tysL).wide hR fun b hb=>⟨by omega,hb.2⟩;have hr8:((x0.length:Nat):Int)≤8:=by omega
 have HD1:=qBK hM.2;have hp0:=hM.ptr;have HGT0:=qBK hgot;clear hbl hR hkeep hgot hM;have hN:Blk _ w.heap.size 28 #[.slice none 0 0,.slice none 0 0,.slice none 0 0,.slice none 0 0,.slice none 0 0]:=HK1.out.blk HN1.out hNr;refine jK ?_;intro n0 m0 n1 m1 n2 m2 n3 m3 n4 m4;simp at n0 n1 n2 n3 n4;clear hN;refine jS ?_;intro hway;rcases hway with hway|rfl
 · have HNO:Hid (¬∃m,IsMod xs m):=fun⟨m,hm⟩=>qEa HGT0.out qKu hway m.recs (qC0 hm.1 hm.2.1).1 (qCx h64 HJ.out hm).1
   rcases hway with rfl|⟨rest,rfl,hne⟩
   · have hbk:Blk y0 g0 _ _:=ht
     go_wp2_with (first|(go_at_call 130;refine(qBq g0 _ _ _ hbk).mono ?_;rintro e w9 ⟨rfl,rfl⟩))
     exact zd
   · obtain⟨A9,c9,hbk,-⟩:=ht.1
     have hlg:=qBK (qB4 g0 rest y0 ht.1);obtain⟨n9,hn9⟩:∃n9,rest.length=n9:=⟨_,rfl⟩;rw[hn9] at hlg hbk;refine jP ?_;intro tn tn2 tn3;clear hn9 ht
     go_wp2_with (first|(go_at_call 130;refine(qBq g0 _ _ _ hbk).mono ?_;rintro e w9 ⟨rfl,rfl⟩)|(go_at_call 131;refine hlg.out.mono ?_;rintro e w9 ⟨rfl,rfl⟩))
     exact zd
 have HG0:=qBK (qEb HGT0.out);obtain⟨A9,c9,hbk,-⟩:=ht.1;have hlg:=qBK (qB4 g0 [] y0 ht.1);simp only[List.length_nil] at hlg hbk;clear ht
 go_wp2_with (first|(go_at_call 130;refine(qBq g0 _ _ _ hbk).mono ?_;rintro e w9 ⟨rfl,rfl⟩)|(go_at_call 131;refine hlg.out.mono ?_;rintro e w9 ⟨rfl,rfl⟩))
 clear hlg hbk n0 n1 n2 n3 n4 m0 m1 m2 m3 m4;rw[rounds_succ];have qc1:y0.cell? ⟨a.block,a.off+1,none⟩=some (.slice B1 p1.length k1):=HK1.out.cell HQ1.out habl (Nat.ne_of_lt habl)
 go_wp2_with fail
 refine(qCJ B1 _ k1 p1 y0 rfl ((Keep.byt HY1.out HK1.out (qBL _)).wide fun b hb=>Nat.lt_trans hb hz1) (by omega)).mono ?_;rintro e z1 ⟨g1,rfl,hG,hgW1,hb2⟩;have hd:=(hb2.block w1.heap.size hz1).trans HD1.out;have HDz1:=qBK hd;have cz1:=Blk.cell hd 0;have fz1:=Blk.frozen hd 0;simp at cz1;have HGz1:=qBK hG;have HBz1:=qBK hb2;have hzz1:y0.heap.size≤z1.heap.size:=hb2.size;clear hd hG hb2
 go_wp2_with fail
 refine qBy fun V1 hV=> ?_;have HMV1:Hid (Mrd V1 w1.heap.size g1 u0 (.slice none 0 0) (.slice none 0 0) (.slice none 0 0) (.slice none 0 0) (x0.length:Int)):=⟨by omega,by rw[hV];simpa using Blk.set HDz1.out 0 (.pointer (some ⟨g1,0,none⟩))⟩;have HSV1:Hid (St V1 g1 (some p1)):=by show St _ _ _;rw[hV];exact St.field (s:=some p1) ⟨HGz1.out,HP1.out,hl1⟩ HDz1.out (qDN hu0 ⟨none,0,0,rfl⟩ ⟨none,0,0,rfl⟩ ⟨none,0,0,rfl⟩ ⟨none,0,0,rfl⟩) (by omega) _ _
 have HKV1:Hid (Keep w1.heap.size y0 V1):=by show Keep _ _ _;rw[hV];exact(Keep.below HBz1.out).trans (Keep.set _)
 have HEV1:Hid (Below w.heap.size w V1):=by show Below _ _ _;rw[hV];exact(HE1.out.trans (HBz1.out.mono HE1.out.size)).setCell (p:=⟨w1.heap.size,0,none⟩) hwr _
 have hzV1:w1.heap.size<V1.heap.size:=qBN hz1 HKV1.out.1;clear hV;refine(qF1 w1.heap.size g1 w.heap.size u0 (.slice none 0 0) (.slice none 0 0) (.slice none 0 0) (.slice none 0 0) (x0.length:Int) hr8 (some p1) V1 HMV1.out HSV1.out (by omega) hwr hu0 ⟨none,0,0,rfl⟩ ⟨none,0,0,rfl⟩ ⟨none,0,0,rfl⟩ ⟨none,0,0,rfl⟩).mono ?_;rintro e y1 ⟨rfl,x1,u1,hu1,hM,hbl,hR,hkeep,t,ht,hgot⟩;have HKy1:Hid (Keep w1.heap.size y0 y1):=⟨qBZ HKV1.out.1 hbl.size,fun b h1 h2=>(hkeep b (qBN h1 HKV1.out.1) (by omega) h2).trans (HKV1.out.2 b h1 h2)⟩;have HK2:=qBK (HK1.out.trans HKy1.out);have HE2:=qBK (HEV1.out.trans hbl);have hz2:w1.heap.size<y1.heap.size:=qBN hz1 HKy1.out.1;have HRR1_1:Hid ((slL fnL).R (fun b=>w1.heap.size<b∧b<y1.heap.size) y1 [u1] x1):=(slL fnL).wide hR fun b hb=>⟨by omega,hb.2⟩;have HRR0_1:Hid ((slL tysL).R (fun b=>w1.heap.size<b∧b<y1.heap.size) y1 [u0] x0):=Keep.lay _ HRR0_0.out HKy1.out;have HD2:=qBK hM.2;have hp1:=hM.ptr;have HGT1:=qBK hgot;clear hbl hR hkeep hgot hM;have hN:Blk _ w.heap.size 28 #[.slice none 0 0,.slice none 0 0,.slice none 0 0,.slice none 0 0,.slice none 0 0]:=HK2.out.blk HN1.out hNr;refine jK ?_;intro n0 m0 n1 m1 n2 m2 n3 m3 n4 m4;simp at n0 n1 n2 n3 n4;clear hN;refine jS ?_;intro hway;rcases hway with hway|rfl
 · have HNO:Hid (¬∃m,IsMod xs m):=by
    rintro⟨m,hm⟩;have hrr:=qD4 h64 HJ.out hm HG0.out.1 HG0.out.2;have fp:=(qC0 hm.1 hm.2.1).2.1;have mp:=(qCx h64 HJ.out hm).2.1;rw[hrr] at fp;exact qEa HGT1.out ((qKv hr8).gL 1 8 (by omega)) hway m.funcs fp mp
   rcases hway with rfl|⟨rest,rfl,hne⟩
   · have hbk:Blk y1 g1 _ _:=ht
     go_wp2_with (first|(go_at_call 130;refine(qBq g1 _ _ _ hbk).mono ?_;rintro e w9 ⟨rfl,rfl⟩))
     exact zf
   · obtain⟨A9,c9,hbk,-⟩:=ht.1
     have hlg:=qBK (qB4 g1 rest y1 ht.1);obtain⟨n9,hn9⟩:∃n9,rest.length=n9:=⟨_,rfl⟩;rw[hn9] at hlg hbk;refine jP ?_;intro tn tn2 tn3;clear hn9 ht
     go_wp2_with (first|(go_at_call 130;refine(qBq g1 _ _ _ hbk).mono ?_;rintro e w9 ⟨rfl,rfl⟩)|(go_at_call 131;refine hlg.out.mono ?_;rintro e w9 ⟨rfl,rfl⟩))
     exact zf
 have HG1:=qBK (qEb HGT1.out);obtain⟨A9,c9,hbk,-⟩:=ht.1;have hlg:=qBK (qB4 g1 [] y1 ht.1);simp only[List.length_nil] at hlg hbk;clear ht
 go_wp2_with (first|(go_at_call 130;refine(qBq g1 _ _ _ hbk).mono ?_;rintro e w9 ⟨rfl,rfl⟩)|(go_at_call 131;refine hlg.out.mono ?_;rintro e w9 ⟨rfl,rfl⟩))
 clear hlg hbk n0 n1 n2 n3 n4 m0 m1 m2 m3 m4;rw[rounds_succ];have qc2:y1.cell? ⟨a.block,a.off+2,none⟩=some (.slice B2 p2.length k2):=HK2.out.cell HQ2.out habl (Nat.ne_of_lt habl)
 go_wp2_with fail
 refine(qCJ B2 _ k2 p2 y1 rfl ((Keep.byt HY2.out HK2.out (qBL _)).wide fun b hb=>Nat.lt_trans hb hz2) (by omega)).mono ?_;rintro e z2 ⟨g2,rfl,hG,hgW2,hb2⟩;have hd:=(hb2.block w1.heap.size hz2).trans HD2.out;have HDz2:=qBK hd;have cz2:=Blk.cell hd 0;have fz2:=Blk.frozen hd 0;simp at cz2;have HGz2:=qBK hG;have HBz2:=qBK hb2;have hzz2:y1.heap.size≤z2.heap.size:=hb2.size;clear hd hG hb2
 go_wp2_with fail
 refine qBy fun V2 hV=> ?_;have HMV2:Hid (Mrd V2 w1.heap.size g2 u0 u1 (.slice none 0 0) (.slice none 0 0) (.slice none 0 0) (x0.length:Int)):=⟨by omega,by rw[hV];simpa using Blk.set HDz2.out 0 (.pointer (some ⟨g2,0,none⟩))⟩;have HSV2:Hid (St V2 g2 (some p2)):=by show St _ _ _;rw[hV];exact St.field (s:=some p2) ⟨HGz2.out,HP2.out,hl2⟩ HDz2.out (qDN hu0 hu1 ⟨none,0,0,rfl⟩ ⟨none,0,0,rfl⟩ ⟨none,0,0,rfl⟩) (by omega) _ _
 have HKV2:Hid (Keep w1.heap.size y1 V2):=by show Keep _ _ _;rw[hV];exact(Keep.below HBz2.out).trans (Keep.set _)
 have HEV2:Hid (Below w.heap.size w V2):=by show Below _ _ _;rw[hV];exact(HE2.out.trans (HBz2.out.mono HE2.out.size)).setCell (p:=⟨w1.heap.size,0,none⟩) hwr _
 have hzV2:w1.heap.size<V2.heap.size:=qBN hz2 HKV2.out.1;clear hV;refine(qHX w1.heap.size g2 w.heap.size u0 u1 (.slice none 0 0) (.slice none 0 0) (.slice none 0 0) (x0.length:Int) hr8 (some p2) V2 HMV2.out HSV2.out (by omega) hwr hu0 hu1 ⟨none,0,0,rfl⟩ ⟨none,0,0,rfl⟩ ⟨none,0,0,rfl⟩).mono ?_;rintro e y2 ⟨rfl,x2,u2,hu2,hM,hbl,hR,hkeep,t,ht,hgot⟩;have HKy2:Hid (Keep w1.heap.size y1 y2):=⟨qBZ HKV2.out.1 hbl.size,fun b h1 h2=>(hkeep b (qBN h1 HKV2.out.1) (by omega) h2).trans (HKV2.out.2 b h1 h2)⟩;have HK3:=qBK (HK2.out.trans HKy2.out);have HE3:=qBK (HEV2.out.trans hbl);have hz3:w1.heap.size<y2.heap.size:=qBN hz2 HKy2.out.1;have HRR2_2:Hid ((slL impL).R (fun b=>w1.heap.size<b∧b<y2.heap.size) y2 [u2] x2):=(slL impL).wide hR fun b hb=>⟨by omega,hb.2⟩;have HRR0_2:Hid ((slL tysL).R (fun b=>w1.heap.size<b∧b<y2.heap.size) y2 [u0] x0):=Keep.lay _ HRR0_1.out HKy2.out;have HRR1_2:Hid ((slL fnL).R (fun b=>w1.heap.size<b∧b<y2.heap.size) y2 [u1] x1):=Keep.lay _ HRR1_1.out HKy2.out;have HD3:=qBK hM.2;have hp2:=hM.ptr;have HGT2:=qBK hgot;clear hbl hR hkeep hgot hM;have hN:Blk _ w.heap.size 28 #[.slice none 0 0,.slice none 0 0,.slice none 0 0,.slice none 0 0,.slice none 0 0]:=HK3.out.blk HN1.out hNr;refine jK ?_;intro n0 m0 n1 m1 n2 m2 n3 m3 n4 m4;simp at n0 n1 n2 n3 n4;clear hN;refine jS ?_;intro hway;rcases hway with hway|rfl
 · have HNO:Hid (¬∃m,IsMod xs m):=by
    rintro⟨m,hm⟩;have hrr:=qD4 h64 HJ.out hm HG0.out.1 HG0.out.2;have fp:=(qC0 hm.1 hm.2.1).2.2.1;have mp:=(qCx h64 HJ.out hm).2.2.1;rw[hrr] at fp;exact qEa HGT2.out ((qHS hr8).gL 0 8 (by omega)) hway m.imps fp mp
   rcases hway with rfl|⟨rest,rfl,hne⟩
   · have hbk:Blk y2 g2 _ _:=ht
     go_wp2_with (first|(go_at_call 130;refine(qBq g2 _ _ _ hbk).mono ?_;rintro e w9 ⟨rfl,rfl⟩))
     exact ze
   · obtain⟨A9,c9,hbk,-⟩:=ht.1
     have hlg:=qBK (qB4 g2 rest y2 ht.1);obtain⟨n9,hn9⟩:∃n9,rest.length=n9:=⟨_,rfl⟩;rw[hn9] at hlg hbk;refine jP ?_;intro tn tn2 tn3;clear hn9 ht
     go_wp2_with (first|(go_at_call 130;refine(qBq g2 _ _ _ hbk).mono ?_;rintro e w9 ⟨rfl,rfl⟩)|(go_at_call 131;refine hlg.out.mono ?_;rintro e w9 ⟨rfl,rfl⟩))
     exact ze
 have HG2:=qBK (qEb HGT2.out);obtain⟨A9,c9,hbk,-⟩:=ht.1;have hlg:=qBK (qB4 g2 [] y2 ht.1);simp only[List.length_nil] at hlg hbk;clear ht
 go_wp2_with (first|(go_at_call 130;refine(qBq g2 _ _ _ hbk).mono ?_;rintro e w9 ⟨rfl,rfl⟩)|(go_at_call 131;refine hlg.out.mono ?_;rintro e w9 ⟨rfl,rfl⟩))
 clear hlg hbk n0 n1 n2 n3 n4 m0 m1 m2 m3 m4;rw[rounds_succ];have qc3:y2.cell? ⟨a.block,a.off+3,none⟩=some (.slice B3 p3.length k3):=HK3.out.cell HQ3.out habl (Nat.ne_of_lt habl)
 go_wp2_with fail
 refine(qCJ B3 _ k3 p3 y2 rfl ((Keep.byt HY3.out HK3.out (qBL _)).wide fun b hb=>Nat.lt_trans hb hz3) (by omega)).mono ?_;rintro e z3 ⟨g3,rfl,hG,hgW3,hb2⟩;have hd:=(hb2.block w1.heap.size hz3).trans HD3.out;have HDz3:=qBK hd;have cz3:=Blk.cell hd 0;have fz3:=Blk.frozen hd 0;simp at cz3;have HGz3:=qBK hG;have HBz3:=qBK hb2;have hzz3:y2.heap.size≤z3.heap.size:=hb2.size;clear hd hG hb2
 go_wp2_with fail
 refine qBy fun V3 hV=> ?_;have HMV3:Hid (Mrd V3 w1.heap.size g3 u0 u1 u2 (.slice none 0 0) (.slice none 0 0) (x0.length:Int)):=⟨by omega,by rw[hV];simpa using Blk.set HDz3.out 0 (.pointer (some ⟨g3,0,none⟩))⟩;have HSV3:Hid (St V3 g3 (some p3)):=by show St _ _ _;rw[hV];exact St.field (s:=some p3) ⟨HGz3.out,HP3.out,hl3⟩ HDz3.out (qDN hu0 hu1 hu2 ⟨none,0,0,rfl⟩ ⟨none,0,0,rfl⟩) (by omega) _ _
 have HKV3:Hid (Keep w1.heap.size y2 V3):=by show Keep _ _ _;rw[hV];exact(Keep.below HBz3.out).trans (Keep.set _)
 have HEV3:Hid (Below w.heap.size w V3):=by show Below _ _ _;rw[hV];exact(HE3.out.trans (HBz3.out.mono HE3.out.size)).setCell (p:=⟨w1.heap.size,0,none⟩) hwr _
 have hzV3:w1.heap.size<V3.heap.size:=qBN hz3 HKV3.out.1;clear hV;refine(qHV w1.heap.size g3 w.heap.size u0 u1 u2 (.slice none 0 0) (.slice none 0 0) (x0.length:Int) (some p3) V3 HMV3.out HSV3.out (by omega) hwr hu0 hu1 hu2 ⟨none,0,0,rfl⟩ ⟨none,0,0,rfl⟩).mono ?_;rintro e y3 ⟨rfl,x3,u3,hu3,hM,hbl,hR,hkeep,t,ht,hgot⟩;have HKy3:Hid (Keep w1.heap.size y2 y3):=⟨qBZ HKV3.out.1 hbl.size,fun b h1 h2=>(hkeep b (qBN h1 HKV3.out.1) (by omega) h2).trans (HKV3.out.2 b h1 h2)⟩;have HK4:=qBK (HK3.out.trans HKy3.out);have HE4:=qBK (HEV3.out.trans hbl);have hz4:w1.heap.size<y3.heap.size:=qBN hz3 HKy3.out.1;have HRR3_3:Hid ((slL numL).R (fun b=>w1.heap.size<b∧b<y3.heap.size) y3 [u3] x3):=(slL numL).wide hR fun b hb=>⟨by omega,hb.2⟩;have HRR0_3:Hid ((slL tysL).R (fun b=>w1.heap.size<b∧b<y3.heap.size) y3 [u0] x0):=Keep.lay _ HRR0_2.out HKy3.out;have HRR1_3:Hid ((slL fnL).R (fun b=>w1.heap.size<b∧b<y3.heap.size) y3 [u1] x1):=Keep.lay _ HRR1_2.out HKy3.out;have HRR2_3:Hid ((slL impL).R (fun b=>w1.heap.size<b∧b<y3.heap.size) y3 [u2] x2):=Keep.lay _ HRR2_2.out HKy3.out;have HD4:=qBK hM.2;have hp3:=hM.ptr;have HGT3:=qBK hgot;clear hbl hR hkeep hgot hM;have hN:Blk _ w.heap.size 28 #[.slice none 0 0,.slice none 0 0,.slice none 0 0,.slice none 0 0,.slice none 0 0]:=HK4.out.blk HN1.out hNr;refine jK ?_;intro n0 m0 n1 m1 n2 m2 n3 m3 n4 m4;simp at n0 n1 n2 n3 n4;clear hN;refine jS ?_;intro hway;rcases hway with hway|rfl
 · have HNO:Hid (¬∃m,IsMod xs m):=by
    rintro⟨m,hm⟩;have hrr:=qD4 h64 HJ.out hm HG0.out.1 HG0.out.2;have fp:=(qC0 hm.1 hm.2.1).2.2.2.1;have mp:=(qCx h64 HJ.out hm).2.2.2.1;exact qEa HGT3.out (qNH.gL 0 16 (by omega)) hway m.ints fp mp
   rcases hway with rfl|⟨rest,rfl,hne⟩
   · have hbk:Blk y3 g3 _ _:=ht
     go_wp2_with (first|(go_at_call 130;refine(qBq g3 _ _ _ hbk).mono ?_;rintro e w9 ⟨rfl,rfl⟩))
     exact zb
   · obtain⟨A9,c9,hbk,-⟩:=ht.1
     have hlg:=qBK (qB4 g3 rest y3 ht.1);obtain⟨n9,hn9⟩:∃n9,rest.length=n9:=⟨_,rfl⟩;rw[hn9] at hlg hbk;refine jP ?_;intro tn tn2 tn3;clear hn9 ht
     go_wp2_with (first|(go_at_call 130;refine(qBq g3 _ _ _ hbk).mono ?_;rintro e w9 ⟨rfl,rfl⟩)|(go_at_call 131;refine hlg.out.mono ?_;rintro e w9 ⟨rfl,rfl⟩))
     exact zb
 have HG3:=qBK (qEb HGT3.out);obtain⟨A9,c9,hbk,-⟩:=ht.1;have hlg:=qBK (qB4 g3 [] y3 ht.1);simp only[List.length_nil] at hlg hbk;clear ht
 go_wp2_with (first|(go_at_call 130;refine(qBq g3 _ _ _ hbk).mono ?_;rintro e w9 ⟨rfl,rfl⟩)|(go_at_call 131;refine hlg.out.mono ?_;rintro e w9 ⟨rfl,rfl⟩))
 clear hlg hbk n0 n1 n2 n3 n4 m0 m1 m2 m3 m4;rw[rounds_succ];have qc4:y3.cell? ⟨a.block,a.off+4,none⟩=some (.slice B4 p4.length k4):=HK4.out.cell HQ4.out habl (Nat.ne_of_lt habl)
 go_wp2_with fail
 refine(qCJ B4 _ k4 p4 y3 rfl ((Keep.byt HY4.out HK4.out (qBL _)).wide fun b hb=>Nat.lt_trans hb hz4) (by omega)).mono ?_;rintro e z4 ⟨g4,rfl,hG,hgW4,hb2⟩;have hd:=(hb2.block w1.heap.size hz4).trans HD4.out;have HDz4:=qBK hd;have cz4:=Blk.cell hd 0;have fz4:=Blk.frozen hd 0;simp at cz4;have HGz4:=qBK hG;have HBz4:=qBK hb2;have hzz4:y3.heap.size≤z4.heap.size:=hb2.size;clear hd hG hb2
 go_wp2_with fail
 refine qBy fun V4 hV=> ?_;have HMV4:Hid (Mrd V4 w1.heap.size g4 u0 u1 u2 u3 (.slice none 0 0) (x0.length:Int)):=⟨by omega,by rw[hV];simpa using Blk.set HDz4.out 0 (.pointer (some ⟨g4,0,none⟩))⟩;have HSV4:Hid (St V4 g4 (some p4)):=by show St _ _ _;rw[hV];exact St.field (s:=some p4) ⟨HGz4.out,HP4.out,hl4⟩ HDz4.out (qDN hu0 hu1 hu2 hu3 ⟨none,0,0,rfl⟩) (by omega) _ _
 have HKV4:Hid (Keep w1.heap.size y3 V4):=by show Keep _ _ _;rw[hV];exact(Keep.below HBz4.out).trans (Keep.set _)
 have HEV4:Hid (Below w.heap.size w V4):=by show Below _ _ _;rw[hV];exact(HE4.out.trans (HBz4.out.mono HE4.out.size)).setCell (p:=⟨w1.heap.size,0,none⟩) hwr _
 have hzV4:w1.heap.size<V4.heap.size:=qBN hz4 HKV4.out.1;clear hV;refine(qJW w1.heap.size g4 w.heap.size u0 u1 u2 u3 (.slice none 0 0) (x0.length:Int) (some p4) V4 HMV4.out HSV4.out (by omega) hwr hu0 hu1 hu2 hu3 ⟨none,0,0,rfl⟩).mono ?_;rintro e y4 ⟨rfl,x4,u4,hu4,hM,hbl,hR,hkeep,t,ht,hgot⟩;have HKy4:Hid (Keep w1.heap.size y3 y4):=⟨qBZ HKV4.out.1 hbl.size,fun b h1 h2=>(hkeep b (qBN h1 HKV4.out.1) (by omega) h2).trans (HKV4.out.2 b h1 h2)⟩;have HK5:=qBK (HK4.out.trans HKy4.out);have HE5:=qBK (HEV4.out.trans hbl);have hz5:w1.heap.size<y4.heap.size:=qBN hz4 HKy4.out.1;have HRR4_4:Hid ((slL strL).R (fun b=>w1.heap.size<b∧b<y4.heap.size) y4 [u4] x4):=(slL strL).wide hR fun b hb=>⟨by omega,hb.2⟩;have HRR0_4:Hid ((slL tysL).R (fun b=>w1.heap.size<b∧b<y4.heap.size) y4 [u0] x0):=Keep.lay _ HRR0_3.out HKy4.out;have HRR1_4:Hid ((slL fnL).R (fun b=>w1.heap.size<b∧b<y4.heap.size) y4 [u1] x1):=Keep.lay _ HRR1_3.out HKy4.out;have HRR2_4:Hid ((slL impL).R (fun b=>w1.heap.size<b∧b<y4.heap.size) y4 [u2] x2):=Keep.lay _ HRR2_3.out HKy4.out;have HRR3_4:Hid ((slL numL).R (fun b=>w1.heap.size<b∧b<y4.heap.size) y4 [u3] x3):=Keep.lay _ HRR3_3.out HKy4.out;have HD5:=qBK hM.2;have hp4:=hM.ptr;have HGT4:=qBK hgot;clear hbl hR hkeep hgot hM;have hN:Blk _ w.heap.size 28 #[.slice none 0 0,.slice none 0 0,.slice none 0 0,.slice none 0 0,.slice none 0 0]:=HK5.out.blk HN1.out hNr;refine jK ?_;intro n0 m0 n1 m1 n2 m2 n3 m3 n4 m4;simp at n0 n1 n2 n3 n4;clear hN;refine jS ?_;intro hway;rcases hway with hway|rfl
 · have HNO:Hid (¬∃m,IsMod xs m):=by
    rintro⟨m,hm⟩;have hrr:=qD4 h64 HJ.out hm HG0.out.1 HG0.out.2;have fp:=(qC0 hm.1 hm.2.1).2.2.2.2;have mp:=(qCx h64 HJ.out hm).2.2.2.2;exact qEa HGT4.out (qIR.gL 0 16 (by omega)) hway m.texts fp mp
   rcases hway with rfl|⟨rest,rfl,hne⟩
   · have hbk:Blk y4 g4 _ _:=ht
     go_wp2_with (first|(go_at_call 130;refine(qBq g4 _ _ _ hbk).mono ?_;rintro e w9 ⟨rfl,rfl⟩))
     exact zc
   · obtain⟨A9,c9,hbk,-⟩:=ht.1
     have hlg:=qBK (qB4 g4 rest y4 ht.1);obtain⟨n9,hn9⟩:∃n9,rest.length=n9:=⟨_,rfl⟩;rw[hn9] at hlg hbk;refine jP ?_;intro tn tn2 tn3;clear hn9 ht
     go_wp2_with (first|(go_at_call 130;refine(qBq g4 _ _ _ hbk).mono ?_;rintro e w9 ⟨rfl,rfl⟩)|(go_at_call 131;refine hlg.out.mono ?_;rintro e w9 ⟨rfl,rfl⟩))
     exact zc
 have HG4:=qBK (qEb HGT4.out);obtain⟨A9,c9,hbk,-⟩:=ht.1;have hlg:=qBK (qB4 g4 [] y4 ht.1);simp only[List.length_nil] at hlg hbk;clear ht
 go_wp2_with (first|(go_at_call 130;refine(qBq g4 _ _ _ hbk).mono ?_;rintro e w9 ⟨rfl,rfl⟩)|(go_at_call 131;refine hlg.out.mono ?_;rintro e w9 ⟨rfl,rfl⟩))
 clear hlg hbk n0 n1 n2 n3 n4 m0 m1 m2 m3 m4;rw[rounds_succ];have hdd:=HD5.out;have d1:=hdd.cell 1;have d2:=hdd.cell 2;have d3:=hdd.cell 3;have d4:=hdd.cell 4;have d5:=hdd.cell 5;simp at d1 d2 d3 d4 d5;have hN:Blk _ w.heap.size 28 #[.slice none 0 0,.slice none 0 0,.slice none 0 0,.slice none 0 0,.slice none 0 0]:=HK5.out.blk HN1.out hNr;refine jK ?_;intro n0 m0 n1 m1 n2 m2 n3 m3 n4 m4;simp at n0 n1 n2 n3 n4;clear hN;obtain⟨P0,s0,b0,rfl⟩:=hu0;obtain⟨P1,s1,b1,rfl⟩:=hu1;obtain⟨P2,s2,b2,rfl⟩:=hu2;obtain⟨P3,s3,b3,rfl⟩:=hu3;obtain⟨P4,s4,b4,rfl⟩:=hu4;clear hdd
 go_wp2_with fail
 have hF:=((((((qBO w.heap.size y4).setCell (p:=⟨w.heap.size,0,none⟩) (qBL _) (.slice P0 s0 b0)).setCell (p:=⟨w.heap.size,1,none⟩) (qBL _) (.slice P1 s1 b1)).setCell (p:=⟨w.heap.size,2,none⟩) (qBL _) (.slice P2 s2 b2)).setCell (p:=⟨w.heap.size,3,none⟩) (qBL _) (.slice P3 s3 b3)).setCell (p:=⟨w.heap.size,4,none⟩) (qBL _) (.slice P4 s4 b4));refine bodyPost_ret (v:= .tuple #[.agg #[.slice P0 s0 b0,.slice P1 s1 b1,.slice P2 s2 b2,.slice P3 s3 b3,.slice P4 s4 b4],.int .i64 0]) qX rfl ?_;have hpf:=qLf (m:=⟨x0,x1,x2,x3,x4⟩) HG0.out.1 HG1.out.1 HG2.out.1 HG3.out.1 HG4.out.1;refine⟨HE5.out.trans hF,.inl ⟨⟨x0,x1,x2,x3,x4⟩,[.slice P0 s0 b0,.slice P1 s1 b1,.slice P2 s2 b2,.slice P3 s3 b3,.slice P4 s4 b4],⟨hpf.1,hpf.2,?_⟩,rfl,?_⟩⟩
 · rw[HJ.out,HG0.out.2,HG1.out.2,HG2.out.2,HG3.out.2,HG4.out.2]
   rfl
 · have hk:Keep w.heap.size y4 (((((y4.setCell ⟨w.heap.size,0,none⟩ (.slice P0 s0 b0)).setCell ⟨w.heap.size,1,none⟩ (.slice P1 s1 b1)).setCell ⟨w.heap.size,2,none⟩ (.slice P2 s2 b2)).setCell ⟨w.heap.size,3,none⟩ (.slice P3 s3 b3)).setCell ⟨w.heap.size,4,none⟩ (.slice P4 s4 b4)):=((((((Keep.refl w.heap.size y4).trans (Keep.set (i:=0) (.slice P0 s0 b0))).trans (Keep.set (i:=1) (.slice P1 s1 b1))).trans (Keep.set (i:=2) (.slice P2 s2 b2))).trans (Keep.set (i:=3) (.slice P3 s3 b3))).trans (Keep.set (i:=4) (.slice P4 s4 b4)))
   have up:∀{α:Type} (L:Lay α) {cs:List Value} {x:α},L.R (fun b=>w1.heap.size<b∧b<y4.heap.size) y4 cs x→L.R (fun b=>w.heap.size≤b∧b<(((((y4.setCell ⟨w.heap.size,0,none⟩ (.slice P0 s0 b0)).setCell ⟨w.heap.size,1,none⟩ (.slice P1 s1 b1)).setCell ⟨w.heap.size,2,none⟩ (.slice P2 s2 b2)).setCell ⟨w.heap.size,3,none⟩ (.slice P3 s3 b3)).setCell ⟨w.heap.size,4,none⟩ (.slice P4 s4 b4)).heap.size) (((((y4.setCell ⟨w.heap.size,0,none⟩ (.slice P0 s0 b0)).setCell ⟨w.heap.size,1,none⟩ (.slice P1 s1 b1)).setCell ⟨w.heap.size,2,none⟩ (.slice P2 s2 b2)).setCell ⟨w.heap.size,3,none⟩ (.slice P3 s3 b3)).setCell ⟨w.heap.size,4,none⟩ (.slice P4 s4 b4)) cs x:=fun L _ _ h=>L.wide (L.keep h fun b hb=>hk.2 b hb.2 (by omega)) fun b hb=>⟨by omega,qBN hb.2 hk.1⟩;exact⟨_,_,_,_,_,rfl,up _ HRR0_4.out,up _ HRR1_4.out,up _ HRR2_4.out,up _ HRR3_4.out,up _ HRR4_4.out⟩
end Go.Proofs.YtgdbhanhmenmfaaGreat
