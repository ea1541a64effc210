/-
Lsg
-/
import Derived.Test.YtgdbhanhmenmfaaGreatProg
import Derived.Test.YtgdbhanhmenmfaaGreatQ01
import Derived.Deep.RegionHeld3
set_option linter.unusedSimpArgs false
set_option linter.unusedVariables false
namespace Go.Proofs.YtgdbhanhmenmfaaGreat
open Go.RowKit
variable {a:Go.Act}{fuel i:Nat}{oi:Oper}{qBa:Array Bool}{v:Value}{w:World}
section
variable {P:Program} {ops:Array Oper} {Q:Exit→Go.Act→World→Prop} {md:Region.Mode} {S:World→Prop} {kp:Nat}
def wpAnyG (P:Program) (md:Region.Mode) (ops:Array Oper) (Q:Exit→Go.Act→World→Prop) (S:World→Prop) (kp:Nat):Nat→Array Bool→Go.Act→World→Prop
 |0,qBa,a,w=>Region.ready md ops qBa=[]∧Q .normal a w
 |fuel+1,qBa,a,w=>
  (Region.ready md ops qBa=[]→Q .normal a w)∧
  ∀i∈Region.ready md ops qBa,wpOp P ops Q i (fun a' w'=>((qBa.setIfInBounds i true).getD kp true=false→S w')∧wpAnyG P md ops Q S kp fuel (qBa.setIfInBounds i true) a' w') a w
theorem qFS:∀(fuel:Nat) (qBa:Array Bool) (a:Go.Act) (w:World),wpAnyG P md ops Q S kp fuel qBa a w→wpAny P md ops Q fuel qBa a w
 |0,_,_,_,h=>h
 |fuel+1,_,_,_,h=>⟨h.1,fun i hi=>wpOp_mono (fun a' w' h'=>qFS fuel _ a' w' h'.2) (h.2 i hi)⟩
theorem qHD (hi:ops[i]? =some oi) (hsel:∀(j:Nat) (o:Oper) cs b,ops[j]? =some o→o.op≠.select cs b) (hk:∃ok,ops[kp]? =some ok∧∃e∈ok.after,Region.binds md e=true∧e.on=i) (hki:kp≠i)
 (hQ:∀c a w,Q (.panic c) (a.put oi.dst v) w→Q (.panic c) a w):
 ∀(fuel:Nat) (qBa:Array Bool) (a:Go.Act) (w:World),qBa.getD kp true=false→
  (∀j oj,ops[j]? =some oj→j≠i→qBa.getD j true=false→(∀e∈oj.after,Region.binds md e=true→e.on≠i)→oi.apart ops oj=true)→
  i∈Region.ready md ops qBa→YieldsIf P ops S oi v a→S w→
  wpAnyG P md ops Q S kp fuel (qBa.setIfInBounds i true) (a.put oi.dst v) w→wpAnyG P md ops Q S kp (fuel+1) qBa a w:=by
 intro fuel
 induction fuel with
 |zero=>
  intro qBa a w hkl _ hr hy hS H;refine⟨fun h=>(by rw[h] at hr;cases hr),fun j hj=> ?_⟩
  by_cases hji:j=i
  · subst hji;exact hy.wpOp hi hS ⟨fun _=>hS,H⟩
  · have:=ready_mono hj hji
    rw[H.1] at this
    cases this
 |succ fuel ih=>
  intro qBa a w hkl hfree hr hy hS H;refine⟨fun h=>(by rw[h] at hr;cases hr),fun j hj=> ?_⟩
  by_cases hji:j=i
  · subst hji;exact hy.wpOp hi hS ⟨fun _=>hS,H⟩
  · have h1:=H.2 j (ready_mono hj hji)
    obtain⟨hjun,oj,hoj,hall⟩:=mem_ready.1 hj;have hnot:∀e∈oj.after,Region.binds md e=true→e.on≠i:=fun e he hb heq=>by
     have h1:=hall e he hb;have h0:=(mem_ready.1 hr).1;rw[heq] at h1;rcases Nat.lt_or_ge i qBa.size with h'|h'
     · simp[h'] at h0 h1;rw[h0] at h1;cases h1
     · simp[Array.getElem?_eq_none h'] at h1
    have hjk:j≠kp:=by
     rintro rfl;obtain⟨ok,h1,e,he,h2,h3⟩:=hk;rw[hoj] at h1;injection h1 with h1;subst h1;exact hnot e he h2 h3
    have h2:=wpOp_putIf hoj (hfree j oj hoj hji hjun hnot) (fun cs b=>hsel i oi cs b hi) (fun cs b=>hsel j oj cs b hoj) hQ hy h1;have hfree':∀k ok,ops[k]? =some ok→k≠i→(qBa.setIfInBounds j true).getD k true=false→
     (∀e∈ok.after,Region.binds md e=true→e.on≠i)→oi.apart ops ok=true:=fun k ok hk hki hun hno=>by
     refine hfree k ok hk hki ?_ hno
     by_cases hjk:j=k
     · subst hjk;exact hjun
     · rw[getD_set_ne true hjk] at hun;exact hun
    have hkl':(qBa.setIfInBounds j true).getD kp true=false:=by rw[getD_set_ne true hjk];exact hkl
    have hkl2:((qBa.setIfInBounds i true).setIfInBounds j true).getD kp true=false:=by rw[getD_set_ne true hjk,getD_set_ne true (Ne.symm hki)];exact hkl
    refine wpOp_mono (fun a' w' h3=>⟨fun _=>h3.2.1 hkl2,ih (qBa.setIfInBounds j true) a' w' hkl' hfree' (ready_mono hr (Ne.symm hji)) h3.1 (h3.2.1 hkl2) ?_⟩) h2;rw[Array.setIfInBounds_comm _ _ hji];exact h3.2.2
theorem qHu (hi:ops[i]? =some oi) (hsel:∀(j:Nat) (o:Oper) cs b,ops[j]? =some o→o.op≠.select cs b) (hki:kp≠i)
 (hQ:∀c a w,Q (.panic c) (a.put oi.dst v) w→Q (.panic c) a w):
 ∀(fuel:Nat) (qBa:Array Bool) (a:Go.Act) (w:World),(qBa.getD kp true=false→S w)→
  (∀j oj,ops[j]? =some oj→j≠i→qBa.getD j true=false→(∀e∈oj.after,Region.binds md e=true→e.on≠i)→oi.apart ops oj=true)→
  i∈Region.ready md ops qBa→YieldsIf P ops (fun _=>True) oi v a→
  wpAnyG P md ops Q S kp fuel (qBa.setIfInBounds i true) (a.put oi.dst v) w→wpAnyG P md ops Q S kp (fuel+1) qBa a w:=by
 intro fuel
 induction fuel with
 |zero=>
  intro qBa a w hS _ hr hy H;refine⟨fun h=>(by rw[h] at hr;cases hr),fun j hj=> ?_⟩
  by_cases hji:j=i
  · subst hji;exact hy.wpOp hi trivial ⟨fun hh=>hS (by rwa [getD_set_ne true (Ne.symm hki)] at hh),H⟩
  · have:=ready_mono hj hji
    rw[H.1] at this
    cases this
 |succ fuel ih=>
  intro qBa a w hS hfree hr hy H;refine⟨fun h=>(by rw[h] at hr;cases hr),fun j hj=> ?_⟩
  by_cases hji:j=i
  · subst hji;exact hy.wpOp hi trivial ⟨fun hh=>hS (by rwa [getD_set_ne true (Ne.symm hki)] at hh),H⟩
  · have h1:=H.2 j (ready_mono hj hji)
    obtain⟨hjun,oj,hoj,hall⟩:=mem_ready.1 hj;have hnot:∀e∈oj.after,Region.binds md e=true→e.on≠i:=fun e he hb heq=>by
     have h1:=hall e he hb;have h0:=(mem_ready.1 hr).1;rw[heq] at h1;rcases Nat.lt_or_ge i qBa.size with h'|h'
     · simp[h'] at h0 h1;rw[h0] at h1;cases h1
     · simp[Array.getElem?_eq_none h'] at h1
    have h2:=wpOp_putIf hoj (hfree j oj hoj hji hjun hnot) (fun cs b=>hsel i oi cs b hi) (fun cs b=>hsel j oj cs b hoj) hQ hy h1;have hfree':∀k ok,ops[k]? =some ok→k≠i→(qBa.setIfInBounds j true).getD k true=false→
     (∀e∈ok.after,Region.binds md e=true→e.on≠i)→oi.apart ops ok=true:=fun k ok hk hki hun hno=>by
     refine hfree k ok hk hki ?_ hno
     by_cases hjk:j=k
     · subst hjk;exact hjun
     · rw[getD_set_ne true hjk] at hun;exact hun
    have hs:∀w',(((qBa.setIfInBounds i true).setIfInBounds j true).getD kp true=false→S w')→(qBa.setIfInBounds j true).getD kp true=false→S w':=fun w' h3 hh=>h3 (by
     rw[Array.setIfInBounds_comm _ _ (Ne.symm hji),getD_set_ne true (Ne.symm hki)];exact hh)
    refine wpOp_mono (fun a' w' h3=>⟨hs w' h3.2.1,ih (qBa.setIfInBounds j true) a' w' (hs w' h3.2.1) hfree' (ready_mono hr (Ne.symm hji)) h3.1 ?_⟩) h2;rw[Array.setIfInBounds_comm _ _ hji];exact h3.2.2
def waitsB (md:Region.Mode) (ops:Array Oper) (kp i:Nat):Bool:=decide (kp≠i) && (match ops[kp]? with|some o=>o.after.toList.any fun e=>Region.binds md e && e.on==i|none=>false)
theorem qE0 (h:waitsB md ops kp i=true):kp≠i∧∃ok,ops[kp]? =some ok∧∃e∈ok.after,Region.binds md e=true∧e.on=i:=by
 unfold waitsB at h;simp only[Bool.and_eq_true,decide_eq_true_eq] at h;obtain⟨h1,h2⟩:=h;refine⟨h1,?_⟩
 cases e:ops[kp]? with
 |none=>rw[e] at h2;cases h2
 |some o=>
  rw[e] at h2;simp only[List.any_eq_true,Bool.and_eq_true,beq_iff_eq] at h2;obtain⟨e,he,h3,h4⟩:=h2;exact⟨o,rfl,e,Array.mem_toList_iff.1 he,h3,h4⟩
theorem qDn (hi:ops[i]? =some oi)
 (hs:Region.noSelect ops=true) (hf:Region.free md ops qBa i=true) (hr:(Region.ready md ops qBa).contains i=true) (hk:waitsB md ops kp i=true) (hl:qBa.getD kp true=false)
 (hQ:∀c a w,Q (.panic c) (a.put oi.dst v) w→Q (.panic c) a w) (hy:YieldsIf P ops S oi v a) (hS:S w)
 (h:wpAnyG P md ops Q S kp fuel (qBa.setIfInBounds i true) (a.put oi.dst v) w):wpAnyG P md ops Q S kp (fuel+1) qBa a w:=
 qHD hi (Region.noSelect_spec hs) (qE0 hk).2 (qE0 hk).1 hQ fuel qBa a w hl (Region.free_spec hi hf) (by simpa using hr) hy hS h
theorem qCP (hi:ops[i]? =some oi)
 (hs:Region.noSelect ops=true) (hf:Region.free md ops qBa i=true) (hr:(Region.ready md ops qBa).contains i=true) (hk:kp≠i) (hS:qBa.getD kp true=false→S w)
 (hQ:∀c a w,Q (.panic c) (a.put oi.dst v) w→Q (.panic c) a w) (hy:YieldsIf P ops (fun _=>True) oi v a)
 (h:wpAnyG P md ops Q S kp fuel (qBa.setIfInBounds i true) (a.put oi.dst v) w):wpAnyG P md ops Q S kp (fuel+1) qBa a w:=
 qHu hi (Region.noSelect_spec hs) hk hQ fuel qBa a w hS (Region.free_spec hi hf) (by simpa using hr) hy h
theorem qCh {o:Oper} (hr:Region.ready md ops qBa=[i]) (ho:ops[i]? =some o)
 (h:∀K:Go.Act→World→Prop,Shut (∀a' w',((qBa.setIfInBounds i true).getD kp true=false→S w')→wpAnyG P md ops Q S kp fuel (qBa.setIfInBounds i true) a' w'→K a' w')→
   if Region.wanted o (yielded ops a.tmps)=true then o.wp P a w K Q else K (a.put o.dst undef) w):wpAnyG P md ops Q S kp (fuel+1) qBa a w:=by
 refine⟨fun h0=>(by rw[h0] at hr;cases hr),fun j hj=> ?_⟩;rw[hr] at hj;obtain rfl:j=i:=by simpa using hj
 have:=h (fun a' w'=>((qBa.setIfInBounds j true).getD kp true=false→S w')∧wpAnyG P md ops Q S kp fuel (qBa.setIfInBounds j true) a' w') (fun a' w' h1 h2=>⟨h1,h2⟩);unfold wpOp;simp only[ho];split
 · rename_i hw
   rw[if_pos hw] at this;exact .inl this
 · rename_i hw
   rw[if_neg hw] at this;exact this
theorem qHv (hr:Region.ready md ops qBa=[]) (h:Q .normal a w):∀fuel,wpAnyG P md ops Q S kp fuel qBa a w
 |0=>⟨hr,h⟩
 |_+1=>⟨fun _=>h,by rw[hr];simp⟩
theorem qJL {id:Nat} (kp:Nat) (S:World→Prop) (hm:P.follows .mixedOrders=true) (hS:S w.drew) (h:S w.drew→wpAnyG P .any ops Q S kp ops.size (Array.replicate ops.size false) a w.drew):(Code.region id ops true).wp P Q a w:=
 wp_region_any hm (qFS _ _ _ _ (h hS))
theorem qES (h:∀X,X=w→wpAnyG P md ops Q S kp fuel qBa a X):wpAnyG P md ops Q S kp fuel qBa a w:=h w rfl
end
end Go.Proofs.YtgdbhanhmenmfaaGreat
