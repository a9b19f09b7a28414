import Derived.Test.YthmmgiaobakilaaGreatJ22
import Derived.WalkSmall
import Derived.Deep.RegionWith
set_option maxRecDepth 100000
set_option maxHeartbeats 8000000
set_option linter.all false
namespace Go.Proofs.YthmmgiaobakilaaGreat
open Go.RowKit
variable {B:MS} {E:bB} {X:MX} {cap g i k wb:Nat} {hv ov rv sd so tv:Value} {w:World} {σ:St}
variable {HS:List (Nat×Obj)}
theorem Uy (l:List bQ) (k:Nat) (v:Int) (hk:k<l.length):(bG l).set (k*4+1) (.int .i64 v)=bG (l.modify k λc=>{ c with val:=v }):=by
 induction l generalizing k with
 | nil=>simp at hk
 | cons c l ih=>
  cases k with
  | zero=>simp[bG,dF]
  | succ k=>
   have e:bG (c::l)=dF c++bG l:=by simp[bG]
   rw[e,yn _ _ (by simp[dF];omega)];have e2:(k+1)*4+1-(dF c).length=k*4+1:=by simp[dF];omega
   rw[e2,ih k (by simpa using hk)];simp[bG]
theorem EQ (l:List Int) (k:Nat) (v:Int):(l.map (Value.int .i64)).set k (.int .i64 v)=(l.set k v).map (Value.int .i64):=by
 rw[List.map_set]
theorem gM.setL (h:gM w wb HS E σ tv (.slice (some ⟨g,0,none⟩) σ.cells.length cap) so sd ov hv rv) (v:Int) (hk:k<σ.cells.length) :
  gM (w.setCell ⟨g,k*4+1,none⟩ (.int .i64 v)) wb HS E (qQ σ k v) tv (.slice (some ⟨g,0,none⟩) σ.cells.length cap) so sd ov hv rv:=by
 have hg:wb+1<=g:=(h.rowL.lt g rfl).1;have oth:∀j,j≠g->(w.setCell ⟨g,k*4+1,none⟩ (.int .i64 v)).heap[j]?=w.heap[j]?:=λj hj=>ay _ _ _ _ hj;have low:∀j,j<wb->(w.setCell ⟨g,k*4+1,none⟩ (.int .i64 v)).heap[j]?=w.heap[j]?:=λj hj=>oth j (by omega);have own2:∀(x:Value) (e size n:Nat) (xs:List Value),w.ownsRow (wb+1) e size x n xs->ny (.slice (some ⟨g,0,none⟩) σ.cells.length cap) x->(w.setCell ⟨g,k*4+1,none⟩ (.int .i64 v)).ownsRow (wb+1) e size x n xs:=λx e size n xs hx hap=>bT hx (λj hj=>oth j (λe=>by
  rcases hap with h0|h0
  .cases h0
  .exact h0 (by rw[hj,e];rfl)))
 refine⟨(oth wb (by omega)).trans h.blk,bT h.tokens (λj hj=>low j (h.tokLow j hj)),h.tokLow,h.tokSome,h.tokFew,?_,own2 _ _ _ _ _ h.rowR h.apLR,own2 _ _ _ _ _ h.rowO h.apLO,own2 _ _ _ _ _ h.rowH h.apLH,h.apLR,h.apLO,h.apLH,h.apRO,h.apRH,h.apOH,?_,?_,λp hp=>⟨(oth p.1 (λe=>(h.held p hp).2.2.1 (by rw[e];rfl))).trans (h.held p hp).1,(h.held p hp).2⟩⟩
 .have:=(h.rowL.stored (k*4+1) (.int .i64 v)).1;rw[Uy _ _ _ hk]at this;simpa[qQ] using this
 .obtain⟨ao,c,e,hi⟩:=h.ints1;exact⟨ao,c,e,hi.same low⟩
 .obtain⟨ao,c,e,hi⟩:=h.ints2;exact⟨ao,c,e,hi.same low⟩
theorem gM.setO {lv:Value} (h:gM w wb HS E σ tv lv so sd (.slice (some ⟨g,0,none⟩) σ.opn.length cap) hv rv) (v:Int) :
  gM (w.setCell ⟨g,k,none⟩ (.int .i64 v)) wb HS E { σ with opn:=σ.opn.set k v } tv lv so sd (.slice (some ⟨g,0,none⟩) σ.opn.length cap) hv rv:=by
 have hg:wb+1<=g:=(h.rowO.lt g rfl).1;have oth:∀j,j≠g->(w.setCell ⟨g,k,none⟩ (.int .i64 v)).heap[j]?=w.heap[j]?:=λj hj=>ay _ _ _ _ hj;have low:∀j,j<wb->(w.setCell ⟨g,k,none⟩ (.int .i64 v)).heap[j]?=w.heap[j]?:=λj hj=>oth j (by omega);have own2:∀(x:Value) (e size n:Nat) (xs:List Value),w.ownsRow (wb+1) e size x n xs->x.ownBlock≠some g->(w.setCell ⟨g,k,none⟩ (.int .i64 v)).ownsRow (wb+1) e size x n xs:=λx e size n xs hx hap=>bT hx (λj hj=>oth j (λe=>hap (by rw[hj,e])));have a1:lv.ownBlock≠some g:=λe=>by
  rcases h.apLO with h0|h0
  .rw[h0]at e;cases e
  .exact h0 e
 have a2:rv.ownBlock≠some g:=λe=>by
  rcases h.apRO with h0|h0
  .rw[h0]at e;cases e
  .exact h0 e
 have a3:hv.ownBlock≠some g:=λe=>by
  rcases h.apOH with h0|h0
  .cases h0
  .exact h0 e.symm
 refine⟨(oth wb (by omega)).trans h.blk,bT h.tokens (λj hj=>low j (h.tokLow j hj)),h.tokLow,h.tokSome,h.tokFew,own2 _ _ _ _ _ h.rowL a1,own2 _ _ _ _ _ h.rowR a2,?_,own2 _ _ _ _ _ h.rowH a3,h.apLR,h.apLO,h.apLH,h.apRO,h.apRH,h.apOH,?_,?_,λp hp=>⟨(oth p.1 (λe=>(h.held p hp).2.2.2.2.1 (by rw[e];rfl))).trans (h.held p hp).1,(h.held p hp).2⟩⟩
 .have:=(h.rowO.stored k (.int .i64 v)).1;rw[EQ]at this;simpa using this
 .obtain⟨ao,c,e,hi⟩:=h.ints1;exact⟨ao,c,e,hi.same low⟩
 .obtain⟨ao,c,e,hi⟩:=h.ints2;exact⟨ao,c,e,hi.same low⟩
theorem gM.setH {lv:Value} (h:gM w wb HS E σ tv lv so sd ov (.slice (some ⟨g,0,none⟩) σ.hid.length cap) rv) (v:Int) :
  gM (w.setCell ⟨g,k,none⟩ (.int .i64 v)) wb HS E { σ with hid:=σ.hid.set k v } tv lv so sd ov (.slice (some ⟨g,0,none⟩) σ.hid.length cap) rv:=by
 have hg:wb+1<=g:=(h.rowH.lt g rfl).1;have oth:∀j,j≠g->(w.setCell ⟨g,k,none⟩ (.int .i64 v)).heap[j]?=w.heap[j]?:=λj hj=>ay _ _ _ _ hj;have low:∀j,j<wb->(w.setCell ⟨g,k,none⟩ (.int .i64 v)).heap[j]?=w.heap[j]?:=λj hj=>oth j (by omega);have own2:∀(x:Value) (e size n:Nat) (xs:List Value),w.ownsRow (wb+1) e size x n xs->x.ownBlock≠some g->(w.setCell ⟨g,k,none⟩ (.int .i64 v)).ownsRow (wb+1) e size x n xs:=λx e size n xs hx hap=>bT hx (λj hj=>oth j (λe=>hap (by rw[hj,e])));have a1:lv.ownBlock≠some g:=λe=>by
  rcases h.apLH with h0|h0
  .rw[h0]at e;cases e
  .exact h0 e
 have a2:rv.ownBlock≠some g:=λe=>by
  rcases h.apRH with h0|h0
  .rw[h0]at e;cases e
  .exact h0 e
 have a3:ov.ownBlock≠some g:=λe=>by
  rcases h.apOH with h0|h0
  .rw[h0]at e;cases e
  .exact h0 e
 refine⟨(oth wb (by omega)).trans h.blk,bT h.tokens (λj hj=>low j (h.tokLow j hj)),h.tokLow,h.tokSome,h.tokFew,own2 _ _ _ _ _ h.rowL a1,own2 _ _ _ _ _ h.rowR a2,own2 _ _ _ _ _ h.rowO a3,?_,h.apLR,h.apLO,h.apLH,h.apRO,h.apRH,h.apOH,?_,?_,λp hp=>⟨(oth p.1 (λe=>(h.held p hp).2.2.2.2.2 (by rw[e];rfl))).trans (h.held p hp).1,(h.held p hp).2⟩⟩
 .have:=(h.rowH.stored k (.int .i64 v)).1;rw[EQ]at this;simpa using this
 .obtain⟨ao,c,e,hi⟩:=h.ints1;exact⟨ao,c,e,hi.same low⟩
 .obtain⟨ao,c,e,hi⟩:=h.ints2;exact⟨ao,c,e,hi.same low⟩
theorem gM.popL {n:Nat} (h:gM w wb HS E σ tv (.slice (some ⟨g,0,none⟩) (n+1) cap) so sd ov hv rv) (hn:σ.cells.length=n+1) :
  gM (w.setCell ⟨wb,4,none⟩ (.slice (some ⟨g,0,none⟩) n cap)) wb HS E { σ with cells:=σ.cells.dropLast } tv (.slice (some ⟨g,0,none⟩) n cap) so sd ov hv rv:=by
 have oth:∀j,j≠wb->(w.setCell ⟨wb,4,none⟩ (.slice (some ⟨g,0,none⟩) n cap)).heap[j]?=w.heap[j]?:=λj hj=>ay _ _ _ _ hj;have low:∀j,j<wb->(w.setCell ⟨wb,4,none⟩ (.slice (some ⟨g,0,none⟩) n cap)).heap[j]?=w.heap[j]?:=λj hj=>oth j (by omega);have own2:∀(x:Value) (e size n':Nat) (xs:List Value),w.ownsRow (wb+1) e size x n' xs->(w.setCell ⟨wb,4,none⟩ (.slice (some ⟨g,0,none⟩) n cap)).ownsRow (wb+1) e size x n' xs:=λx e size n' xs hx=>bT hx (λj hj=>oth j (by have:=(hx.lt j hj).1;omega));have pop:w.ownsRow (wb+1) 91 4 (.slice (some ⟨g,0,none⟩) n cap) n (bG σ.cells.dropLast):=by
  have hr:=h.rowL;have hne:σ.cells≠[]:=by intro e;rw[e]at hn;simp at hn
  have e:σ.cells=σ.cells.dropLast++[σ.cells.getLast hne]:=(List.dropLast_concat_getLast hne).symm;rw[e,zD]at hr;rw[iZ,List.length_dropLast,hn]at hr;have hl:(bG σ.cells.dropLast).length=n*4:=by
   have:∀l:List bQ,(bG l).length=l.length*4:=λl=>by
    induction l with
    | nil=>rfl
    | cons c l ih=>simp[bG,dF]at ih ⊢;omega
   rw[this,List.length_dropLast,hn];simp
  exact ownsRow_pop hl hr
 refine⟨aM _ wb 4 _ _ _ h.blk,bT h.tokens (λj hj=>low j (h.tokLow j hj)),h.tokLow,h.tokSome,h.tokFew,?_,own2 _ _ _ _ _ h.rowR,own2 _ _ _ _ _ h.rowO,own2 _ _ _ _ _ h.rowH,h.apLR,h.apLO,h.apLH,h.apRO,h.apRH,h.apOH,?_,?_,λp hp=>⟨(oth p.1 (h.held p hp).2.1).trans (h.held p hp).1,(h.held p hp).2⟩⟩
 .have:=own2 _ _ _ _ _ pop;have e:σ.cells.dropLast.length=n:=by rw[List.length_dropLast,hn];rfl
  show World.ownsRow _ _ _ _ _ σ.cells.dropLast.length _;rw[e];exact this
 .obtain⟨ao,c,e,hi⟩:=h.ints1;exact⟨ao,c,e,hi.same low⟩
 .obtain⟨ao,c,e,hi⟩:=h.ints2;exact⟨ao,c,e,hi.same low⟩
theorem NL (h:lI σ):lI (fU E σ i):=by
 unfold fU;split
 .exact ni h
 .exact h
theorem Ml : jd (lM X):=by
 intro E σ i live r h;unfold lM nQ at h;split at h
 case isFalse=>cases h
 obtain⟨a,_,h⟩:=aP.1 h;unfold iq at h;split at h
 .split at h
  .exact lX h
  .cases h
 split at h
 .split at h
  .exact lX h
  .cases h
 .exact lX h
theorem OG (hX:sF 100 X) (gX:ik X) (w:World) (wb:Nat) (HS:List (Nat×Obj)) (E:bB) (σ:St) (i:Nat) (live:Bool) (r:SR) (h:Wk w wb HS E σ) (hi:i<E.toks.length) (hok:lI σ) (hi1:i+1<E.toks.length) (hM:lM X E σ i live=some r) :
  Calls Tryz.prog 73 #[.pointer (some ⟨wb,0,none⟩),.int .i64 (i:Int),.bool live] w (RH wb HS E w r):=by
 have tf:=h.some.2;have hii:(i:Int)+1<1000:=by omega
 have hc:=h;obtain⟨tv,lv,so,sd,ov,hv,rv,hc⟩:=hc;have c1:=hc.cell 1;simp at c1;clear hc;unfold lM at hM;go_enter Tryz.func73,Tryz.ntmps73
 cases hm0:(E.mode==0)
 .have ek:Gh E σ i=mR E σ i:=by simp[Gh,hm0]
  rw[ek]at hM;clear ek;go_wp2_with fail;refine(NY _ wb E σ i h hi hok.1).mono ?_;clear h;rintro e w1 ⟨rfl,h1,hb1⟩;have hc:=h1;obtain⟨tv,lv,so,sd,ov,hv,rv,hc⟩:=hc;have c1:=hc.cell 1;simp at c1
  cases hm1:(E.mode==1)
  .have es:tV E σ i=fU E σ i:=by simp[tV,hm0,hm1]
   rw[es]at hM;clear es hc;have qG:=NL (E:=E) (i:=i) hok;obtain⟨s,HS1⟩:∃s,Hid (stepB E (fU E σ i) live=s):=⟨_,rfl⟩;rw[aa HS1]at hM;unfold nQ at hM;split at hM
   case isFalse=>cases hM
   rename_i hg;obtain⟨_,hn1⟩:=hg;obtain⟨a,hXa,hM⟩:=aP.1 hM;have ga:=gX _ _ _ _ _ hXa;have HM:=aj hM;clear hM;go_wp2_with fail;refine(iw _ wb E (fU E σ i) live h1 qG.2.1).mono ?_;clear h1;rintro e w3 ⟨rfl,h3,hb3⟩;rw[aa HS1];go_wp2_with fail;refine(bZ _ wb E _ (i+1) Oy h3 hi1).mono ?_;clear h3;rintro e w4 ⟨rfl,h4,hb4⟩;go_wp2_with fail;refine(hX w4 wb HS E _ _ s a h4 hn1 (mW (jX qG)) hXa).mono ?_;clear h4 hXa;rintro e w5 ⟨rfl,h5,hb5⟩;have HB:=aj (hb1.trans ((hb3.trans hb4).trans hb5));clear hb3 hb4 hb5 HS1;have hM:=aa HM;clear HM;unfold iq at hM;have hc:=h5;obtain⟨tv,lv,so,sd,ov,hv,rv,hc⟩:=hc;have c1:=hc.cell 1;simp at c1;clear hc
   cases hm2:(E.mode==2)
   .rw[ae (by rw[hm2];simp)]at hM;go_wp2_with fail;refine(eZ _ wb E a.σ s h5).mono ?_;rintro e wl ⟨rfl,hw⟩;obtain rfl:=hw.symm
    cases hl:aW E a.σ s
    .rw[ae (by rw[hl];simp)]at hM;obtain⟨hr,_⟩:=iF hM;have HR:=aj hr;clear hr hM;go_wp2_with fail;refine(bZ _ wb E a.σ a.to xE h5 ga.1).mono ?_;rintro e w8 ⟨rfl,h8,hb8⟩;go_wp2;go_ret;rw[aa HR];exact⟨rfl,h8,(aa HB).trans hb8⟩
    .rw[ag hl]at hM;split at hM
     case isFalse=>cases hM
     rename_i hk;obtain⟨k,hkk⟩:∃k:Nat,mR E σ i=(k:Int):=⟨(mR E σ i).toNat,by omega⟩;rw[hkk]at hM hk ⊢;have hkl:k<a.σ.cells.length:=by omega
     have hk9:(k:Int)<a.σ.cells.length:=by omega
     have hc1000:=ga.2.1.1;have hc:=h5;obtain⟨tv,lv,so,sd,ov,hv,rv,hc⟩:=hc;have c4:=hc.cell 4;simp at c4;obtain⟨ao,cp,rfl,hrow⟩:=hc.lform;obtain⟨g,rfl,hgl,l0,l1,l2,l3⟩:=hrow k hkl;have fz:=hc.rowL.frozenAt (k*4+1);have hset:=aj (hc.setL a.v hkl);rw[gU]at hM;clear hrow l0 l2 l3 hk;have HC:=aj hc;clear hc;obtain⟨hr,_⟩:=iF hM;have HR:=aj hr;clear hr hM;go_wp2_with fail;refine(bZ _ wb E (qQ a.σ k a.v) a.to xE ⟨_,_,_,_,_,_,_,aa hset⟩ ga.1).mono ?_;rintro e w8 ⟨rfl,h8,hb8⟩;go_wp2;go_ret;rw[aa HR];exact⟨rfl,h8,((aa HB).setCell (by show wb<=g;omega) _).trans hb8⟩
   .have hm3:(E.mode==3)=false:=by
     have:E.mode=2:=by simpa using hm2
     rw[this];rfl
    cases hah:a.h
    .rw[ae (by rw[hah];simp)]at hM;have hl:aW E a.σ s=false:=by simp[aW,hm3]
     rw[ae (by rw[hl];simp)]at hM;go_wp2_with fail;refine(eZ _ wb E a.σ s h5).mono ?_;rintro e wl ⟨rfl,hw⟩;obtain rfl:=hw.symm;rw[hl];obtain⟨hr,_⟩:=iF hM;have HR:=aj hr;clear hr hM;go_wp2_with fail;refine(bZ _ wb E a.σ a.to xE h5 ga.1).mono ?_;rintro e w8 ⟨rfl,h8,hb8⟩;go_wp2;go_ret;rw[aa HR];exact⟨rfl,h8,(aa HB).trans hb8⟩
    .rw[ag (by rw[hah,hm2];rfl)]at hM;split at hM
     case isFalse=>cases hM
     rename_i hk;obtain⟨k,hkk⟩:∃k:Nat,mR E σ i=(k:Int):=⟨(mR E σ i).toNat,by omega⟩;rw[hkk]at hM hk ⊢;have hkl:k<a.σ.cells.length:=by omega
     have hk9:(k:Int)<a.σ.cells.length:=by omega
     have hc1000:=ga.2.1.1;have hc:=h5;obtain⟨tv,lv,so,sd,ov,hv,rv,hc⟩:=hc;have c4:=hc.cell 4;simp at c4;obtain⟨ao,cp,rfl,hrow⟩:=hc.lform;obtain⟨g,rfl,hgl,l0,l1,l2,l3⟩:=hrow k hkl;have eco:mG a.σ (k:Int)=a.σ.cells[k]:=by simp[mG,List.getD,aU hkl]
     unfold YS at hM;rw[eco]at hM;clear hrow l0 l1 l3 eco hc hk;generalize (a.σ.cells[k]).hid=hh at *
     cases hh
     .rw[ae (by simp)]at hM;have hl:aW E (bR E a.σ i 11) s=false:=by simp[aW,hm3]
      go_wp2_with fail;refine(iR _ wb E a.σ i 11 h5 hi).mono ?_;rintro e w6 ⟨rfl,h6,hb6⟩;go_wp2_with fail;refine(eZ _ wb E (bR E a.σ i 11) s h6).mono ?_;rintro e wl ⟨rfl,hw⟩;obtain rfl:=hw.symm;rw[hl];obtain⟨hr,_⟩:=iF hM;have HR:=aj hr;clear hr hM;go_wp2_with fail;refine(bZ _ wb E (bR E a.σ i 11) a.to xE h6 ga.1).mono ?_;rintro e w8 ⟨rfl,h8,hb8⟩;go_wp2;go_ret;rw[aa HR];exact⟨rfl,h8,((aa HB).trans hb6).trans hb8⟩
     .rw[ag rfl]at hM;have hl:aW E a.σ s=false:=by simp[aW,hm3]
      go_wp2_with fail;refine(eZ _ wb E a.σ s h5).mono ?_;rintro e wl ⟨rfl,hw⟩;obtain rfl:=hw.symm;rw[hl];obtain⟨hr,_⟩:=iF hM;have HR:=aj hr;clear hr hM;go_wp2_with fail;refine(bZ _ wb E a.σ a.to xE h5 ga.1).mono ?_;rintro e w8 ⟨rfl,h8,hb8⟩;go_wp2;go_ret;rw[aa HR];exact⟨rfl,h8,(aa HB).trans hb8⟩
  .have hm2:(E.mode==2)=false:=by
    have:E.mode=1:=by simpa using hm1
    rw[this];rfl
   have hm3:(E.mode==3)=false:=by
    have:E.mode=1:=by simpa using hm1
    rw[this];rfl
   have qG:=NL (E:=E) (i:=i) hok;by_cases hk:0<=mR E σ i
   .obtain⟨k,hkk,hkl⟩:=ru (l:=σ.cells) (s:=(aT E i).text) (by show ¬ mR E σ i<0;omega);have hkk':mR E σ i=(k:Int):=hkk;have hkl2:k<(fU E σ i).cells.length:=by rw[qI];exact hkl
    have hk9:(k:Int)<(fU E σ i).cells.length:=by omega
    have hc1000:=qG.1;have c4:=hc.cell 4;simp at c4;obtain⟨ao,cp,rfl,hrow⟩:=hc.lform;obtain⟨g,rfl,hgl,l0,l1,l2,l3⟩:=hrow k hkl2;have eco:mG (fU E σ i) (mR E σ i)=(fU E σ i).cells[k]:=by rw[hkk'];simp[mG,List.getD,aU hkl2]
    obtain⟨fr,hfr⟩:∃fr,((fU E σ i).cells[k]).free=fr:=⟨_,rfl⟩;have HF:=aj hfr;clear hfr;rw[aa HF]at l3;rw[hkk']at hM ⊢;clear hrow l0 l1 l2 hc
    cases fr
    .have es:tV E σ i=bR E (fU E σ i) i 10:=by simp[tV,hm0,hm1,hk,eco,aa HF]
     rw[es]at hM;clear es eco HF hkk hkk';go_wp2_with fail;refine(iR _ wb E (fU E σ i) i 10 h1 hi).mono ?_;clear h1 c4 l3;rintro e w2 ⟨rfl,h2,hb2⟩;have Yy:=ni (E:=E) (i:=i) (e:=10) qG;obtain⟨s,HS1⟩:∃s,Hid (stepB E (bR E (fU E σ i) i 10) live=s):=⟨_,rfl⟩;rw[aa HS1]at hM;unfold nQ at hM;split at hM
     case isFalse=>cases hM
     rename_i hg;obtain⟨_,hn1⟩:=hg;obtain⟨a,hXa,hM⟩:=aP.1 hM;have ga:=gX _ _ _ _ _ hXa;have HM:=aj hM;clear hM;go_wp2_with fail;refine(iw _ wb E (bR E (fU E σ i) i 10) live h2 Yy.2.1).mono ?_;clear h2;rintro e w3 ⟨rfl,h3,hb3⟩;rw[aa HS1];go_wp2_with fail;refine(bZ _ wb E _ (i+1) Oy h3 hi1).mono ?_;clear h3;rintro e w4 ⟨rfl,h4,hb4⟩;go_wp2_with fail;refine(hX w4 wb HS E _ _ s a h4 hn1 (mW (jX Yy)) hXa).mono ?_;clear h4 hXa;rintro e w5 ⟨rfl,h5,hb5⟩;have HB:=aj ((hb1.trans hb2).trans ((hb3.trans hb4).trans hb5));clear hb3 hb4 hb5 HS1;have hM:=aa HM;clear HM;unfold iq at hM;have hc:=h5;obtain⟨tv,lv,so,sd,ov,hv,rv,hc⟩:=hc;have c1:=hc.cell 1;simp at c1;clear hc;rw[ae (by rw[hm2];simp)]at hM;have hl:aW E a.σ s=false:=by simp[aW,hm3]
     rw[ae (by rw[hl];simp)]at hM;go_wp2_with fail;refine(eZ _ wb E a.σ s h5).mono ?_;rintro e wl ⟨rfl,hw⟩;obtain rfl:=hw.symm;rw[hl];obtain⟨hr,_⟩:=iF hM;have HR:=aj hr;clear hr hM;go_wp2_with fail;refine(bZ _ wb E a.σ a.to xE h5 ga.1).mono ?_;rintro e w8 ⟨rfl,h8,hb8⟩;go_wp2;go_ret;rw[aa HR];exact⟨rfl,h8,(aa HB).trans hb8⟩
    .have es:tV E σ i=fU E σ i:=by simp[tV,hm0,hm1,eco,aa HF]
     rw[es]at hM;clear es eco HF hkk hkk';obtain⟨s,HS1⟩:∃s,Hid (stepB E (fU E σ i) live=s):=⟨_,rfl⟩;rw[aa HS1]at hM;unfold nQ at hM;split at hM
     case isFalse=>cases hM
     rename_i hg;obtain⟨_,hn1⟩:=hg;obtain⟨a,hXa,hM⟩:=aP.1 hM;have ga:=gX _ _ _ _ _ hXa;have HM:=aj hM;clear hM;go_wp2_with fail;refine(iw _ wb E (fU E σ i) live h1 qG.2.1).mono ?_;clear h1;rintro e w3 ⟨rfl,h3,hb3⟩;rw[aa HS1];go_wp2_with fail;refine(bZ _ wb E _ (i+1) Oy h3 hi1).mono ?_;clear h3;rintro e w4 ⟨rfl,h4,hb4⟩;go_wp2_with fail;refine(hX w4 wb HS E _ _ s a h4 hn1 (mW (jX qG)) hXa).mono ?_;clear h4 hXa;rintro e w5 ⟨rfl,h5,hb5⟩;have HB:=aj (hb1.trans ((hb3.trans hb4).trans hb5));clear hb3 hb4 hb5 HS1;have hM:=aa HM;clear HM;unfold iq at hM;have hc:=h5;obtain⟨tv,lv,so,sd,ov,hv,rv,hc⟩:=hc;have c1:=hc.cell 1;simp at c1;clear hc;rw[ae (by rw[hm2];simp)]at hM;have hl:aW E a.σ s=false:=by simp[aW,hm3]
     rw[ae (by rw[hl];simp)]at hM;go_wp2_with fail;refine(eZ _ wb E a.σ s h5).mono ?_;rintro e wl ⟨rfl,hw⟩;obtain rfl:=hw.symm;rw[hl];obtain⟨hr,_⟩:=iF hM;have HR:=aj hr;clear hr hM;go_wp2_with fail;refine(bZ _ wb E a.σ a.to xE h5 ga.1).mono ?_;rintro e w8 ⟨rfl,h8,hb8⟩;go_wp2;go_ret;rw[aa HR];exact⟨rfl,h8,(aa HB).trans hb8⟩
   .have es:tV E σ i=fU E σ i:=by simp[tV,hm0,hm1,hk]
    rw[es]at hM;clear es hc;have hk0:mR E σ i<0:=by omega
    generalize mR E σ i=kk at *;obtain⟨s,HS1⟩:∃s,Hid (stepB E (fU E σ i) live=s):=⟨_,rfl⟩;rw[aa HS1]at hM;unfold nQ at hM;split at hM
    case isFalse=>cases hM
    rename_i hg;obtain⟨_,hn1⟩:=hg;obtain⟨a,hXa,hM⟩:=aP.1 hM;have ga:=gX _ _ _ _ _ hXa;have HM:=aj hM;clear hM;go_wp2_with fail;refine(iw _ wb E (fU E σ i) live h1 qG.2.1).mono ?_;clear h1;rintro e w3 ⟨rfl,h3,hb3⟩;rw[aa HS1];go_wp2_with fail;refine(bZ _ wb E _ (i+1) Oy h3 hi1).mono ?_;clear h3;rintro e w4 ⟨rfl,h4,hb4⟩;go_wp2_with fail;refine(hX w4 wb HS E _ _ s a h4 hn1 (mW (jX qG)) hXa).mono ?_;clear h4 hXa;rintro e w5 ⟨rfl,h5,hb5⟩;have HB:=aj (hb1.trans ((hb3.trans hb4).trans hb5));clear hb3 hb4 hb5 HS1;have hM:=aa HM;clear HM;unfold iq at hM;have hc:=h5;obtain⟨tv,lv,so,sd,ov,hv,rv,hc⟩:=hc;have c1:=hc.cell 1;simp at c1;clear hc;rw[ae (by rw[hm2];simp)]at hM;have hl:aW E a.σ s=false:=by simp[aW,hm3]
    rw[ae (by rw[hl];simp)]at hM;go_wp2_with fail;refine(eZ _ wb E a.σ s h5).mono ?_;rintro e wl ⟨rfl,hw⟩;obtain rfl:=hw.symm;rw[hl];obtain⟨hr,_⟩:=iF hM;have HR:=aj hr;clear hr hM;go_wp2_with fail;refine(bZ _ wb E a.σ a.to xE h5 ga.1).mono ?_;rintro e w8 ⟨rfl,h8,hb8⟩;go_wp2;go_ret;rw[aa HR];exact⟨rfl,h8,(aa HB).trans hb8⟩
 .have hm1:(E.mode==1)=false:=by
   have:E.mode=0:=by simpa using hm0
   rw[this];rfl
  have hm2:(E.mode==2)=false:=by
   have:E.mode=0:=by simpa using hm0
   rw[this];rfl
  have hm3:(E.mode==3)=false:=by
   have:E.mode=0:=by simpa using hm0
   rw[this];rfl
  have es:tV E σ i=σ:=by simp[tV,hm0]
  rw[es]at hM;clear es;obtain⟨s,HS1⟩:∃s,Hid (stepB E σ live=s):=⟨_,rfl⟩;rw[aa HS1]at hM;unfold nQ at hM;split at hM
  case isFalse=>cases hM
  rename_i hg;obtain⟨_,hn1⟩:=hg;obtain⟨a,hXa,hM⟩:=aP.1 hM;have ga:=gX _ _ _ _ _ hXa;have HM:=aj hM;clear hM;go_wp2_with fail;refine(iw _ wb E σ live h hok.2.1).mono ?_;clear h;rintro e w3 ⟨rfl,h3,hb3⟩;rw[aa HS1];go_wp2_with fail;refine(bZ _ wb E _ (i+1) Oy h3 hi1).mono ?_;clear h3;rintro e w4 ⟨rfl,h4,hb4⟩;go_wp2_with fail;refine(hX w4 wb HS E _ _ s a h4 hn1 (mW (jX hok)) hXa).mono ?_;clear h4 hXa;rintro e w5 ⟨rfl,h5,hb5⟩;have HB:=aj (((hb3.trans hb4).trans hb5));clear hb3 hb4 hb5 HS1;have hM:=aa HM;clear HM;unfold iq at hM;have hc:=h5;obtain⟨tv,lv,so,sd,ov,hv,rv,hc⟩:=hc;have c1:=hc.cell 1;simp at c1;clear hc;rw[ae (by rw[hm2];simp)]at hM;have hl:aW E a.σ s=false:=by simp[aW,hm3]
  rw[ae (by rw[hl];simp)]at hM;go_wp2_with fail;refine(eZ _ wb E a.σ s h5).mono ?_;rintro e wl ⟨rfl,hw⟩;obtain rfl:=hw.symm;rw[hl];obtain⟨hr,_⟩:=iF hM;have HR:=aj hr;clear hr hM;go_wp2_with fail;refine(bZ _ wb E a.σ a.to xE h5 ga.1).mono ?_;rintro e w8 ⟨rfl,h8,hb8⟩;go_wp2;go_ret;rw[aa HR];exact⟨rfl,h8,(aa HB).trans hb8⟩
theorem Kt (v:Int) (w:World) (hv:dw v) :
  Calls Tryz.prog 103 #[.int .i64 v] w λe w'=>e=.returned (.int .i64 (EY v))/\w'=w:=by
 unfold EY;obtain⟨hv0,hv1⟩:=hv;obtain⟨V,hV⟩:∃V,min (max v 0) 255=V:=⟨_,rfl⟩;have V0:0<=V:=by omega
 have V1:V<=255:=by omega
 rw[hV];obtain⟨R,hR⟩:∃R,Al V 300 0=R:=⟨_,rfl⟩;rw[hR];go_enter Tryz.func103,Tryz.ntmps103;go_wp2;have HV:=aj hV;clear hV
 go_loopg [3] 300 (λn sk wr=>∃k:Int,0<=k/\k+n=300/\sk=.int .i64 k/\wr=w/\Al V n k=R)
 case atStart=>exact⟨0,by omega,by omega,rfl,rfl,hR⟩
 case round=>
  clear hR;obtain⟨k,k0,kn,rfl,rfl,hk⟩:=hrel;have p0:0<=(2*k+1)*(2*k+1):=Int.mul_nonneg (by omega) (by omega);have p1:(2*k+1)*(2*k+1)<=601*601:=uy (by omega) (by omega) (by omega) (by omega);have HK:=aj hk;clear hk;by_cases hlt:(2*k+1)*(2*k+1)<1020*V
  .cases gk with
   | zero=>
    exfalso;have:(601:Int)*601<=(2*k+1)*(2*k+1):=uy (by omega) (by omega) (by omega) (by omega);omega
   | succ gk=>
    have hk:=aa HK;rw[Al,ag (by omega)]at hk;have HK2:=aj hk;clear hk HK;go_wp2
    go_roundg gk
    case measure=>omega
    case rel=>exact⟨k+1,by omega,by omega,rfl,rfl,aa HK2⟩
  .have e:R=k:=by
    have hk:=aa HK
    cases gk with
    | zero=>simpa[Al] using hk.symm
    | succ gk=>rw[Al,ae (by omega)]at hk;exact hk.symm
   have hge:1020*V<=(2*k+1)*(2*k+1):=by omega
   have HE:=aj e;clear e HK;go_wp2;go_ret;exact⟨jJ (aa HE).symm,rfl⟩
theorem Vt (hid:Bool):jd (Cq X hid):=by
 intro E σ i live r h;unfold Cq at h;split at h
 case isFalse=>cases h
 obtain⟨a,_,h⟩:=aP.1 h;unfold uD at h;split at h
 .split at h
  .exact lX h
  .cases h
 .exact lX h
theorem Sj (hX:sF 100 X) (gX:ik X) (hid:Bool) (w:World) (wb:Nat) (HS:List (Nat×Obj)) (E:bB) (σ:St) (i:Nat) (live:Bool) (r:SR) (h:Wk w wb HS E σ) (hi:i<E.toks.length) (hok:lI σ) (hM:Cq X hid E σ i live=some r) :
  Calls Tryz.prog 76 #[.pointer (some ⟨wb,0,none⟩),.int .i64 (i:Int),.bool live,.bool hid] w (RH wb HS E w r):=by
 have tf:=h.some.2;unfold Cq at hM;split at hM
 case isFalse=>cases hM
 rename_i hi1;have hii:(i:Int)+1<1000:=by omega
 obtain⟨a,hXa,hM⟩:=aP.1 hM;have ga:=gX _ _ _ _ _ hXa;obtain⟨s,HS1⟩:∃s,Hid (stepB E σ live=s):=⟨_,rfl⟩;rw[aa HS1]at hM hXa;have HM:=aj hM;clear hM;go_enter Tryz.func76,Tryz.ntmps76;go_wp2_with fail;refine(iw _ wb E σ live h hok.2.1).mono ?_;clear h;rintro e w1 ⟨rfl,h1,hb1⟩;rw[aa HS1];clear HS1;go_wp2_with fail;refine(hX w1 wb HS E _ (i+1) s a h1 hi1 (jX hok) hXa).mono ?_;clear h1 hXa hX gX;rintro e w2 ⟨rfl,h2,hb2⟩;have HB:=aj (hb1.trans hb2);clear hb1 hb2;have hM:=aa HM;clear HM;unfold uD at hM;have hc:=h2;obtain⟨tv,lv,so,sd,ov,hv,rv,hc⟩:=hc;have c1:=hc.cell 1;simp at c1;clear hc;have hva:=ga.2.2
 cases hm2:(E.mode==2)
 .have e5:BJ E a.σ i a.h hid=a.σ:=by simp[BJ,hm2]
  rw[e5]at hM;clear e5;go_wp2_with fail;refine(eZ _ wb E a.σ s h2).mono ?_;rintro e wl ⟨rfl,hw⟩;obtain rfl:=hw.symm
  cases hl:aW E a.σ s
  .rw[ae (by rw[hl];simp)]at hM;obtain⟨hr,_⟩:=iF hM;have HR:=aj hr;clear hr hM;go_wp2_with fail;refine(bZ _ wb E a.σ a.to xE h2 ga.1).mono ?_;rintro e w8 ⟨rfl,h8,hb8⟩;go_wp2;go_ret;rw[aa HR];exact⟨rfl,h8,(aa HB).trans hb8⟩
  .rw[ag hl]at hM;split at hM
   case isFalse=>cases hM
   rename_i hg;obtain⟨p0,p1,p2,p3⟩:=hg;obtain⟨P,hP⟩:∃P:Nat,E.point=(P:Int):=⟨E.point.toNat,by omega⟩;have hc:=h2;obtain⟨tv,lv,so,sd,ov,hv,rv,hc⟩:=hc;have c10:=hc.cell 10;have c11:=hc.cell 11;have c15:=hc.cell 15;simp at c10 c11 c15;rw[hP]at c15 p1 p2 p3;obtain⟨hr,_⟩:=iF hM;unfold Ih at hr;rw[hP,gU]at hr;clear hM;have hla:a.σ.opn.length≠0:=by omega
   have hlb:a.σ.hid.length≠0:=by omega
   cases hid
   .rw[ae (by simp)]at hr;have HR:=aj hr;clear hr;obtain⟨lo,hlo⟩:∃lo,a.σ.opn.length=lo+1:=⟨a.σ.opn.length-1,by omega⟩;have ho:=hc.rowO;rw[hlo]at ho;obtain⟨g,cp,rfl⟩:=iM ho;have x0:=ho.cellAt P (by omega);rw[aU (by simp;omega)]at x0;have fz:=ho.frozenAt P;have hcs:=hc.turn (w':=w2.drew) a.σ rfl rfl rfl rfl hc.blk (λ_ _=>rfl);rw[<-hlo]at hcs;have hset:=aj (hcs.setO (k:=P) (EY a.v));have gb:wb<g:=by have:=(ho.lt g rfl).1;omega
    clear hcs ho;have HC:=aj hc;clear hc;go_wp2_with fail
    go_region_with (go_at_call_of 103 (Value.int .i64 a.v);refine(Kt a.v _ hva).mono ?_;rintro e wt ⟨rfl,hw⟩;obtain rfl:=hw.symm)
    all_goals go_wp2_with fail
    all_goals refine(Er _ wb E _ 2 _ ⟨_,_,_,_,_,_,_,aa hset⟩ ga.2.1.2.2.1 ga.2.1.2.2.2).mono ?_
    all_goals (rintro e w7 ⟨rfl,h7,hb7⟩;go_wp2_with fail;refine(bZ _ wb E _ a.to xE h7 ga.1).mono ?_;rintro e w8 ⟨rfl,h8,hb8⟩;go_wp2;go_ret;rw[aa HR];exact⟨rfl,h8,(((dX (aa HB) 1).setCell (by show wb<=g;omega) _).trans hb7).trans hb8⟩)
   .rw[ag rfl]at hr;have HR:=aj hr;clear hr;obtain⟨lo,hlo⟩:∃lo,a.σ.hid.length=lo+1:=⟨a.σ.hid.length-1,by omega⟩;have ho:=hc.rowH;rw[hlo]at ho;obtain⟨g,cp,rfl⟩:=iM ho;have x0:=ho.cellAt P (by omega);rw[aU (by simp;omega)]at x0;have fz:=ho.frozenAt P;have hcs:=hc.turn (w':=w2.drew) a.σ rfl rfl rfl rfl hc.blk (λ_ _=>rfl);rw[<-hlo]at hcs;have hset:=aj (hcs.setH (k:=P) (EY a.v));have gb:wb<g:=by have:=(ho.lt g rfl).1;omega
    clear hcs ho;have HC:=aj hc;clear hc;go_wp2_with fail
    go_region_with (go_at_call_of 103 (Value.int .i64 a.v);refine(Kt a.v _ hva).mono ?_;rintro e wt ⟨rfl,hw⟩;obtain rfl:=hw.symm)
    all_goals go_wp2_with fail
    all_goals refine(Er _ wb E _ 3 _ ⟨_,_,_,_,_,_,_,aa hset⟩ ga.2.1.2.2.1 ga.2.1.2.2.2).mono ?_
    all_goals (rintro e w7 ⟨rfl,h7,hb7⟩;go_wp2_with fail;refine(bZ _ wb E _ a.to xE h7 ga.1).mono ?_;rintro e w8 ⟨rfl,h8,hb8⟩;go_wp2;go_ret;rw[aa HR];exact⟨rfl,h8,(((dX (aa HB) 1).setCell (by show wb<=g;omega) _).trans hb7).trans hb8⟩)
 .have hm3:(E.mode==3)=false:=by
   have:E.mode=2:=by simpa using hm2
   rw[this];rfl
  cases hah:a.h
  .have e5:BJ E a.σ i a.h hid=a.σ:=by simp[BJ,hah]
   rw[hah]at e5;rw[hah,e5]at hM;clear e5;have hl:aW E a.σ s=false:=by simp[aW,hm3]
   rw[ae (by rw[hl];simp)]at hM;obtain⟨hr,_⟩:=iF hM;have HR:=aj hr;clear hr hM;go_wp2_with fail;refine(eZ _ wb E a.σ s h2).mono ?_;rintro e wl ⟨rfl,hw⟩;obtain rfl:=hw.symm;rw[hl];go_wp2_with fail;refine(bZ _ wb E a.σ a.to xE h2 ga.1).mono ?_;rintro e w8 ⟨rfl,h8,hb8⟩;go_wp2;go_ret;rw[aa HR];exact⟨rfl,h8,(aa HB).trans hb8⟩
  .cases hid
   .have e5:BJ E a.σ i true false=bR E a.σ i 11:=by simp[BJ,hm2]
    rw[hah,e5]at hM;clear e5;go_wp2_with fail;refine(iR _ wb E a.σ i 11 h2 hi).mono ?_;rintro e w6 ⟨rfl,h6,hb6⟩;have hl:aW E (bR E a.σ i 11) s=false:=by simp[aW,hm3]
    rw[ae (by rw[hl];simp)]at hM;obtain⟨hr,_⟩:=iF hM;have HR:=aj hr;clear hr hM;go_wp2_with fail;refine(eZ _ wb E (bR E a.σ i 11) s h6).mono ?_;rintro e wl ⟨rfl,hw⟩;obtain rfl:=hw.symm;rw[hl];go_wp2_with fail;refine(bZ _ wb E (bR E a.σ i 11) a.to xE h6 ga.1).mono ?_;rintro e w8 ⟨rfl,h8,hb8⟩;go_wp2;go_ret;rw[aa HR];exact⟨rfl,h8,((aa HB).trans hb6).trans hb8⟩
   .have e5:BJ E a.σ i true true=a.σ:=by simp[BJ]
    rw[hah,e5]at hM;clear e5;have hl:aW E a.σ s=false:=by simp[aW,hm3]
    rw[ae (by rw[hl];simp)]at hM;obtain⟨hr,_⟩:=iF hM;have HR:=aj hr;clear hr hM;go_wp2_with fail;refine(eZ _ wb E a.σ s h2).mono ?_;rintro e wl ⟨rfl,hw⟩;obtain rfl:=hw.symm;rw[hl];go_wp2_with fail;refine(bZ _ wb E a.σ a.to xE h2 ga.1).mono ?_;rintro e w8 ⟨rfl,h8,hb8⟩;go_wp2;go_ret;rw[aa HR];exact⟨rfl,h8,(aa HB).trans hb8⟩
theorem La {k:Int} (h:lI σ):lI (Bp E σ i k):=by
 unfold Bp;split
 .exact h
 .exact ni h
theorem Ie {a b:Nat} (h:lI σ):lI (jH E σ a b):=by
 unfold jH;split
 .exact ni h
 .exact h
theorem Xx (h:lI σ):lI (sI E σ):=by
 unfold sI;split
 .exact h
 .obtain⟨a,b⟩:=h;exact⟨by show σ.cells.dropLast.length<=1000;rw[List.length_dropLast];omega,b⟩
theorem EO (gB:jd B) (E:bB) (at_:Nat) (last:Int) (f:Nat):∀n q r,qF E q->jE B E at_ last f n q=some r->qF E r:=by
 induction f with
 | zero=>
  intro n q r gq h;unfold jE at h;split at h
  .cases h
  .cases h;exact gq
 | succ f ih=>
  intro n q r gq h;unfold jE at h;split at h
  .dsimp only at h;split at h
   .obtain⟨x,hx,h⟩:=aP.1 h;exact ih _ _ _ (gB _ _ _ _ _ hx) h
   .cases h
  .cases h;exact gq
theorem TP (gB:jd B):jd (wW B):=by
 intro E σ i live r h;unfold wW EX F6 Af at h;split at h
 case isFalse=>cases h
 split at h
 case isFalse=>cases h
 split at h
 case isFalse=>cases h
 split at h
 .exact lX h
 split at h
 case isFalse=>cases h
 rename_i hg;obtain⟨q,hq,h⟩:=aP.1 h;have gq:qF E q:=by
  unfold oM at hq;split at hq
  .split at hq
   .exact EO gB _ _ _ _ _ _ _ ⟨hg.1,Ie hg.2⟩ hq
   .cases hq
  .exact gB _ _ _ _ _ hq
 unfold nD at h;split at h
 .cases h;exact⟨gq.1,Xx gq.2⟩
 .cases h
theorem gM.drew {w:World} {wb:Nat} {HS:List (Nat×Obj)} {E:bB} {σ:St} {tv lv so sd ov hv rv:Value} (h:gM w wb HS E σ tv lv so sd ov hv rv):gM w.drew wb HS E σ tv lv so sd ov hv rv:=
 h.turn σ rfl rfl rfl rfl h.blk (λ_ _=>rfl)
theorem Ye (hB:Ii 102 B) (gB:jd B):Ii 75 (wW B):=by
 intro w wb HS E σ i live r h hi hok hM;have tf:=h.some.2;unfold wW EX F6 at hM;split at hM
 case isFalse=>cases hM
 rename_i hi1;split at hM
 case isFalse=>cases hM
 rename_i hi2;split at hM
 case isFalse=>cases hM
 rename_i hg3;obtain⟨hi3,hi4⟩:=hg3;have HM:=aj hM;clear hM;have hii:(i:Int)+1<1000:=by omega
 obtain⟨s,HS1⟩:∃s,Hid (stepB E σ live=s):=⟨_,rfl⟩;have hs3:s=true->(E.mode==3)=true:=λe=>by
  have:=aa HS1;rw[e]at this;simp only[stepB,aW,dC]at this;exact this.1.1.2
 rw[aa HS1]at HM;have qG:lI (aC E σ live):=jX hok;obtain⟨σ1,H1⟩:∃σ1,Hid (aC E σ live=σ1):=⟨_,rfl⟩;rw[aa H1]at HM hi2 hi3 hi4 qG;go_enter Tryz.func75,Tryz.ntmps75;go_wp2_with fail;refine(iw _ wb E σ live h hok.2.1).mono ?_;clear h;rintro e w1 ⟨rfl,h1,hb1⟩;rw[aa H1]at h1;rw[aa HS1];clear HS1 H1;obtain⟨first,HF⟩:∃first,Hid (D5 E σ1 (i+1) 1=first):=⟨_,rfl⟩
 obtain⟨σ2,H2⟩:∃σ2,Hid (Bp E σ1 (i+1) 1=σ2):=⟨_,rfl⟩;have Yy:lI σ2:=by rw[<-aa H2];exact La qG
 rw[aa HF]at HM hi2 hi3 hi4;rw[aa H2]at HM hi3 hi4;go_wp2_with fail;refine(LV _ wb E σ1 (i+1) 1 h1 hi1).mono ?_;clear h1;rintro e w2 ⟨rfl,h2,hb2⟩;rw[aa H2]at h2;rw[aa HF];clear HF H2 qG;obtain⟨a2,HA⟩:∃a2,Hid (D5 E σ2 first 2=a2):=⟨_,rfl⟩;obtain⟨σ3,H3⟩:∃σ3,Hid (Bp E σ2 first 2=σ3):=⟨_,rfl⟩;have ok3:lI σ3:=by rw[<-aa H3];exact La Yy
 rw[aa HA]at HM hi3 hi4;rw[aa H3]at HM hi4;go_wp2_with fail;refine(LV _ wb E σ2 first 2 h2 hi2).mono ?_;clear h2;rintro e w3 ⟨rfl,h3,hb3⟩;rw[aa H3]at h3;rw[aa HA];clear HA H3 Yy;obtain⟨last,HL⟩:∃last,Hid (eG E σ3 a2 M3=last):=⟨_,rfl⟩;obtain⟨σ4,H4⟩:∃σ4,Hid (eO E σ3 a2 M3=σ4):=⟨_,rfl⟩;have ok4:lI σ4:=by rw[<-aa H4];exact mW ok3
 rw[aa HL]at HM hi4;rw[aa H4]at HM;go_wp2_with fail;refine(bZ _ wb E σ3 a2 M3 h3 hi3).mono ?_;clear h3;rintro e w4 ⟨rfl,h4,hb4⟩;rw[aa H4]at h4;rw[aa HL];clear HL H4 ok3;obtain⟨at_,HT⟩:∃at_,Hid (D5 E σ4 last 2=at_):=⟨_,rfl⟩;obtain⟨σ5,H5⟩:∃σ5,Hid (Bp E σ4 last 2=σ5):=⟨_,rfl⟩;have ok5:lI σ5:=by rw[<-aa H5];exact La ok4
 rw[aa HT,aa H5]at HM;go_wp2_with fail;refine(LV _ wb E σ4 last 2 h4 hi4).mono ?_;clear h4;rintro e w5 ⟨rfl,h5,hb5⟩;rw[aa H5]at h5;rw[aa HT];clear HT H5 ok4;have HBel:=aj ((((hb1.trans hb2).trans hb3).trans hb4).trans hb5);clear hb1 hb2 hb3 hb4 hb5;go_wp2_with fail;refine(dH _ wb E σ5 h5).mono ?_;rintro e wq ⟨rfl,hw⟩;obtain rfl:=hw.symm;have hM:=aa HM;clear HM;unfold Af at hM
 cases hst:kQ E σ5
 .rw[ae (by rw[hst];simp)]at hM;split at hM
  case isFalse=>cases hM
  rename_i hg;obtain⟨hat,okd⟩:=hg;obtain⟨q,hq,hM⟩:=aP.1 hM;have HM:=aj hM;have HQ:=aj hq;clear hM hq;go_wp2_with fail;refine(EH _ wb E σ5 (i+1) false false h5 hi1 ok5.1).mono ?_;clear h5;rintro e w6 ⟨rfl,h6,hb6⟩;have HB6:=aj ((aa HBel).trans hb6);clear HBel hb6;have fi2:(first:Int)<(E.toks.length:Int):=by omega
  have fi4:(last:Int)<(E.toks.length:Int):=by omega
  obtain⟨σ6,H6⟩:∃σ6,Hid (oz E σ5 (i+1) false false=σ6):=⟨_,rfl⟩;rw[aa H6]at h6 okd HQ;clear H6;have hc:=h6;obtain⟨tv,lv,so,sd,ov,hv,rv,hc⟩:=hc;obtain⟨tb,cap,rfl,htb⟩:=hc.tokv;have c0:=hc.cell 0;have c1:=hc.cell 1;simp at c0 c1;obtain⟨_,tn1,_,_⟩:=hc.tokcell first hi2
  obtain⟨_,tn2,_,_⟩:=hc.tokcell last hi4;clear hc;have gq:qF E q:=by
   have hq:=aa HQ;unfold oM at hq;split at hq
   .split at hq
    .exact EO gB _ _ _ _ _ _ _ ⟨hat,Ie okd⟩ hq
    .cases hq
   .exact gB _ _ _ _ _ hq
  cases s
  .rw[oM,ae (by simp)]at HQ
   cases hm1:(E.mode==1)
   .have en:jH E σ6 first last=σ6:=by simp[jH,hm1]
    rw[en]at HQ;clear en;go_wp2
    go_quiet (fail)
    go_wp2_with fail;refine(hB _ wb HS E _ at_ false q (h6.drewN _) hat okd (aa HQ)).mono ?_;clear h6 HQ;rintro e w8 ⟨rfl,h8,hb8⟩;have HB8:=aj ((dX (aa HB6) _).trans hb8);clear hb8;have hc:=h8;obtain⟨tv,lv,so,sd,ov,hv,rv,hc⟩:=hc;obtain⟨tb,cap,rfl,htb⟩:=hc.tokv;have c0:=hc.cell 0;have c1:=hc.cell 1;simp at c0 c1;obtain⟨_,tn1,_,_⟩:=hc.tokcell first hi2
    obtain⟨_,tn2,_,_⟩:=hc.tokcell last hi4;clear hc;go_wp2
    go_loopg [12] 0 (λ_ st wr=>st=.int .i64 (q.to:Int)/\wr=w8)
    case atStart=>exact⟨rfl,rfl⟩
    case round=>
     obtain⟨rfl,rfl⟩:=hrel;have hc:=h8;obtain⟨tv,lv,so,sd,ov,hv,rv,hc⟩:=hc;have c1:=hc.cell 1;simp at c1;have hE:=aa HM;clear HM;unfold nD at hE
     cases hm0:(E.mode==0)
     .obtain⟨n,hn⟩:∃n,q.σ.cells.length=n+1:=by
       split at hE
       .rename_i hd;rw[hm0]at hd;simp at hd;exact⟨q.σ.cells.length-1,by omega⟩
       .cases hE
      rw[ag (by rw[hn];simp)]at hE;have ed:sI E q.σ = { q.σ with cells:=q.σ.cells.dropLast }:=by simp[sI,hm0]
      rw[ed]at hE;have HR:=aj (bN hE);clear hE ed;have ho:=hc.rowL;rw[hn]at ho;obtain⟨g,cp,rfl⟩:=iM ho;have c4:=hc.cell 4;have fz:=hc.thaw 4;simp at c4;have hpop:=aj (hc.drew.popL hn);have hcap:n+1<=cp/\cp<=maxLen:=by
       rcases ho.2 with⟨h0,_⟩|⟨g',cap',cur,h0,_,_,h1,h2,_⟩
       .cases h0
       .cases h0;exact⟨h1,h2⟩
      obtain⟨hcap1,hcap2⟩:=hcap;have hn1:n+1<=1000:=by have:=gq.2.1;omega
      have HC:=aj hc;clear hc ho;have hmi:((n+1:Nat):Int)-1=(n:Int):=by omega
      go_wp2
      go_region
      all_goals go_wp2
      all_goals go_ret
      all_goals rw[<-aa HR]
      all_goals exact⟨rfl,⟨_,_,_,_,_,_,_,aa hpop⟩,(dX (aa HB8) 1).setCell (by show wb<=wb;omega) _⟩
     .rw[ag (by rw[hm0];simp)]at hE;have ed:sI E q.σ=q.σ:=by simp[sI,hm0]
      rw[ed]at hE;have HR:=aj (bN hE);clear hE ed hc;go_wp2;go_ret;rw[<-aa HR];exact⟨rfl,h8,aa HB8⟩
   .by_cases hgt:(aT E last).num<(aT E first).num
    .have en:jH E σ6 first last=bR E σ6 first 10:=by simp[jH,hm1,hgt]
     rw[en]at HQ;clear en;go_wp2
     go_quiet (fail)
     go_wp2_with fail;refine(iR _ wb E σ6 first 10 (h6.drewN _) hi2).mono ?_;clear h6 c0 c1 tn1 tn2;rintro e w7 ⟨rfl,h7,hb7⟩;have HB7:=aj ((dX (aa HB6) _).trans hb7);clear hb7;go_wp2_with fail;refine(hB w7 wb HS E _ at_ false q h7 hat (ni okd) (aa HQ)).mono ?_;clear h7 HQ;rintro e w8 ⟨rfl,h8,hb8⟩;have HB8:=aj ((aa HB7).trans hb8);clear hb8;have hc:=h8;obtain⟨tv,lv,so,sd,ov,hv,rv,hc⟩:=hc;obtain⟨tb,cap,rfl,htb⟩:=hc.tokv;have c0:=hc.cell 0;have c1:=hc.cell 1;simp at c0 c1;obtain⟨_,tn1,_,_⟩:=hc.tokcell first hi2
     obtain⟨_,tn2,_,_⟩:=hc.tokcell last hi4;clear hc;go_wp2
     go_loopg [12] 0 (λ_ st wr=>st=.int .i64 (q.to:Int)/\wr=w8)
     case atStart=>exact⟨rfl,rfl⟩
     case round=>
      obtain⟨rfl,rfl⟩:=hrel;have hc:=h8;obtain⟨tv,lv,so,sd,ov,hv,rv,hc⟩:=hc;have c1:=hc.cell 1;simp at c1;have hE:=aa HM;clear HM;unfold nD at hE
      cases hm0:(E.mode==0)
      .obtain⟨n,hn⟩:∃n,q.σ.cells.length=n+1:=by
        split at hE
        .rename_i hd;rw[hm0]at hd;simp at hd;exact⟨q.σ.cells.length-1,by omega⟩
        .cases hE
       rw[ag (by rw[hn];simp)]at hE;have ed:sI E q.σ = { q.σ with cells:=q.σ.cells.dropLast }:=by simp[sI,hm0]
       rw[ed]at hE;have HR:=aj (bN hE);clear hE ed;have ho:=hc.rowL;rw[hn]at ho;obtain⟨g,cp,rfl⟩:=iM ho;have c4:=hc.cell 4;have fz:=hc.thaw 4;simp at c4;have hpop:=aj (hc.drew.popL hn);have hcap:n+1<=cp/\cp<=maxLen:=by
        rcases ho.2 with⟨h0,_⟩|⟨g',cap',cur,h0,_,_,h1,h2,_⟩
        .cases h0
        .cases h0;exact⟨h1,h2⟩
       obtain⟨hcap1,hcap2⟩:=hcap;have hn1:n+1<=1000:=by have:=gq.2.1;omega
       have HC:=aj hc;clear hc ho;have hmi:((n+1:Nat):Int)-1=(n:Int):=by omega
       go_wp2
       go_region
       all_goals go_wp2
       all_goals go_ret
       all_goals rw[<-aa HR]
       all_goals exact⟨rfl,⟨_,_,_,_,_,_,_,aa hpop⟩,(dX (aa HB8) 1).setCell (by show wb<=wb;omega) _⟩
      .exfalso;have e0:E.mode=0:=by simpa using hm0
       rw[e0]at hm1
       cases hm1
    .have hle:(aT E first).num<=(aT E last).num:=by omega
     by_cases hgt2:20<(aT E last).num
     .have en:jH E σ6 first last=bR E σ6 first 10:=by simp[jH,hm1,hgt2]
      rw[en]at HQ;clear en;go_wp2
      go_quiet (fail)
      go_wp2_with fail;refine(iR _ wb E σ6 first 10 (h6.drewN _) hi2).mono ?_;clear h6 c0 c1 tn1 tn2;rintro e w7 ⟨rfl,h7,hb7⟩;have HB7:=aj ((dX (aa HB6) _).trans hb7);clear hb7;go_wp2_with fail;refine(hB w7 wb HS E _ at_ false q h7 hat (ni okd) (aa HQ)).mono ?_;clear h7 HQ;rintro e w8 ⟨rfl,h8,hb8⟩;have HB8:=aj ((aa HB7).trans hb8);clear hb8;have hc:=h8;obtain⟨tv,lv,so,sd,ov,hv,rv,hc⟩:=hc;obtain⟨tb,cap,rfl,htb⟩:=hc.tokv;have c0:=hc.cell 0;have c1:=hc.cell 1;simp at c0 c1;obtain⟨_,tn1,_,_⟩:=hc.tokcell first hi2
      obtain⟨_,tn2,_,_⟩:=hc.tokcell last hi4;clear hc;go_wp2
      go_loopg [12] 0 (λ_ st wr=>st=.int .i64 (q.to:Int)/\wr=w8)
      case atStart=>exact⟨rfl,rfl⟩
      case round=>
       obtain⟨rfl,rfl⟩:=hrel;have hc:=h8;obtain⟨tv,lv,so,sd,ov,hv,rv,hc⟩:=hc;have c1:=hc.cell 1;simp at c1;have hE:=aa HM;clear HM;unfold nD at hE
       cases hm0:(E.mode==0)
       .obtain⟨n,hn⟩:∃n,q.σ.cells.length=n+1:=by
         split at hE
         .rename_i hd;rw[hm0]at hd;simp at hd;exact⟨q.σ.cells.length-1,by omega⟩
         .cases hE
        rw[ag (by rw[hn];simp)]at hE;have ed:sI E q.σ = { q.σ with cells:=q.σ.cells.dropLast }:=by simp[sI,hm0]
        rw[ed]at hE;have HR:=aj (bN hE);clear hE ed;have ho:=hc.rowL;rw[hn]at ho;obtain⟨g,cp,rfl⟩:=iM ho;have c4:=hc.cell 4;have fz:=hc.thaw 4;simp at c4;have hpop:=aj (hc.drew.popL hn);have hcap:n+1<=cp/\cp<=maxLen:=by
         rcases ho.2 with⟨h0,_⟩|⟨g',cap',cur,h0,_,_,h1,h2,_⟩
         .cases h0
         .cases h0;exact⟨h1,h2⟩
        obtain⟨hcap1,hcap2⟩:=hcap;have hn1:n+1<=1000:=by have:=gq.2.1;omega
        have HC:=aj hc;clear hc ho;have hmi:((n+1:Nat):Int)-1=(n:Int):=by omega
        go_wp2
        go_region
        all_goals go_wp2
        all_goals go_ret
        all_goals rw[<-aa HR]
        all_goals exact⟨rfl,⟨_,_,_,_,_,_,_,aa hpop⟩,(dX (aa HB8) 1).setCell (by show wb<=wb;omega) _⟩
       .exfalso;have e0:E.mode=0:=by simpa using hm0
        rw[e0]at hm1
        cases hm1
     .have en:jH E σ6 first last=σ6:=by simp[jH,hm1,hgt,hgt2]
      rw[en]at HQ;clear en;have hle2:(aT E last).num<=20:=by omega
      go_wp2
      go_quiet (fail)
      go_wp2_with fail;refine(hB _ wb HS E _ at_ false q (h6.drewN _) hat okd (aa HQ)).mono ?_;clear h6 HQ;rintro e w8 ⟨rfl,h8,hb8⟩;have HB8:=aj ((dX (aa HB6) _).trans hb8);clear hb8;have hc:=h8;obtain⟨tv,lv,so,sd,ov,hv,rv,hc⟩:=hc;obtain⟨tb,cap,rfl,htb⟩:=hc.tokv;have c0:=hc.cell 0;have c1:=hc.cell 1;simp at c0 c1;obtain⟨_,tn1,_,_⟩:=hc.tokcell first hi2
      obtain⟨_,tn2,_,_⟩:=hc.tokcell last hi4;clear hc;go_wp2
      go_loopg [12] 0 (λ_ st wr=>st=.int .i64 (q.to:Int)/\wr=w8)
      case atStart=>exact⟨rfl,rfl⟩
      case round=>
       obtain⟨rfl,rfl⟩:=hrel;have hc:=h8;obtain⟨tv,lv,so,sd,ov,hv,rv,hc⟩:=hc;have c1:=hc.cell 1;simp at c1;have hE:=aa HM;clear HM;unfold nD at hE
       cases hm0:(E.mode==0)
       .obtain⟨n,hn⟩:∃n,q.σ.cells.length=n+1:=by
         split at hE
         .rename_i hd;rw[hm0]at hd;simp at hd;exact⟨q.σ.cells.length-1,by omega⟩
         .cases hE
        rw[ag (by rw[hn];simp)]at hE;have ed:sI E q.σ = { q.σ with cells:=q.σ.cells.dropLast }:=by simp[sI,hm0]
        rw[ed]at hE;have HR:=aj (bN hE);clear hE ed;have ho:=hc.rowL;rw[hn]at ho;obtain⟨g,cp,rfl⟩:=iM ho;have c4:=hc.cell 4;have fz:=hc.thaw 4;simp at c4;have hpop:=aj (hc.drew.popL hn);have hcap:n+1<=cp/\cp<=maxLen:=by
         rcases ho.2 with⟨h0,_⟩|⟨g',cap',cur,h0,_,_,h1,h2,_⟩
         .cases h0
         .cases h0;exact⟨h1,h2⟩
        obtain⟨hcap1,hcap2⟩:=hcap;have hn1:n+1<=1000:=by have:=gq.2.1;omega
        have HC:=aj hc;clear hc ho;have hmi:((n+1:Nat):Int)-1=(n:Int):=by omega
        go_wp2
        go_region
        all_goals go_wp2
        all_goals go_ret
        all_goals rw[<-aa HR]
        all_goals exact⟨rfl,⟨_,_,_,_,_,_,_,aa hpop⟩,(dX (aa HB8) 1).setCell (by show wb<=wb;omega) _⟩
       .exfalso;have e0:E.mode=0:=by simpa using hm0
        rw[e0]at hm1
        cases hm1
  .have hm3:=hs3 rfl;have hm1:(E.mode==1)=false:=by
    have:E.mode=3:=by simpa using hm3
    rw[this];rfl
   have en:jH E σ6 first last=σ6:=by simp[jH,hm1]
   rw[oM,ag rfl,en]at HQ;clear en;have hq:=aa HQ;clear HQ;split at hq
   case isFalse=>cases hq
   rename_i hgn;obtain⟨hn0,hn1,hn2,hn3⟩:=hgn;have HQ:=aj hq;clear hq;go_wp2
   go_quiet (fail)
   go_wp2
   go_loopg [12,13] 30 (λf st sn wr=>∃(x:SR) (n:Int),st=.int .i64 (x.to:Int)/\sn=.int .i64 n/\0<=n/\n+f<=100031/\Wk wr wb HS E x.σ/\Below wb w wr/\qF E x/\jE B E at_ (aT E last).num f n x=some q)
   case atStart=>exact⟨⟨at_,σ6⟩,(aT E first).num,rfl,rfl,hn0,by omega,h6.drewN _,dX (aa HB6) _,⟨hat,okd⟩,aa HQ⟩
   case round=>
    clear HQ h6 HB6 c0 c1 tn1 tn2;obtain⟨x,n,rfl,rfl,n0,n1,hx,hbx,gx,hrm⟩:=hrel;have hc:=hx;obtain⟨tv,lv,so,sd,ov,hv,rv,hc⟩:=hc;obtain⟨tb,cap,rfl,htb⟩:=hc.tokv;have c0:=hc.cell 0;have c1:=hc.cell 1;simp at c0 c1;obtain⟨_,tn1,_,_⟩:=hc.tokcell first hi2
    obtain⟨_,tn2,_,_⟩:=hc.tokcell last hi4;clear hc;clear tn1;have HRM:=aj hrm;clear hrm;by_cases hle:n<=(aT E last).num
    .cases gk with
     | zero=>
      have:=aa HRM;rw[jE,ag hle]at this
      cases this
     | succ gk=>
      have hrm:=aa HRM;clear HRM;rw[jE,ag hle]at hrm;dsimp only at hrm;split at hrm
      case isFalse=>cases hrm
      rename_i hcl;obtain⟨y,hy,hrm⟩:=aP.1 hrm;have gy:=gB _ _ _ _ _ hy;have HY:=aj hy;have HRM:=aj hrm;clear hy hrm;have okx:=jX (E:=E) (live:=true) gx.2;go_wp2_with fail;refine(iw _ wb E x.σ true hx gx.2.2.1).mono ?_;clear hx c0 c1 tn2;rintro e w7 ⟨rfl,h7,hb7⟩;have HB7:=aj (hbx.trans hb7);clear hbx hb7;obtain⟨u,HU⟩:∃u,Hid (stepB E x.σ true=u):=⟨_,rfl⟩;rw[aa HU]at HY ⊢;clear HU
      cases u
      .rw[ae (by simp)]at HY;go_wp2_with fail;refine(hB w7 wb HS E _ at_ false y h7 hat okx (aa HY)).mono ?_;clear h7 HY;rintro e w8 ⟨rfl,h8,hb8⟩;have HB8:=aj ((aa HB7).trans hb8);clear hb8 HB7;go_wp2
       go_roundg gk
       case measure=>omega
       case rel=>exact⟨y,n+1,rfl,rfl,by omega,by omega,h8,aa HB8,gy,aa HRM⟩
      .rw[ag rfl]at HY;obtain⟨m,hm⟩:∃m,(aC E x.σ true).cells.length=m+1:=⟨(aC E x.σ true).cells.length-1,by omega⟩;have hc:=h7;obtain⟨tv,lv,so,sd,ov,hv,rv,hc⟩:=hc;have c4:=hc.cell 4;simp at c4;obtain⟨ao,cp,rfl,hrow⟩:=hc.lform;obtain⟨g,rfl,hgl,l0,l1,l2,l3⟩:=hrow m (by omega);have fz:=hc.rowL.frozenAt (m*4+1);have hset:=aj (hc.drew.setL (k:=m) n (by omega));have em:(aC E x.σ true).cells.length-1=m:=by omega
       rw[em]at HY;rw[hm]at c4;have hm9:m+1<=1000:=by have:=okx.1;omega
       have okp:lI (qQ (aC E x.σ true) m n):=by
        obtain⟨a,b⟩:=okx;exact⟨by show(List.modify _ _ _).length<=1000;rw[List.length_modify];exact a,b⟩
       have HC:=aj hc;clear hc hrow l0 l2 l3 em;have hmi:((m+1:Nat):Int)-1=(m:Int):=by omega
       go_wp2
       go_region
       go_wp2_with fail;refine(hB _ wb HS E _ at_ true y ⟨_,_,_,_,_,_,_,aa hset⟩ hat okp (aa HY)).mono ?_;clear h7 HY;rintro e w8 ⟨rfl,h8,hb8⟩;have HB8:=aj (((dX (aa HB7) 1).setCell (by show wb<=g;omega) _).trans hb8);clear hb8 HB7;go_wp2
       go_roundg gk
       case measure=>omega
       case rel=>exact⟨y,n+1,rfl,rfl,by omega,by omega,h8,aa HB8,gy,aa HRM⟩
    .have ex:x=q:=by
      have:=aa HRM
      cases gk with
      | zero=>rw[jE,ae hle]at this;exact bN this
      | succ gk=>rw[jE,ae hle]at this;exact bN this
     subst ex;clear HRM;have hgt:(aT E last).num<n:=by omega
     have hc:=hx;obtain⟨tv,lv,so,sd,ov,hv,rv,hc⟩:=hc;have c1:=hc.cell 1;simp at c1;have hE:=aa HM;clear HM;unfold nD at hE
     cases hm0:(E.mode==0)
     .obtain⟨n,hn⟩:∃n,x.σ.cells.length=n+1:=by
       split at hE
       .rename_i hd;rw[hm0]at hd;simp at hd;exact⟨x.σ.cells.length-1,by omega⟩
       .cases hE
      rw[ag (by rw[hn];simp)]at hE;have ed:sI E x.σ = { x.σ with cells:=x.σ.cells.dropLast }:=by simp[sI,hm0]
      rw[ed]at hE;have HR:=aj (bN hE);clear hE ed;have ho:=hc.rowL;rw[hn]at ho;obtain⟨g,cp,rfl⟩:=iM ho;have c4:=hc.cell 4;have fz:=hc.thaw 4;simp at c4;have hpop:=aj (hc.drew.popL hn);have hcap:n+1<=cp/\cp<=maxLen:=by
       rcases ho.2 with⟨h0,_⟩|⟨g',cap',cur,h0,_,_,h1,h2,_⟩
       .cases h0
       .cases h0;exact⟨h1,h2⟩
      obtain⟨hcap1,hcap2⟩:=hcap;have hn1:n+1<=1000:=by have:=gx.2.1;omega
      have HC:=aj hc;clear hc ho;have hmi:((n+1:Nat):Int)-1=(n:Int):=by omega
      go_wp2
      go_region
      all_goals go_wp2
      all_goals go_ret
      all_goals rw[<-aa HR]
      all_goals exact⟨rfl,⟨_,_,_,_,_,_,_,aa hpop⟩,(dX (hbx) 1).setCell (by show wb<=wb;omega) _⟩
     .exfalso;have e0:E.mode=0:=by simpa using hm0
      rw[e0]at hm3
      cases hm3
 .rw[ag hst]at hM;obtain⟨hr,_⟩:=iF hM;have HR:=aj hr;clear hr hM;go_wp2_with fail;refine(tL _ wb E σ5 h5).mono ?_;rintro e wq ⟨rfl,hw⟩;obtain rfl:=hw.symm;go_wp2;go_ret;rw[aa HR];exact⟨jJ (by show _=((E.toks.length-1:Nat):Int);omega),h5,aa HBel⟩
theorem Gd (gB:jd B):jd (jm X B):=by
 intro E σ i live r h;unfold jm at h;split at h
 .exact lX h
 split at h
 .exact Ml _ _ _ _ _ h
 split at h
 .exact Oq gB _ _ _ _ _ h
 split at h
 .exact TP gB _ _ _ _ _ h
 split at h
 .exact Vt _ _ _ _ _ _ h
 .exact lX h
theorem Jq (hX:sF 100 X) (gX:ik X) (hB:Ii 102 B) (gB:jd B):Ii 47 (jm X B):=by
 intro w wb HS E σ i live r h hi hok hM;have tf:=h.some;have hii:(i:Int)<(E.toks.length:Int):=by omega
 have hc:=h;obtain⟨tv,lv,so,sd,ov,hv,rv,hc⟩:=hc;obtain⟨tb,cap,rfl,htb⟩:=hc.tokv;have c0:=hc.cell 0;simp at c0;obtain⟨t0,_,_,_⟩:=hc.tokcell i hi;clear hc;unfold jm at hM;obtain⟨kd,HK⟩:∃kd,Hid ((aT E i).kind=kd):=⟨_,rfl⟩;rw[aa HK]at t0 hM;clear HK;go_enter Tryz.func47,Tryz.ntmps47;go_wp2_with fail;refine(dH _ wb E σ h).mono ?_;rintro e wq ⟨rfl,hw⟩;obtain rfl:=hw.symm
 cases hst:kQ E σ
 .rw[ae (by rw[hst];simp)]at hM
  cases hk1:(kd==1)
  .rw[ae (by rw[hk1];simp)]at hM;have HM:=aj hM;clear hM;go_wp2_with fail;refine(fM _ wb E σ i JG h hi).mono ?_;rintro e wq ⟨rfl,hw⟩;obtain rfl:=hw.symm;go_wp2_with fail;refine(fM _ wb E σ i xZ h hi).mono ?_;rintro e wq ⟨rfl,hw⟩;obtain rfl:=hw.symm;go_wp2_with fail;refine(fM _ wb E σ i lD h hi).mono ?_;rintro e wq ⟨rfl,hw⟩;obtain rfl:=hw.symm;go_wp2_with fail;refine(fM _ wb E σ i dY h hi).mono ?_;rintro e wq ⟨rfl,hw⟩;obtain rfl:=hw.symm;have hM:=aa HM;clear HM
   cases ha:oF E σ i JG
   .rw[ae (by rw[ha];simp)]at hM
    cases hb:oF E σ i xZ
    .rw[ae (by rw[hb];simp)]at hM
     cases hcc:oF E σ i lD
     .cases hd:oF E σ i dY
      .rw[ae (by rw[hcc,hd];simp)]at hM;obtain⟨hr,_⟩:=iF hM;have HR:=aj hr;clear hr hM;go_wp2_with fail;refine(iR _ wb E σ i 9 h hi).mono ?_;rintro e w1 ⟨rfl,h1,hb1⟩;go_wp2_with fail;refine(tL _ wb E _ h1).mono ?_;rintro e wq ⟨rfl,hw⟩;obtain rfl:=hw.symm;go_wp2;go_ret;rw[aa HR];exact⟨jJ (by show _=((E.toks.length-1:Nat):Int);omega),h1,hb1⟩
      .rw[ag (by rw[hcc,hd];simp),hd]at hM;go_wp2_with fail;refine(Sj hX gX true w wb HS E σ i live r h hi hok hM).mono ?_;rintro e w1 ⟨rfl,h1,hb1⟩;go_wp2;go_ret;exact⟨rfl,h1,hb1⟩
     .rw[ag (by rw[hcc];simp)]at hM;obtain⟨d,HD⟩:∃d,Hid (oF E σ i dY=d):=⟨_,rfl⟩;rw[aa HD]at hM ⊢;clear HD;go_wp2_with fail;refine(Sj hX gX d w wb HS E σ i live r h hi hok hM).mono ?_;rintro e w1 ⟨rfl,h1,hb1⟩;go_wp2;go_ret;exact⟨rfl,h1,hb1⟩
    .rw[ag hb]at hM;go_wp2_with fail;refine(Ye hB gB w wb HS E σ i live r h hi hok hM).mono ?_;rintro e w1 ⟨rfl,h1,hb1⟩;go_wp2;go_ret;exact⟨rfl,h1,hb1⟩
   .rw[ag ha]at hM;go_wp2_with fail;refine(P8 hX gX hB gB w wb HS E σ i live r h hi hok hM).mono ?_;rintro e w1 ⟨rfl,h1,hb1⟩;go_wp2;go_ret;exact⟨rfl,h1,hb1⟩
  .rw[ag hk1]at hM;have hi1:i+1<E.toks.length:=by
    have:=hM;unfold lM nQ at this;split at this
    .rename_i hg;exact hg.1
    .cases this
   go_wp2_with fail;refine(OG hX gX w wb HS E σ i live r h hi hok hi1 hM).mono ?_;rintro e w1 ⟨rfl,h1,hb1⟩;go_wp2;go_ret;exact⟨rfl,h1,hb1⟩
 .rw[ag hst]at hM;obtain⟨hr,_⟩:=iF hM;have HR:=aj hr;clear hr hM;go_wp2_with fail;refine(tL _ wb E _ h).mono ?_;rintro e wq ⟨rfl,hw⟩;obtain rfl:=hw.symm;go_wp2;go_ret;rw[aa HR];exact⟨jJ (by show _=((E.toks.length-1:Nat):Int);omega),h,ax wb w⟩
def noR:MS:=λ_ _ _ _=>none
theorem XO (fn:Nat):Ii fn noR:=by
 intro w wb HS E σ i live r h hi hok hM
 cases hM
theorem N7:jd noR:=by
 intro E σ i live r h
 cases h
def JE:Nat->MS×MS
 | 0=>(noR,noR)
 | n+1=>(jm (XF n).1 (JE n).2,rq (JE n).1 n)
theorem Rn (n:Nat):(Ii 47 (JE n).1/\jd (JE n).1)/\Ii 102 (JE n).2/\jd (JE n).2:=by
 induction n with
 | zero=>exact⟨⟨XO _,N7⟩,XO _,N7⟩
 | succ n ih=>
  obtain⟨⟨hS,gS⟩,hB,gB⟩:=ih;obtain⟨⟨hX,gX⟩,_⟩:=Qf1 n;exact⟨⟨Jq hX gX hB gB,Gd gB⟩,UV hS gS n,P9 n⟩
theorem EE (E:bB) (hd:Bool) (f:Nat):∀q r,qo E hd f q=some r->qF E r:=by
 induction f with
 | zero=>intro q r h;simp[qo]at h
 | succ f ih=>
  intro q r h;rw[qo]at h;split at h
  .exact lX h
  split at h
  .split at h
   .split at h
    .exact ih _ _ h
    .cases h
   .exact lX h
  .cases h
theorem uP (f:Nat) (hd:Bool) (w:World) (wb:Nat) (HS:List (Nat×Obj)) (E:bB) (σ:St) (i:Nat) (r:SR) (h:Wk w wb HS E σ) (hi:i<E.toks.length) (hok:lI σ) (hM:qo E hd f ⟨i,σ⟩=some r) :
  Calls Tryz.prog 45 #[.pointer (some ⟨wb,0,none⟩),.int .i64 (i:Int),.bool hd] w (RH wb HS E w r):=by
 have tf:=h.some.2;have HM:=aj hM;clear hM;go_enter Tryz.func45,Tryz.ntmps45;go_wp2
 go_loopg [1] f (λk si wr=>∃q:SR,si=.int .i64 (q.to:Int)/\Wk wr wb HS E q.σ/\Below wb w wr/\qF E q/\qo E hd k q=some r)
 case atStart=>exact⟨⟨i,σ⟩,rfl,h,ax wb w,⟨hi,hok⟩,aa HM⟩
 case round=>
  clear HM h;obtain⟨q,rfl,hq,hbq,gq,hch⟩:=hrel
  cases gk with
  | zero=>exact absurd hch (by simp[qo])
  | succ gk=>
   rw[qo]at hch;have HCH:=aj hch;clear hch;have qG:lI (Bp E q.σ q.to 1):=La gq.2;go_wp2_with fail;refine(LV _ wb E q.σ q.to 1 hq gq.1).mono ?_;clear hq;rintro e w1 ⟨rfl,h1,hb1⟩;go_wp2_with fail;refine(dH _ wb E _ h1).mono ?_;rintro e wq ⟨rfl,hw⟩;obtain rfl:=hw.symm;have HB1:=aj (hbq.trans hb1);clear hbq hb1;have hch:=aa HCH;clear HCH
   cases hst:kQ E (Bp E q.σ q.to 1)
   .rw[ae (by rw[hst];simp)]at hch;split at hch
    case isFalse=>cases hch
    rename_i hg;obtain⟨hi1,okd⟩:=hg;have HCH:=aj hch;clear hch;go_wp2_with fail;refine(EH _ wb E _ q.to hd true h1 gq.1 qG.1).mono ?_;clear h1;rintro e w2 ⟨rfl,h2,hb2⟩;go_wp2_with fail;refine(fM _ wb E _ _ su h2 hi1).mono ?_;rintro e wq ⟨rfl,hw⟩;obtain rfl:=hw.symm;have hch:=aa HCH;clear HCH
    cases hcm:oF E (oz E (Bp E q.σ q.to 1) q.to hd true) (D5 E q.σ q.to 1) su
    .rw[ae (by rw[hcm];simp)]at hch;obtain⟨hr,_⟩:=iF hch;have HR:=aj hr;clear hr hch;go_wp2_with fail;refine(bZ _ wb E _ _ xE h2 hi1).mono ?_;rintro e w3 ⟨rfl,h3,hb3⟩;go_wp2;go_ret;rw[aa HR];exact⟨rfl,h3,((aa HB1).trans hb2).trans hb3⟩
    .rw[ag hcm]at hch;split at hch
     case isFalse=>cases hch
     rename_i hi2;have HCH:=aj hch;clear hch;have hi3:((D5 E q.σ q.to 1:Nat):Int)+1<1000:=by omega
     have HB2:=aj ((aa HB1).trans hb2);clear HB1 hb2;generalize D5 E q.σ q.to 1=j at *;go_wp2
     go_roundg gk
     case measure=>omega
     case rel=>exact⟨⟨j+1,_⟩,rfl,h2,aa HB2,⟨hi2,okd⟩,aa HCH⟩
   .rw[ag hst]at hch;obtain⟨hr,_⟩:=iF hch;have HR:=aj hr;clear hr hch;go_wp2_with fail;refine(tL _ wb E _ h1).mono ?_;rintro e wq ⟨rfl,hw⟩;obtain rfl:=hw.symm;go_wp2;go_ret;rw[aa HR];exact⟨jJ (by show _=((E.toks.length-1:Nat):Int);omega),h1,aa HB1⟩
def PV:ByteArray:=⟨#[120]⟩
def TL:ByteArray:=⟨#[121]⟩
def iC (E:bB) (σ:St):St:={ σ with cells:=[⟨PV,(if E.mode==3 then E.point % E.sw else 0),false,false⟩,⟨TL,(if E.mode==3 then E.point / E.sw else 0),false,false⟩] }
def pu (E:bB) (f:Nat):Nat->SR->Option SR
 | 0,_=>none
 | k+1,r=>if oF E r.σ r.to lU||oF E r.σ r.to bA then(if r.to+1<E.toks.length then(qo E (oF E r.σ r.to bA) f ⟨r.to+1,r.σ⟩).bind (pu E f k) else none) else some r
def uh (S:MS) (E:bB):Nat->SR->Option St
 | 0,_=>none
 | k+1,r=>if kQ E r.σ||r.σ.dead||((aT E r.to).kind==4) then some r.σ else(S E r.σ r.to true).bind (uh S E k)
def qi (n:Nat) (E:bB) (σ:St):Option St:=if(E.mode==3) && !(decide (1<=E.sw)&&decide (E.sw<=6)&&decide (0<=E.point)&&decide (E.point<1000)) then none else(pu E n n ⟨0,iC E σ⟩).bind (uh (JE n).1 E n)
end Go.Proofs.YthmmgiaobakilaaGreat
