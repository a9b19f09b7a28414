import Derived.Test.YthmmgiaobakilaaGreatJ16
import Derived.Test.YthmmgiaobakilaaGreatJ27
set_option maxRecDepth 100000
set_option maxHeartbeats 8000000
set_option linter.all false
namespace Go.Proofs.YthmmgiaobakilaaGreat
open Go.RowKit Go.Deep
variable {T v:List aH} {ds:List (aH×Bool)} {t:Sx}
theorem Wt:yS=wH [⟨PV,0,false,false⟩,⟨TL,0,false,false⟩]:=by
 funext s;have e1:∀u:ByteArray,aN [] u<0:=λu=>by unfold aN;simp
 have r0:∀u:ByteArray,wH [] u=0:=λu=>sS.2 (e1 u);have hx:aN [⟨PV,0,false,false⟩] TL<0:=by
  unfold aN PV TL;simp only[aJ];decide
 have a:=AV (l:=[⟨PV,0,false,false⟩]) (c:=⟨TL,0,false,false⟩) hx s;have b:=AV (l:=[]) (c:=⟨PV,0,false,false⟩) (e1 _) s;simp only[gI,oK]at a b;rw[a,b,r0];unfold yS;rw[FM,FM];rfl
theorem dcN {E:bB} (hm:E.mode=1):∀(ds:List (aH×Bool)) (v:List aH) (R:ByteArray->Int) (F:sj) (σ:St),(∀d∈ds,d.1.kind=1)->(σ.fault=0->R=wH σ.cells)->Rl v F σ->BZ (v++ds.map (·.1)) ->
  Rl (v++ds.map (·.1)) (Ov ds (R,F)).2 (Av E ds σ)/\((Av E ds σ).fault=0->(Ov ds (R,F)).1=wH (Av E ds σ).cells)
 | [],v,R,F,σ,_,hR,hr,_=>⟨hr.app,hR⟩
 | d::ds,v,R,F,σ,hk,hR,hr,hi=>by
  have e:v++(d::ds).map (·.1)=v++[d.1]++ds.map (·.1):=by simp
  rw[e]at hi ⊢;obtain⟨r1,q1⟩:=Qf0 hm (hk d (by simp)) d.2 true hR hr (hi.sublist (mX _ _));exact dcN hm ds _ (uC (R,F) d.1 1).1 (uC (R,F) d.1 1).2 (dN E σ d.1 d.2 true) (λx hx=>hk x (by simp[hx])) (λh=>(q1 h).2) r1 hi
theorem Vn (hk:∀d∈ds,d.1.kind=1) (hn:uR uT t) (hsh:BO GE t) (hi:BZ (ds.map (·.1)++eU t)):Rl (ds.map (·.1)++eU t) (lN ds t) (ky T 1 ds t):=by
 have hm:(vS T 1).mode=1:=rfl;obtain⟨r1,q1⟩:=dcN hm ds [] yS (0,0) (DU Nb) hk (λ_=>Wt) (Rl.zero rfl rfl) (hi.sublist (by rw[gI];exact mX _ _));rw[gI]at r1;exact(stN hm _ t (af _) _ _ _ _ hn hsh q1 r1 hi).1
theorem dcH {E E2:bB} (hm:E.mode=1) (h2:E2.mode=2):∀(ds:List (aH×Bool)) (σ τ:St) (H:List ByteArray),(∀d∈ds,d.1.kind=1/\uT d.1)->(Av E ds σ).fault=0->σ.cells=τ.cells->wB H τ.cells->wB (H++mg ds) (Av E2 ds τ).cells/\(Av E2 ds τ).fault=τ.fault
 | [],σ,τ,H,_,_,_,hH=>⟨by unfold mg;simp;exact hH,rfl⟩
 | d::ds,σ,τ,H,hk,hf,hc,hH=>by
  have hf1:(dN E σ d.1 d.2 true).fault=0:=Qh4 ds _ hf;have hnf:aN σ.cells d.1.text<0:=by
   unfold dN qU at hf1;by_cases hq:((E.mode==1)&&(decide (0<=aN σ.cells d.1.text)||decide (6<d.1.text.size)))=true
   .rw[ag hq]at hf1;exact absurd hf1 (lW (by decide))
   .rw[hm]at hq;simp at hq;omega
  have hd:=hk d (by simp);have step:wB (H++(if d.2 then [d.1.text] else [])) (dN E2 τ d.1 d.2 true).cells:=by
   rw[Pw h2];show wB _ (τ.cells++[⟨d.1.text,0,d.2,true⟩]);rw[hc]at hnf;refine⟨λs=>?_,λu hu=>?_⟩
   .rw[Mf,List.any_append,<-hH.eq];by_cases hs:aN τ.cells s<0
    .rw[ag hs,Ga hs]
     cases hb:d.2
     .simp
     .simp only[if_true,df,ig,gZ,Bool.false_or,Bool.and_true];by_cases e:d.1.text=s
      .rw[e];simp
      .have:(s.toList==d.1.text.toList)=false:=by
        cases hz:(s.toList==d.1.text.toList)
        .rfl
        .exact absurd (gV (by simpa using hz)).symm e
       rw[this];simp[e]
    .rw[ae hs];have e:¬ d.1.text=s:=λe=>hs (by rw[<-e];exact hnf);have:(s.toList==d.1.text.toList)=false:=by
      cases hz:(s.toList==d.1.text.toList)
      .rfl
      .exact absurd (gV (by simpa using hz)).symm e
     cases d.2
     .simp
     .simp[this]
   .rcases dW.1 hu with hu|hu
    .exact hH.key u hu
    .cases hb:d.2
     .rw[hb]at hu;simp at hu
     .rw[hb]at hu;simp at hu;rw[hu];exact hd.2.name hd.1
  have c1:(dN E σ d.1 d.2 true).cells=(dN E2 τ d.1 d.2 true).cells:=by
   rw[(mf E σ d.1 d.2 true).cells,(mf E2 τ d.1 d.2 true).cells];show σ.cells++_=τ.cells++_;rw[hc]
  obtain⟨a,b⟩:=dcH hm h2 ds (dN E σ d.1 d.2 true) (dN E2 τ d.1 d.2 true) _ (λx hx=>hk x (by simp[hx])) hf c1 step;have eh:H++mg (d::ds)=H++(if d.2 then [d.1.text] else [])++mg ds:=by
   unfold mg
   cases hb:d.2
   .simp[hb]
   .simp[hb,AY hd.1]
  rw[eh];refine⟨a,b.trans ?_⟩;rw[Pw h2];rfl
theorem ZZ (hk:∀d∈ds,d.1.kind=1/\uT d.1) (hn:uR uT t) (hsh:BO GE t) (hi:BZ (ds.map (·.1)++eU t)) (h1:(ky T 1 ds t).fault=0):Rl (eU t) (uq ds t) (ky T 2 ds t):=by
 have hm:(vS T 2).mode=2:=rfl;have hf:(Av (vS T 1) ds (DU Nb)).fault=0:=(yI (E:=vS T 1) rfl t _ h1).1;have h0:wB [] (DU Nb).cells:=by
  refine⟨λs=>?_,λu hu=>by cases hu⟩;have a:=Gg [⟨PV,0,false,false⟩] ⟨TL,0,false,false⟩ rfl s;have b:=Gg [] ⟨PV,0,false,false⟩ rfl s;exact(a.trans b).trans (Ga (by unfold aN;simp))
 obtain⟨a,b⟩:=dcH (E:=vS T 1) (E2:=vS T 2) rfl hm ds (DU Nb) (DU Nb) [] hk hf rfl h0;rw[gI]at a;have:=Qr2 hm _ t (af _) [] (0,0) (Av (vS T 2) ds (DU Nb)) hn hsh a (Rl.zero rfl b) (hi.sublist (by rw[gI];exact List.sublist_append_right _ _));rw[gI]at this;exact this
theorem Rl.pair {F:sj} {σ:St} (h:Rl v F σ) (hf:σ.fault≠0):F=(σ.fault,σ.place):=by
 obtain⟨a,b⟩:=F;have h1:a=σ.fault:=h.1;have h2:b=σ.place:=(h.2 hf).1;rw[h1,h2]
theorem I9 (s:ByteArray):iX s=Bl s:=by
 unfold iX Bl;by_cases hs:300<s.size
 .rw[ag hs,ag hs]
 rw[ae hs,ae hs];obtain⟨o,p,hl⟩:∃o p,oN s s.size 0 []=(o,p):=⟨_,_,rfl⟩;rw[hl]
 cases o with
 | none=>rfl
 | some l=>
  show xJ (l++[aI p])=Lx (l++[aI p]);have hs':s.size<=300:=by omega
  have hW:=rF hs' hl;have hN:=Xl hs' hl;have hP:=PU hl;obtain⟨t1,t2,t3⟩:=wM hs' hl;generalize l++[aI p]=T at *;unfold xJ Lx
  cases hr:dV 1000 T with
  | none=>rfl
  | some r=>
   cases r with
   | error k=>rfl
   | ok x=>
    obtain⟨⟨ds,t⟩,j⟩:=x;show sG ds t=if(ky T 1 ds t).fault=0 then(if(ky T 2 ds t).fault=0 then(0,0) else((ky T 2 ds t).fault,(ky T 2 ds t).place)) else((ky T 1 ds t).fault,(ky T 1 ds t).place);have hj:=Ay t1 hr;have nok:zu T:=λi=>⟨by have:=t2 i;omega,by have:=t2 i;omega⟩;obtain⟨seg,hk,hsh⟩:=E9 (X:=GE) (λn i e j h=>(Pg n).1 T i e j nok h) (λi u h hu=>by
     rcases hW.kinds i with e|e|e|e|e
     .exact e
     .exfalso;unfold bJ at h;rw[e]at h;simp at h
     .exfalso;unfold bJ at h;rw[e]at h;simp at h
     .exfalso;have hm:=hW.sign i e;have ht:(ah T i).text=u:=gV (wQ h);have hn:=kR _ hm;rw[ht]at hn;rcases hu with rfl|rfl
      .exact absurd hn (by unfold dI qg lD;simp only[aJ];decide)
      .exact absurd hn (by unfold dI qg dY;simp only[aJ];decide)
     .exfalso;unfold bJ at h;rw[e]at h;simp at h) hr
    obtain⟨_,had,hall,_⟩:=AX (p:=uT) hN Qc9 hr;have hi:BZ (ds.map (·.1)++eU t):=seg.inc (λa b hab hb=>hP a b hab (by omega));have r1:=Vn (T:=T) hk hall hsh hi;unfold sG;by_cases h1:(ky T 1 ds t).fault=0
    .rw[ag h1,ae (by rw[r1.1,h1];simp)];have r2:=ZZ (T:=T) (λd hd=>⟨hk d hd,had d hd⟩) hall hsh hi h1;by_cases h2:(ky T 2 ds t).fault=0
     .rw[ag h2,ae (by rw[r2.1,h2];simp)]
     .rw[ae h2,ag (by rw[r2.1];exact h2)];exact r2.pair h2
    .rw[ae h1,ag (by rw[r1.1];exact h1)];exact r1.pair h1
def We:ByteArray:=⟨#[111,117,116,32,112,101,101,107,91,120,44,32,121,93,59]⟩
def Qe3:ByteArray:=⟨#[111,117,116,32,115,112,121,91,120,44,32,121,93,59]⟩
theorem Z6:Bl We=(0,0):=by decide +kernel
theorem Qi2:Bl Qe3=(11,0):=by decide +kernel
theorem Ey (s:ByteArray) (hm:s.size<=maxLen) (w:World):Calls Tryz.prog 31 #[.string s] w λe w'=>Below w.heap.size w w'/\e=.returned (.tuple #[.int .i64 (Bl s).1,.int .i64 (Bl s).2]):=by
 have:=TE s hm w;rw[I9]at this;exact this
theorem Ng (s:ByteArray) (h:s.size<=300):s.size<=maxLen:=by unfold maxLen;omega
theorem O5 (s:ByteArray) (w:World) (hs:s.size<=maxLen) :
  Calls Tryz.prog 15 #[.string s] w λe w'=>e=.returned (.bool true)/\Below w.heap.size w w':=by
 have c1:=λw=>Ey We (Ng _ (by decide)) w;have c2:=λw=>Ey Qe3 (Ng _ (by decide)) w;rw[Z6]at c1;rw[Qi2]at c2;go_enter Tryz.func15,Tryz.ntmps15;go_wp2_with fail;refine(c1 _).mono ?_;rintro e w1 ⟨hb1,rfl⟩;go_wp2_with fail;refine(c2 _).mono ?_;rintro e w2 ⟨hb2,rfl⟩;go_wp2_with fail;refine(Ey s hs _).mono ?_;rintro e w3 ⟨hb3,rfl⟩;go_wp2_with fail;refine(CY s _).mono ?_;rintro e w4 ⟨rfl,hb4⟩;have hb:=((hb1.trans (hb2.mono hb1.size)).trans (hb3.mono (iJ hb1.size hb2.size))).trans (hb4.mono (iJ (iJ hb1.size hb2.size) hb3.size));clear c1 c2 hb1 hb2 hb3 hb4;go_wp2;go_ret;exact⟨rfl,hb⟩
end Go.Proofs.YthmmgiaobakilaaGreat
