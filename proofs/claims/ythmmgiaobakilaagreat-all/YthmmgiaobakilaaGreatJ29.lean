import Derived.Test.YthmmgiaobakilaaGreatJ01
import Derived.Shelf.Pu.Clone
set_option maxRecDepth 100000
set_option maxHeartbeats 8000000
set_option linter.all false
namespace Go.Proofs.YthmmgiaobakilaaGreat
open Go.RowKit
variable {i n rb:Nat} {s:ByteArray} {v:Value} {w:World} {xs:List Value}
def Yo:Go.Shelf.Ren:=⟨λ_=>105,λn=>if n=0 then 0 else if n=3 then 3 else if n=4 then 4 else if n=5 then 5 else if n=9 then 9 else if n=37 then 94 else if n=47 then 194 else n,λn=>n⟩
theorem UN:LaysPu.n25 Tryz.prog Yo:=by
 constructor
 all_goals first|(intro w;kernel_rfl)|kernel_rfl
theorem Px (s:ByteArray) (w:World) (hs:s.size<=300) :
  Calls Tryz.prog 105 #[.string s] w λe w'=>e=.returned (.string s)/\Below w.heap.size w w':=
 AnyPu.stringslite_Clone UN s w (by omega)
theorem Td (s:ByteArray) (w:World) (hs:s.size<=300) :
  Calls Tryz.prog 81 #[.string s] w λe w'=>e=.returned (.string s)/\Below w.heap.size w w':=by
 go_enter Tryz.func81,Tryz.ntmps81;go_wp2_with (go_at_call 105;refine(Px s _ hs).mono ?_;rintro e w' ⟨rfl,hb⟩);go_ret;exact⟨rfl,hb⟩
theorem RQ:(Tryz.prog.info? 3).map (λi=>(i.zero,i.size,i.bytes))=some (some (.int .i64 0),1,8):=by kernel_rfl
theorem Ub (n:Nat):(madeCells #[Value.int .i64 0] n).toList=((List.replicate n (0:Int)).map (Value.int .i64)):=by
 apply List.ext_getElem
 .simp[size_madeCells]
 .intro i h1 h2;simp[madeCells,Nat.mod_one]
theorem EG (w:World) (rb:Nat) (s:ByteArray) (f:Int) (c:Int) (n:Nat) (hc:c=(n:Int)) (hn36:n<=36) (h:kv w rb s f) (hs:s.size<=maxLen) :
  Calls Tryz.prog 52 #[.pointer (some ⟨rb,0,none⟩),.int .i64 c] w λr w'=>∃s',r=.returned (.slice (some ⟨w.heap.size,0,none⟩) n n) /\
   w'.ownsRow w.heap.size 3 1 (.slice (some ⟨w.heap.size,0,none⟩) n n) n ((R9 n (nums s) f).map (Value.int .i64))/\kv w' rb s' (Cs n (nums s) f)/\nums s'=Fj n (nums s) f/\w.grownBy w' (some rb)/\s'.size<=s.size:=by
 obtain⟨i0,hi,hz0,hz1,hz2⟩:=dG RQ;have hlt:=h.lt;have HC:Hid (c=(n:Int)):=hc;clear hc;go_enter Tryz.func52,Tryz.ntmps52;go_wp2_with (at_make;refine wpList_make_full _ rfl _ _ 22 rfl w.heap.size 3 i0 (.int .i64 0) 1 Tryz.underlying22 hi hz0 hz1 _ _ _ _ n rfl rfl HC.out HC.out ?b1 ?b2 ?b3 ?_)
 case b1=>rw[hz2];omega
 case b2=>unfold maxLen;omega
 case b3=>exact af _
 intro w0 own0 g0;rw[Ub]at own0;have h':kv w0 rb s f:=⟨g0.cell h.c0 (by simp),g0.cell h.c1 (by simp),(xL (g0.block rb hlt (by simp))).trans h.z0,(xL (g0.block rb hlt (by simp))).trans h.z1⟩;have G0:w.grownBy w0 (some rb):=⟨g0.os,g0.tape,g0.output,g0.size,λk hk _=>g0.block k hk (by simp)⟩;clear h g0;go_wp2
 go_loopw [11] (λi wr=>∃j:Nat,j<=n/\i=.int .i64 j/\∃s',wr.ownsRow w.heap.size 3 1 (.slice (some ⟨w.heap.size,0,none⟩) n n) n ((R9 j (nums s) f++List.replicate (n-j) 0).map (Value.int .i64))/\kv wr rb s' (Cs j (nums s) f)/\nums s'=Fj j (nums s) f/\w.grownBy wr (some rb)/\s'.size<=s.size) (λi _=>n-(intOf i).toNat)
 case atStart=>exact⟨0,bO _,rfl,s,by simpa[Nq] using own0,h',rfl,G0,af _⟩
 case round=>
  clear own0 h' G0;obtain⟨j,hj,rfl,s',own,hr,hnn,hg,hz⟩:=hrel;have HN:Hid (nums s'=Fj j (nums s) f):=hnn;clear hnn;by_cases hjn:j<n
  .go_wp2_with fail;refine(wo _ rb s' _ hr (by omega)).mono ?_;rintro r w1 ⟨s2,rfl,hr2,hn2,hg2,hz2'⟩;have HV:Hid (uI (nums s') (Cs j (nums s) f)=uI (Fj j (nums s) f) (Cs j (nums s) f)):=by show _=_;rw[HN.out]
   have own1:=own.kept hg2 (.inr (by simp[Value.ownBlock];omega));have hcell:∃v,w1.cell? ⟨w.heap.size,j,none⟩=some v:=by
    rw[own1.cellAt j (by omega)];refine⟨_,aU (by rw[tK,iZ,Gc,mO];omega)⟩
   obtain⟨v0,hcell⟩:=hcell;have hfz:=own1.frozenAt j;generalize hval:uI (nums s') (Cs j (nums s) f)=val at *;have HVAL:Hid (uI (nums s') (Cs j (nums s) f)=val):=hval;clear hval;obtain⟨own2,g2⟩:=own1.stored j (.int .i64 val);have R1:(w1.setCell ⟨w.heap.size,j,none⟩ (.int .i64 val)).ownsRow w.heap.size 3 1 (.slice (some ⟨w.heap.size,0,none⟩) n n) n ((R9 (j+1) (nums s) f++List.replicate (n-(j+1)) 0).map (Value.int .i64)):=by
    have e:((R9 j (nums s) f++List.replicate (n-j) 0).map (Value.int .i64)).set j (.int .i64 val)=((R9 (j+1) (nums s) f++List.replicate (n-(j+1)) 0).map (Value.int .i64)):=by
     rw[<-List.map_set,XW _ n j val (Gc _ _ _) hjn,IV,<-HN.out,HVAL.out]
    rw[<-e];exact own2
   have hne:rb≠w.heap.size:=by omega
   have R2:kv (w1.setCell ⟨w.heap.size,j,none⟩ (.int .i64 val)) rb s2 (Cs (j+1) (nums s) f):=by
    have e:wG (nums s') (Cs j (nums s) f)=Cs (j+1) (nums s) f:=by rw[Ab,HN.out]
    rw[e]at hr2;have hbk:(w1.setCell ⟨w.heap.size,j,none⟩ (.int .i64 val)).heap[rb]?=w1.heap[rb]?:=ay _ _ _ _ hne;exact⟨(iY (w:=w1) hbk).trans hr2.c0,(iY (w:=w1) hbk).trans hr2.c1,(xL (w:=w1) hbk).trans hr2.z0,(xL (w:=w1) hbk).trans hr2.z1⟩
   have R3:nums s2=Fj (j+1) (nums s) f:=by rw[Ig,hn2,HN.out]
   have R4:w.grownBy (w1.setCell ⟨w.heap.size,j,none⟩ (.int .i64 val)) (some rb):=by
    have hg':=dQ hg hg2;exact⟨hg'.os,hg'.tape,hg'.output,by have:=hg'.size;simpa[World.setCell] using this,λk hk hr=>(ay _ _ _ _ (by show k≠w.heap.size;omega)).trans (hg'.block k hk hr)⟩
   have R5:s2.size<=s.size:=by omega
   have HR:Hid _:=And.intro R1 (And.intro R2 (And.intro R3 (And.intro R4 R5)));clear R1 R2 R3 R4 R5 own own1 own2 g2 hg hg2 hr hr2 hn2 HV HVAL hz hz2';go_wp2
   go_roundw
   case rel=>exact⟨j+1,by omega,by go_num,s2,HR.out⟩
   case measure=>simp[intOf];omega
  .have hjn':j=n:=by omega
   subst hjn';go_wp2;go_ret;exact⟨s',rfl,by simpa using own,hr,HN.out,hg,hz⟩
theorem Ob (w:World) (rb:Nat) (s:ByteArray) (f:Int) (h:kv w rb s f) (hs:s.size<=maxLen) :
  Calls Tryz.prog 53 #[.pointer (some ⟨rb,0,none⟩)] w λr w'=>∃s' t,r=.returned (.string t)/\nums t=Tg (nums s) f /\
   kv w' rb s' (BX (nums s) f)/\nums s'=TR (nums s) f/\w.grownBy w' (some rb)/\s'.size<=s.size/\t.size<=300:=by
 have v1:=Io (zk s) f;have v2:=Io (UL (zk s) f) (wG (nums s) f);go_enter Tryz.func53,Tryz.ntmps53;go_wp2_with fail;refine(wo _ rb s f h hs).mono ?_;rintro r w1 ⟨s1,rfl,hr1,hn1,hg1,hz1⟩;have HN1:Hid (nums s1=zI (nums s) f):=hn1;clear hn1 h;rw[<-HN1.out]at v2;generalize hx1:uI (nums s) f=x1 at *;have HX1:Hid (uI (nums s) f=x1):=hx1;clear hx1;obtain⟨v1a,v1b⟩:=v1;go_wp2_with fail;refine(wo _ rb s1 _ hr1 (by omega)).mono ?_;rintro r w2 ⟨s2,rfl,hr2,hn2,hg2,hz2⟩;have HN2:Hid (nums s2=zI (nums s1) (wG (nums s) f)):=hn2;clear hn2 hr1;generalize hx2:uI (nums s1) (wG (nums s) f)=x2 at *;have HX2:Hid (uI (nums s1) (wG (nums s) f)=x2):=hx2;clear hx2;obtain⟨v2a,v2b⟩:=v2;generalize hg:wG (nums s1) (wG (nums s) f)=g2 at *;have EN:EF (nums s) f=x1*256+x2:=by simp only[EF];rw[<-HN1.out,HX1.out,HX2.out]
 have EL:J3 (nums s) f=nums s2:=by simp only[J3];rw[<-HN1.out,HN2.out]
 have E2:xC (nums s) f=g2:=by simp only[xC];rw[<-HN1.out,hg]
 have ELl:(nums s2).length=s2.size:=bU s2;have L1:=@QV (nums s) f;have L2:=@NQ (nums s) f;have L3:=@Nv (nums s) f;have L4:=@Qf7 (nums s) f;have L5:=@Sb (nums s) f;rw[EN,EL,E2,ELl]at L1 L2 L3 L4 L5;have HL1:=aj L1;have HL2:=aj L2;have HL3:=aj L3;have HL4:=aj L4;have HL5:=aj L5;have hgg:=dQ hg1 hg2;have hss:s2.size<=s.size:=by omega
 clear L1 L2 L3 L4 L5 EN EL E2 ELl HN1 HX1 HX2 HN2 hg hg1 hg2 hz1 hz2;unfold maxLen at hs;by_cases hlong:300<x1*256+x2
 .go_wp2_with fail;refine(vH _ rb s2 _ _ hr2).mono ?_;rintro r w3 ⟨rfl,hr3,hg3⟩;have hc0:=hr3.c0;have hf3:(iK g2 7 != 0)=true:=by rw[bne_iff_ne];exact xR (by decide)
  by_cases hshort:(s2.size:Int)<x1*256+x2
  .go_wp2_with fail;refine(vH _ rb s2 _ _ hr3).mono ?_;rintro r w4 ⟨rfl,hr4,hg4⟩;have hc1:=hr4.c1;have hf4:(iK (iK g2 7) 1 != 0)=true:=by rw[bne_iff_ne];exact xR (by decide)
   go_wp2;go_ret;obtain⟨a,b,c⟩:=aa HL1 hlong hshort;exact⟨s2,⟨#[]⟩,rfl,by rw[b];rfl,by rw[a];exact hr4,c.symm,dQ (dQ hgg hg3) hg4,hss,by decide⟩
  .have hc1:=hr3.c1;go_wp2;go_ret;obtain⟨a,b,c⟩:=aa HL2 hlong hshort;exact⟨s2,⟨#[]⟩,rfl,by rw[b];rfl,by rw[a];exact hr3,c.symm,dQ hgg hg3,hss,by decide⟩
 .have hc0:=hr2.c0;have hc1:=hr2.c1;by_cases hshort:(s2.size:Int)<x1*256+x2
  .go_wp2_with fail;refine(vH _ rb s2 _ _ hr2).mono ?_;rintro r w4 ⟨rfl,hr4,hg4⟩
   replace hc1:=hr4.c1
   have hf4:(iK g2 1 != 0)=true:=by rw[bne_iff_ne];exact xR (by decide)
   go_wp2;go_ret;obtain⟨a,b,c⟩:=aa HL3 hlong hshort;exact⟨s2,⟨#[]⟩,rfl,by rw[b];rfl,by rw[a];exact hr4,c.symm,dQ hgg hg4,hss,by decide⟩
  .by_cases hbad:g2=0
   .subst hbad;obtain⟨m,hm⟩:∃m:Nat,x1*256+x2=(m:Int):=⟨(x1*256+x2).toNat,by omega⟩;have hm1:m<=300:=by omega
    have hm2:m<=s2.size:=by omega
    have z1:(s2.extract 0 m).size<=300:=by rw[ug];omega
    have z2:(s2.extract m s2.size).size<=s2.size:=by rw[ug];omega
    have hlt2:=hr2.lt;go_wp2_with fail;refine(Td _ _ z1).mono ?_;rintro r w3 ⟨rfl,hb3⟩;have hr3:=hr2.later hb3 hlt2;have hg3:w2.grownBy w3 (some rb):=⟨hb3.os,hb3.tape,hb3.output,hb3.size,λk hk _=>hb3.block k hk⟩
    replace hc0:=hr3.c0
    have hz0:=hr3.z0;clear hc1 hr2 hb3;go_wp2;go_ret;obtain⟨a,b,c⟩:=aa HL5 hlong hshort (by simp);have hmm:(x1*256+x2).toNat=m:=by omega
    refine⟨s2.extract m s2.size,s2.extract 0 m,rfl,?_,?_,?_,dQ (dQ hgg hg3) (fK _ _ _ _),by omega,z1⟩
    .rw[b,hmm,jK];simp
    .rw[a];exact hr3.set0 _
    .rw[c,hmm,jK,oD (by simp[bU])]
   .have hbad':(g2 != 0)=true:=by simp[hbad]
    go_wp2;go_ret;obtain⟨a,b,c⟩:=aa HL4 hlong hshort hbad;exact⟨s2,⟨#[]⟩,rfl,by rw[b];rfl,by rw[a];exact hr2,c.symm,hgg,hss,by decide⟩
def kM (w:World) (b:Nat) (c0 c1 c2 c3 c4:Value):Prop:=w.heap[b]?=some (.cells #[c0,c1,c2,c3,c4] 24 (0,0))
section
variable {w w':World} {b:Nat} {c0 c1 c2 c3 c4:Value}
theorem kM.lt (h:kM w b c0 c1 c2 c3 c4):b<w.heap.size:=(az.1 h).1
theorem kM.cells (h:kM w b c0 c1 c2 c3 c4):w.cell? ⟨b,0,none⟩=some c0/\w.cell? ⟨b,1,none⟩=some c1/\w.cell? ⟨b,2,none⟩=some c2/\w.cell? ⟨b,3,none⟩=some c3/\w.cell? ⟨b,4,none⟩=some c4:=by
 have hc:∀i,w.cell? ⟨b,i,none⟩=#[c0,c1,c2,c3,c4][i]?:=λi=>by simp only[World.cell?];rw[h];simp
 exact⟨hc 0,hc 1,hc 2,hc 3,hc 4⟩
theorem kM.unfrozen (h:kM w b c0 c1 c2 c3 c4) (i:Nat):w.frozen? ⟨b,i,none⟩=false:=by simp only[World.frozen?];rw[h];simp
theorem kM.kept (h:kM w b c0 c1 c2 c3 c4) (hg:w.grownBy w' (some rb)) (hne:b≠rb):kM w' b c0 c1 c2 c3 c4:=
 (hg.block b h.lt (by simpa using hne)).trans h
theorem kM.later {B:Nat} (h:kM w b c0 c1 c2 c3 c4) (hb:Below B w w') (hB:b<B):kM w' b c0 c1 c2 c3 c4:=(hb.block b hB).trans h
theorem CO (w:World) (b i:Nat) (cs:Array Value) (T:TypeId) (v:Value) (h:w.heap[b]?=some (.cells cs T (0,0))):(w.setCell ⟨b,i,none⟩ v).heap[b]?=some (.cells (cs.setIfInBounds i v) T (0,0)):=aM w b i cs T v h
theorem kM.set0 (h:kM w b c0 c1 c2 c3 c4) (v:Value):kM (w.setCell ⟨b,0,none⟩ v) b v c1 c2 c3 c4:=CO w b 0 _ _ v h
theorem kM.set1 (h:kM w b c0 c1 c2 c3 c4) (v:Value):kM (w.setCell ⟨b,1,none⟩ v) b c0 v c2 c3 c4:=CO w b 1 _ _ v h
theorem kM.set2 (h:kM w b c0 c1 c2 c3 c4) (v:Value):kM (w.setCell ⟨b,2,none⟩ v) b c0 c1 v c3 c4:=CO w b 2 _ _ v h
theorem kM.set3 (h:kM w b c0 c1 c2 c3 c4) (v:Value):kM (w.setCell ⟨b,3,none⟩ v) b c0 c1 c2 v c4:=CO w b 3 _ _ v h
theorem kM.set4 (h:kM w b c0 c1 c2 c3 c4) (v:Value):kM (w.setCell ⟨b,4,none⟩ v) b c0 c1 c2 c3 v:=CO w b 4 _ _ v h
theorem kM.other (h:kM w b c0 c1 c2 c3 c4) {a:Nat} (hne:b≠a) (v:Value):kM (w.setCell ⟨a,i,none⟩ v) b c0 c1 c2 c3 c4:=(ay _ _ _ _ hne).trans h
theorem kv.other {f:Int} (h:kv w rb s f) {a:Nat} (hne:rb≠a) (v:Value):kv (w.setCell ⟨a,i,none⟩ v) rb s f:=by
 have hbk:(w.setCell ⟨a,i,none⟩ v).heap[rb]?=w.heap[rb]?:=ay _ _ _ _ hne;exact⟨(iY (w:=w) hbk).trans h.c0,(iY (w:=w) hbk).trans h.c1,(xL (w:=w) hbk).trans h.z0,(xL (w:=w) hbk).trans h.z1⟩
end
section
variable (w:World) (rb:Nat) (s:ByteArray) (L:List Int)
theorem TJ (hn:nums s=L) (h:kv w rb s 0) (hs:s.size<=maxLen) :
  Calls Tryz.prog 50 #[.pointer (some ⟨rb,0,none⟩)] w λr w'=>∃s',r=.returned (.tuple #[])/\kv w' rb s' (BN L)/\nums s'=J9 L/\w.grownBy w' (some rb)/\s'.size<=s.size:=by
 have:=Yz w rb s 0 h hs;rw[hn]at this;exact this
theorem Qk9 (hn:nums s=J9 L) (h:kv w rb s (BN L)) (hs:s.size<=maxLen) :
  Calls Tryz.prog 51 #[.pointer (some ⟨rb,0,none⟩)] w λr w'=>∃s',r=.returned (.int .i64 (Km L))/\kv w' rb s' (zG L)/\nums s'=Ju L/\w.grownBy w' (some rb)/\s'.size<=s.size:=by
 have:=JK w rb s _ h hs;rw[hn]at this;exact this
theorem Qk5 (hn:nums s=Ju L) (h:kv w rb s (zG L)) (hs:s.size<=maxLen) :
  Calls Tryz.prog 51 #[.pointer (some ⟨rb,0,none⟩)] w λr w'=>∃s',r=.returned (.int .i64 (J4 L))/\kv w' rb s' (yR L)/\nums s'=LP L/\w.grownBy w' (some rb)/\s'.size<=s.size:=by
 have:=JK w rb s _ h hs;rw[hn]at this;exact this
theorem Qm3 (hn:nums s=LP L) (h:kv w rb s (yR L)) (hs:s.size<=maxLen) (h36:sN L<=36) :
  Calls Tryz.prog 52 #[.pointer (some ⟨rb,0,none⟩),.int .i64 (sN L:Int)] w λr w'=>∃s',r=.returned (.slice (some ⟨w.heap.size,0,none⟩) (sN L) (sN L)) /\
   w'.ownsRow w.heap.size 3 1 (.slice (some ⟨w.heap.size,0,none⟩) (sN L) (sN L)) (sN L) ((rdX L).map (Value.int .i64))/\kv w' rb s' (KT L)/\nums s'=NF L/\w.grownBy w' (some rb)/\s'.size<=s.size:=by
 have:=EG w rb s _ _ (sN L) rfl h36 h hs;rw[hn]at this;exact this
theorem Qj1 (hn:nums s=NF L) (h:kv w rb s (KT L)) (hs:s.size<=maxLen) (h36:sN L<=36) :
  Calls Tryz.prog 52 #[.pointer (some ⟨rb,0,none⟩),.int .i64 (sN L:Int)] w λr w'=>∃s',r=.returned (.slice (some ⟨w.heap.size,0,none⟩) (sN L) (sN L)) /\
   w'.ownsRow w.heap.size 3 1 (.slice (some ⟨w.heap.size,0,none⟩) (sN L) (sN L)) (sN L) ((rdY L).map (Value.int .i64))/\kv w' rb s' (KS L)/\nums s'=Pd L/\w.grownBy w' (some rb)/\s'.size<=s.size:=by
 have:=EG w rb s _ _ (sN L) rfl h36 h hs;rw[hn]at this;exact this
theorem Qf9 (hn:nums s=Pd L) (h:kv w rb s (KS L)) (hs:s.size<=maxLen) :
  Calls Tryz.prog 53 #[.pointer (some ⟨rb,0,none⟩)] w λr w'=>∃s' t,r=.returned (.string t)/\nums t=rdS L/\kv w' rb s' (TD L)/\nums s'=Qa5 L/\w.grownBy w' (some rb)/\s'.size<=s.size/\t.size<=300:=by
 have:=Ob w rb s _ h hs;rw[hn]at this;exact this
theorem Qh7 (hn:nums s=Qa5 L) (h:kv w rb s (TD L)) (hs:s.size<=maxLen) :
  Calls Tryz.prog 54 #[.pointer (some ⟨rb,0,none⟩)] w λr w'=>r=.returned (.tuple #[])/\kv w' rb s (QN L)/\w.grownBy w' (some rb):=by
 have:=Yc w rb s _ h hs;rw[hn]at this;exact this
end
theorem aF.of_own {base g cap:Nat} {xs:List Int} (h:w.ownsRow base 3 1 (.slice (some ⟨g,0,none⟩) n cap) n (xs.map (Value.int .i64))):aF w.heap.size w (some ⟨g,0,none⟩) xs:=by
 have hl:xs.length=n:=by simpa using h.1
 have hg:=h.lt g rfl;refine .inr ⟨g,0,rfl,hg.2,λj hj=>?_⟩;rw[pM,h.cellAt j (by omega),lY,aU hj];simp[List.getD,aU hj]
theorem gQ {base g cap a:Nat} (hne:g≠a) (h:w.ownsRow base 3 1 (.slice (some ⟨g,0,none⟩) n cap) n xs):(w.setCell ⟨a,i,none⟩ v).ownsRow base 3 1 (.slice (some ⟨g,0,none⟩) n cap) n xs:=
 h.kept (fK _ a i v) (.inr (by simpa[Value.ownBlock] using hne))
def yZ (base:Nat) (e:Ending) (w':World):Prop:=∃x y va n vb m s E xs ys,e=.returned (.tuple #[.agg #[.int .i64 x,.int .i64 y,va,vb,.string s],.int .i64 E])/\w'.ownsRow base 3 1 va n xs/\w'.ownsRow base 3 1 vb m ys/\(∀g,va.ownBlock=some g->vb.ownBlock≠some g)/\n<=36/\m<=36
theorem nk {base base' e size:Nat} (h:w.ownsRow base e size v n xs) (hb:base'<=base):w.ownsRow base' e size v n xs:=by
 refine⟨h.1,?_⟩;rcases h.2 with hn|⟨g,cap,cur,hv,h1,rest⟩
 .exact .inl hn
 .exact .inr ⟨g,cap,cur,hv,iJ hb h1,rest⟩
theorem Xe (b:ByteArray) (w:World) (hs:b.size<=maxLen) (L:List Int) (hL:nums b=L) :
  Calls Tryz.prog 32 #[.string b] w λe w'=>((QN L≠0/\e=.returned (.tuple #[.agg #[.int .i64 0,.int .i64 0,.slice none 0 0,.slice none 0 0,.string ByteArray.empty],.int .i64 (QN L)])/\Below w.heap.size w w') ∨
   (QN L=0/\∃ao bo src,e=.returned (.tuple #[.agg #[.int .i64 (Km L),.int .i64 (J4 L),.slice ao (sN L) (sN L),.slice bo (sN L) (sN L),.string src],.int .i64 0])/\nums src=rdS L/\aF w'.heap.size w' ao (rdX L)/\aF w'.heap.size w' bo (rdY L)/\Below w.heap.size w w'/\(∀a,ao=some a->w.heap.size<=a.block)/\(∀a,bo=some a->w.heap.size<=a.block)))/\yZ w.heap.size e w':=by
 have HL:=aj hL;clear hL;obtain⟨n1,n2,n3,n4,n5,n6,n7⟩:=PW L;have h36:sN L<=36:=by omega
 go_enter Tryz.func32,Tryz.ntmps32;go_wp2_with fail;have hb0:∀o1 o2,Below w.heap.size w ((w.alloc o1).alloc o2):=λo1 o2=>((ax _ _).alloc (af _) o1).alloc (by simp) o2;have hr0:∀o1,kv ((w.alloc o1).alloc (.cells #[.string b,.int .i64 0] 97)) (w.heap.size+1) b 0:=λo1=>by
  constructor<;>simp[go_sem]
 have hk0:∀o2,kM ((w.alloc (.cells #[.int .i64 0,.int .i64 0,.slice none 0 0,.slice none 0 0,.string ⟨#[]⟩] 24)).alloc o2) w.heap.size (.int .i64 0) (.int .i64 0) (.slice none 0 0) (.slice none 0 0) (.string ⟨#[]⟩):=λo2=>by
  show((w.alloc _).alloc o2).heap[w.heap.size]?=_;rw[av _ _ _ (by simp)];exact aA w _
 refine(TJ _ (w.heap.size+1) b L (aa HL) (hr0 _) hs).mono ?_;rintro r w1 ⟨s1,rfl,hr1,hn1,hg1,hz1⟩;have HN:=aj hn1;have hk1:=(hk0 _).kept hg1 (by omega);have hb1:Below w.heap.size w w1:=(hb0 _ _).grown hg1 (by simp;omega) (by simp);have hzz:w.heap.size+1<w1.heap.size:=by have:=hg1.size;simp at this;omega
 clear hb0 hr0 hk0 hg1 hn1;go_wp2_with fail;have hr1':=λo=>hr1.later ((ax w1.heap.size w1).alloc (af _) o) (by omega);have hk1':=λo=>hk1.later ((ax w1.heap.size w1).alloc (af _) o) (by omega);have hb1':=λo=>hb1.alloc (by omega) o;have hq1:kM (w1.alloc (.cells #[.int .i64 0,.int .i64 0,.slice none 0 0,.slice none 0 0,.string ⟨#[]⟩] 24)) w1.heap.size (.int .i64 0) (.int .i64 0) (.slice none 0 0) (.slice none 0 0) (.string ⟨#[]⟩):=aA w1 _;refine(Qk9 _ (w.heap.size+1) s1 L (aa HN) (hr1' _) (by omega)).mono ?_;rintro r w2 ⟨s2,rfl,hr2,hn2,hg2,hz2⟩
 replace HN:=aj hn2
 have hk2:=(hk1' _).kept hg2 (by omega);have hq2:=hq1.kept hg2 (by omega);have hb2:Below w.heap.size w w2:=(hb1' _).grown hg2 (by simp;omega) (by simp);have hsb:w.heap.size+1<w1.heap.size:=hzz;have hsz:s2.size<=b.size:=by omega
 generalize w1.heap.size=sb at *;clear hr1 hr1' hk1 hk1' hb1 hb1' hq1 hg2 hn2 hz1 hz2 hzz;obtain⟨x0,x1,x2,x3,x4⟩:=hq2.cells;have xz:=hq2.unfrozen;have hsb2:=hq2.lt;go_wp2_with fail;clear x0 x1 x2 x3 x4 xz;refine(Qk5 _ (w.heap.size+1) s2 L (aa HN) (hr2.other (by omega) _) (by omega)).mono ?_;rintro r w3 ⟨s3,rfl,hr3,hn3,hg3,hz3⟩
 replace HN:=aj hn3
 have hk3:=(hk2.other (i:=0) (a:=sb) (by omega) (.int .i64 (Km L))).kept hg3 (by omega);have hq3:=(hq2.set0 (.int .i64 (Km L))).kept hg3 (by omega);have hb3:Below w.heap.size w w3:=(hb2.setCell (p:=⟨sb,0,none⟩) (by show w.heap.size<=sb;omega) _).grown hg3 (by simp;omega) (by simp);have hsz3:s3.size<=b.size:=by omega
 clear hr2 hk2 hq2 hb2 hg3 hn3 hz3 hsz hsb2;obtain⟨x0,x1,x2,x3,x4⟩:=hq3.cells;have xz:=hq3.unfrozen;have hsb3:=hq3.lt;go_wp2_with fail;clear x0 x1 x2 x3 x4 xz;refine(Qm3 _ (w.heap.size+1) s3 L (aa HN) (hr3.other (by omega) _) (by omega) h36).mono ?_;rintro r w4 ⟨s4,rfl,ho4,hr4,hn4,hg4,hz4⟩
 replace HN:=aj hn4
 have hk4:=(hk3.other (i:=1) (a:=sb) (by omega) (.int .i64 (J4 L))).kept hg4 (by omega);have hq4:=(hq3.set1 (.int .i64 (J4 L))).kept hg4 (by omega);have hb4:Below w.heap.size w w4:=(hb3.setCell (p:=⟨sb,1,none⟩) (by show w.heap.size<=sb;omega) _).grown hg4 (by simp;omega) (by simp);have hsz4:s4.size<=b.size:=by omega
 have hga:sb<(w3.setCell ⟨sb,1,none⟩ (.int .i64 (J4 L))).heap.size:=by simpa using hsb3
 generalize (w3.setCell ⟨sb,1,none⟩ (.int .i64 (J4 L))).heap.size=ga at *;clear hr3 hk3 hq3 hb3 hg4 hn4 hz4 hsz3 hsb3;obtain⟨x0,x1,x2,x3,x4⟩:=hq4.cells;have xz:=hq4.unfrozen;have hsb4:=hq4.lt;go_wp2_with fail;clear x0 x1 x2 x3 x4 xz;refine(Qj1 _ (w.heap.size+1) s4 L (aa HN) (hr4.other (by omega) _) (by omega) h36).mono ?_;rintro r w5 ⟨s5,rfl,ho5,hr5,hn5,hg5,hz5⟩
 replace HN:=aj hn5
 have hk5:=(hk4.other (i:=2) (a:=sb) (by omega) (.slice (some ⟨ga,0,none⟩) (sN L) (sN L))).kept hg5 (by omega);have hq5:=(hq4.set2 (.slice (some ⟨ga,0,none⟩) (sN L) (sN L))).kept hg5 (by omega);have hb5:Below w.heap.size w w5:=(hb4.setCell (p:=⟨sb,2,none⟩) (by show w.heap.size<=sb;omega) _).grown hg5 (by simp;omega) (by simp);have ho4':=(ho4.kept (fK _ sb 2 _) (.inr (by simp[Value.ownBlock];omega))).kept hg5 (.inr (by simp[Value.ownBlock];omega));have hsz5:s5.size<=b.size:=by omega
 have hab:ga<(w4.setCell ⟨sb,2,none⟩ (.slice (some ⟨ga,0,none⟩) (sN L) (sN L))).heap.size:=by simpa using(ho4.lt ga rfl).2
 have hgb:sb<(w4.setCell ⟨sb,2,none⟩ (.slice (some ⟨ga,0,none⟩) (sN L) (sN L))).heap.size:=by simpa using hsb4
 generalize (w4.setCell ⟨sb,2,none⟩ (.slice (some ⟨ga,0,none⟩) (sN L) (sN L))).heap.size=gb at *;clear hr4 hk4 hq4 hb4 hg5 hn5 hz5 hsz4 hsb4 ho4;obtain⟨x0,x1,x2,x3,x4⟩:=hq5.cells;have xz:=hq5.unfrozen;have hsb5:=hq5.lt;go_wp2_with fail;clear x0 x1 x2 x3 x4 xz;refine(Qf9 _ (w.heap.size+1) s5 L (aa HN) (hr5.other (by omega) _) (by omega)).mono ?_;rintro r w6 ⟨s6,src,rfl,hsrc,hr6,hn6,hg6,hz6,ht6⟩
 replace HN:=aj hn6
 have HS:=aj hsrc;have hk6:=(hk5.other (i:=3) (a:=sb) (by omega) (.slice (some ⟨gb,0,none⟩) (sN L) (sN L))).kept hg6 (by omega);have hq6:=(hq5.set3 (.slice (some ⟨gb,0,none⟩) (sN L) (sN L))).kept hg6 (by omega);have hb6:Below w.heap.size w w6:=(hb5.setCell (p:=⟨sb,3,none⟩) (by show w.heap.size<=sb;omega) _).grown hg6 (by simp;omega) (by simp);have ho4'':=(ho4'.kept (fK _ sb 3 _) (.inr (by simp[Value.ownBlock];omega))).kept hg6 (.inr (by simp[Value.ownBlock];omega));have ho5':=(ho5.kept (fK _ sb 3 _) (.inr (by simp[Value.ownBlock];omega))).kept hg6 (.inr (by simp[Value.ownBlock];omega));have hsz6:s6.size<=b.size:=by omega
 clear hr5 hk5 hq5 hb5 hg6 hn6 hz6 hsz5 hsb5 ho4' ho5 hsrc;obtain⟨x0,x1,x2,x3,x4⟩:=hq6.cells;have xz:=hq6.unfrozen;have hsb6:=hq6.lt;go_wp2_with fail;clear x0 x1 x2 x3 x4 xz;refine(Qh7 _ (w.heap.size+1) s6 L (aa HN) (hr6.other (by omega) _) (by omega)).mono ?_;rintro r w7 ⟨rfl,hr7,hg7⟩;have hk7:=(hk6.other (i:=4) (a:=sb) (by omega) (.string src)).kept hg7 (by omega);have hq7:=(hq6.set4 (.string src)).kept hg7 (by omega);have hb7:Below w.heap.size w w7:=(hb6.setCell (p:=⟨sb,4,none⟩) (by show w.heap.size<=sb;omega) _).grown hg7 (by simp;omega) (by simp);have hoX:=aj ((ho4''.kept (fK _ sb 4 _) (.inr (by simp[Value.ownBlock];omega))).kept hg7 (.inr (by simp[Value.ownBlock];omega)));have hoY:=aj ((ho5'.kept (fK _ sb 4 _) (.inr (by simp[Value.ownBlock];omega))).kept hg7 (.inr (by simp[Value.ownBlock];omega)));clear hr6 hk6 hq6 hb6 hg7 hsz6 hsb6 ho4'' ho5' HN;obtain⟨x0,x1,x2,x3,x4⟩:=hq7.cells;obtain⟨y0,y1,y2,y3,y4⟩:=hk7.cells;have yz0:=hk7.unfrozen 0;have yz1:=hk7.unfrozen 1;have yz2:=hk7.unfrozen 2;have yz3:=hk7.unfrozen 3;have yz4:=hk7.unfrozen 4;have rf:=hr7.c1;have hl7:=hk7.lt;by_cases hE:QN L=0
 .have hE':(QN L != 0)=false:=by simp[hE]
  have HE:=aj hE;clear hE;have hkf:=aj (((((hk7.set0 (.int .i64 (Km L))).set1 (.int .i64 (J4 L))).set2 (.slice (some ⟨ga,0,none⟩) (sN L) (sN L))).set3 (.slice (some ⟨gb,0,none⟩) (sN L) (sN L))).set4 (.string src));go_wp2;obtain⟨f0,f1,f2,f3,f4⟩:=(aa hkf).cells;refine aL (v:=.tuple #[.agg #[.int .i64 (Km L),.int .i64 (J4 L),.slice (some ⟨ga,0,none⟩) (sN L) (sN L),.slice (some ⟨gb,0,none⟩) (sN L) (sN L),.string src],.int .i64 0]) (by simp[results,Tryz.results32,go_sem,f0,f1,f2,f3,f4]) rfl ⟨.inr ⟨HE.out,some ⟨ga,0,none⟩,some ⟨gb,0,none⟩,src,rfl,HS.out,?_,?_,?_,λa e=>by cases e;show _<=ga;omega,λa e=>by cases e;show _<=gb;omega⟩,⟨_,_,_,_,_,_,_,_,_,_,rfl,nk (gQ (by omega) (gQ (by omega) (gQ (by omega) (gQ (by omega) (gQ (by omega) (aa hoX)))))) (by omega),nk (gQ (by omega) (gQ (by omega) (gQ (by omega) (gQ (by omega) (gQ (by omega) (aa hoY)))))) (by omega),λg e e'=>by simp[Value.ownBlock]at e e';omega,h36,h36⟩⟩
  .exact aF.of_own (gQ (by omega) (gQ (by omega) (gQ (by omega) (gQ (by omega) (gQ (by omega) (aa hoX))))))
  .exact aF.of_own (gQ (by omega) (gQ (by omega) (gQ (by omega) (gQ (by omega) (gQ (by omega) (aa hoY))))))
  .exact((((hb7.setCell (af _) _).setCell (af _) _).setCell (af _) _).setCell (af _) _).setCell (af _) _
 .have hE':(QN L != 0)=true:=by simp[hE]
  have hkf:=aj (((((hk7.set0 (.int .i64 0)).set1 (.int .i64 0)).set2 (.slice none 0 0)).set3 (.slice none 0 0)).set4 (.string ⟨#[]⟩));go_wp2
  go_region
  all_goals (try go_wp2)
  all_goals
   obtain⟨f0,f1,f2,f3,f4⟩:=(aa hkf).cells;refine aL (v:=.tuple #[.agg #[.int .i64 0,.int .i64 0,.slice none 0 0,.slice none 0 0,.string ⟨#[]⟩],.int .i64 (QN L)]) (by simp[results,Tryz.results32,go_sem,f0,f1,f2,f3,f4]) rfl ⟨.inl ⟨hE,rfl,?_⟩,⟨_,_,_,0,_,0,_,_,[],[],rfl,fD _ _ _ _,fD _ _ _ _,λg e=>by simp[Value.ownBlock]at e,by omega,by omega⟩⟩;exact(((((hb7.setCell (af _) _).setCell (af _) _).setCell (af _) _).setCell (af _) _).setCell (af _) _).drew
theorem V4 (t:ByteArray) (j:Nat) (h:j<t.size):(nums t).take (j+1)=(nums t).take j++[(t[j].toNat:Int)]:=by
 have hl:j<(nums t).length:=by rw[bU];exact h
 rw[zZ hl];have:=vY t j h;rw[aU hl]at this;simp only[ko]at this;rw[this]
theorem F8 (t:ByteArray) (w:World) (ht:t.size<=36) :
  Calls Tryz.prog 49 #[.string t] w λe w'=>∃v,e=.returned v/\w'.ownsRow w.heap.size 3 1 v t.size ((nums t).map (Value.int .i64))/\Below w.heap.size w w':=by
 obtain⟨i0,hi,hz0,hz1,hz2⟩:=dG RQ;go_enter Tryz.func49,Tryz.ntmps49;go_wp2
 go_loopw [3,4] (λv i wr=>∃j:Nat,j<=t.size/\i=.int .i64 j/\wr.ownsRow w.heap.size 3 1 v j (((nums t).take j).map (Value.int .i64))/\Below w.heap.size w wr) (λ_ i _=>t.size-(intOf i).toNat)
 case atStart=>exact⟨0,bO _,rfl,by simpa using fD w w.heap.size 3 1,ax _ _⟩
 case round=>
  obtain⟨j,hj,rfl,own,hnx⟩:=hrel;have hwz:=hnx.size;by_cases hlt:j<t.size
  .have HS:=aj (V4 t j hlt);have hb0:((t[j]'hlt).toNat:Int)<=255:=by have:=(t[j]'hlt).toNat_lt;omega
   go_wp2_with (at_builtin;refine pX _ rfl (.tmp 11) (.tmp 16) 22 rfl w.heap.size 3 i0 (.int .i64 0) 1 8 Tryz.underlying22 hi hz0 hz1 hz2 rfl (by decide) _ _ _ rfl (own.alloc _) ⟨wr.heap.size,0,none⟩ 1 1 [.int .i64 ((t[j]'hlt).toNat:Int)] rfl rfl ?c1 ?c2 ?c3 ?c4 ?c5 ?_)
   case c1=>exact cell_one_new _ _ _
   case c2=>intro u hu;simp at hu;subst hu;rfl
   case c3=>unfold maxLen;omega
   case c4=>omega
   case c5=>simp;omega
   intro v' w1 h1 hg _;have R:w1.ownsRow w.heap.size 3 1 v' (j+1) (((nums t).take (j+1)).map (Value.int .i64)):=by rw[aa HS];simpa using h1
   have R2:Below w.heap.size w w1:=(hnx.alloc (by omega) _).grown hg (by simp;omega) (λq hq=>(own.lt q hq).1);clear h1 hg own hnx HS;go_wp2
   go_roundw
   case rel=>exact⟨j+1,by omega,by go_num,R,R2⟩
   case measure=>simp[intOf];omega
  .go_wp2;go_ret;have hj':j=t.size:=by omega
   subst hj';exact⟨_,rfl,by rw[oD (by rw[bU];exact af _)]at own;exact own,hnx⟩
end Go.Proofs.YthmmgiaobakilaaGreat
