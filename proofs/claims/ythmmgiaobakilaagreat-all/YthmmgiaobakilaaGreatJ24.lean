import Derived.Test.YthmmgiaobakilaaGreatJ04
import Derived.Test.YthmmgiaobakilaaGreatJ23
set_option maxRecDepth 100000
set_option maxHeartbeats 8000000
set_option linter.all false
namespace Go.Proofs.YthmmgiaobakilaaGreat
open Go.RowKit
variable {E:bB} {F M X:MX} {HS:List (Nat×Obj)} {L:List UInt8} {S:MS} {h hid live:Bool} {i j k m n:Nat} {o:Option LS} {ops:List ByteArray} {q:SR} {r:Except Nat (Ex×Nat)} {s:ByteArray} {toks:List aH} {v:Value} {vs:List Int} {w:World} {xs:List Value} {σ:St}
def Ro:Array Value:=#[.string ⟨#[120]⟩,.int .i64 0,.bool false,.bool false,.string ⟨#[121]⟩,.int .i64 0,.bool false,.bool false]
def DU (σ:St):St:={ σ with cells:=[⟨PV,0,false,false⟩,⟨TL,0,false,false⟩] }
theorem gM.newL {wb:Nat} {tv lv so sd ov hv rv:Value} (h:gM w wb HS E σ tv lv so sd ov hv rv) :
  gM ((w.setCell ⟨wb,4,none⟩ (.slice (some ⟨w.heap.size,0,none⟩) 2 2)).alloc (.cells #[.string ⟨#[120]⟩,.int .i64 0,.bool false,.bool false,.string ⟨#[121]⟩,.int .i64 0,.bool false,.bool false] 91)) wb HS E (DU σ) tv (.slice (some ⟨w.heap.size,0,none⟩) 2 2) so sd ov hv rv:=by
 have hlt:=h.lt;generalize hW:((w.setCell ⟨wb,4,none⟩ (.slice (some ⟨w.heap.size,0,none⟩) 2 2)).alloc (.cells #[.string ⟨#[120]⟩,.int .i64 0,.bool false,.bool false,.string ⟨#[121]⟩,.int .i64 0,.bool false,.bool false] 91))=W;have hsz:(w.setCell ⟨wb,4,none⟩ (.slice (some ⟨w.heap.size,0,none⟩) 2 2)).heap.size=w.heap.size:=by simp
 have keep0:∀k,k<w.heap.size->W.heap[k]?=(w.setCell ⟨wb,4,none⟩ (.slice (some ⟨w.heap.size,0,none⟩) 2 2)).heap[k]?:=λk hk=>by rw[<-hW];exact av _ _ k (by rw[hsz];exact hk)
 have keep:∀k,k<w.heap.size->k≠wb->W.heap[k]?=w.heap[k]?:=λk hk hne=>(keep0 k hk).trans (ay _ _ _ _ hne);have low:∀k,k<wb->W.heap[k]?=w.heap[k]?:=λk hk=>keep k (by omega) (by omega);have own2:∀(x:Value) (e size n:Nat) (xs:List Value),w.ownsRow (wb+1) e size x n xs->W.ownsRow (wb+1) e size x n xs:=λx e size n xs hx=>bT hx (λk hk=>keep k (hx.lt k hk).2 (by have:=(hx.lt k hk).1;omega));have ap:∀(x:Value) (e size n:Nat) (xs:List Value),w.ownsRow (wb+1) e size x n xs->ny (.slice (some ⟨w.heap.size,0,none⟩) 2 2) x:=λx e size n xs hx=>Or.inr (λe2=>by have:=(hx.lt w.heap.size (by rw[<-e2];rfl)).2;omega);have blk:W.heap[wb]?=some (.cells #[tv,.int .i64 E.mode,.int .i64 σ.fault,.int .i64 σ.place,.slice (some ⟨w.heap.size,0,none⟩) 2 2,.int .i64 E.sw,.int .i64 E.sh,so,sd,.string E.src,ov,hv,.int .i64 σ.steps,.int .i64 σ.touched,rv,.int .i64 E.point,.bool σ.dead] 59 (0,0)):=
  (keep0 wb hlt).trans (aM _ wb 4 _ _ _ h.blk)
 have row:W.ownsRow (wb+1) 91 4 (.slice (some ⟨w.heap.size,0,none⟩) 2 2) 2 (bG [⟨PV,0,false,false⟩,⟨TL,0,false,false⟩]):=by
  have:=World.ownsRow_lit (base:=wb+1) (e:=91) (size:=4) (w.setCell ⟨wb,4,none⟩ (.slice (some ⟨w.heap.size,0,none⟩) 2 2)) Ro 2 (by rw[hsz];omega) (by decide) (by simp[Ro]);rw[hsz]at this;rw[<-hW];exact this
 exact⟨blk,bT h.tokens (λk hk=>low k (h.tokLow k hk)),h.tokLow,h.tokSome,h.tokFew,row,own2 _ _ _ _ _ h.rowR,own2 _ _ _ _ _ h.rowO,own2 _ _ _ _ _ h.rowH,ap _ _ _ _ _ h.rowR,ap _ _ _ _ _ h.rowO,ap _ _ _ _ _ h.rowH,h.apRO,h.apRH,h.apOH,by obtain⟨ao,c,e,hi⟩:=h.ints1;exact⟨ao,c,e,hi.same low⟩,by obtain⟨ao,c,e,hi⟩:=h.ints2;exact⟨ao,c,e,hi.same low⟩,λp hp=>by
  obtain⟨x,y,z⟩:=h.held p hp;have hpl:p.1<w.heap.size:=(az.1 x).1;refine⟨(keep p.1 hpl y).trans x,y,?_,z.2⟩;intro e;simp[Value.ownBlock]at e;omega⟩
def Wv (wb:Nat) (HS:List (Nat×Obj)) (E:bB) (w:World) (σ:St) (e:Ending) (w':World):Prop:=e=.returned (.tuple #[])/\Wk w' wb HS E σ/\Below wb w w'
theorem Qh (n:Nat) (w:World) (wb:Nat) (HS:List (Nat×Obj)) (E:bB) (σ σ':St) (h:Wk w wb HS E σ) (hok:lI σ) (hm3:(E.mode==3)=false) (hM:qi n E σ=some σ') :
  Calls Tryz.prog 25 #[.pointer (some ⟨wb,0,none⟩)] w (Wv wb HS E w σ'):=by
 have tf:=h.some;unfold qi at hM;split at hM
 .cases hM
 rename_i hg;obtain⟨q,hq,hM⟩:=aP.1 hM;have HQ:=aj hq;have HM:=aj hM;clear hq hM;have oks:lI (iC E σ):=⟨by simp[iC],hok.2⟩;obtain⟨tv,lv,so,sd,ov,hv,rv,hc⟩:=h;have hnew:=aj hc.newL;have hlt:=hc.lt;have c1:=hc.cell 1;have c4:=hc.cell 4;have f4:=hc.thaw 4;have c15:=hc.cell 15;have c5:=hc.cell 5;simp at c1 c4 c15 c5;have HC:=aj hc;clear hc;go_enter Tryz.func25,Tryz.ntmps25;have es:iC E σ=DU σ:=by simp[iC,DU,hm3]
 rw[es]at HQ oks;go_wp2_with fail;obtain⟨oa,HO⟩:∃oa,Hid (oF E (DU σ) 0 lU=oa):=⟨_,rfl⟩;refine(fM _ wb E (DU σ) 0 lU ⟨_,_,_,_,_,_,_,aa hnew⟩ tf.1).mono ?_;rintro e W0 ⟨rfl,hw⟩;have h0:Wk W0 wb HS E (DU σ):=by rw[hw];exact⟨_,_,_,_,_,_,_,aa hnew⟩
 have hb0:Below wb w W0:=by rw[hw];exact((ax wb w).setCell (by show wb<=wb;omega) _).alloc (by simp;omega) _
 clear hw;rw[aa HO];go_wp2_with fail;refine(fM _ wb E (DU σ) 0 bA h0 tf.1).mono ?_;rintro e wq ⟨rfl,hw⟩;obtain rfl:=hw.symm;clear c1 c4 f4 c15 c5 HC hnew;go_wp2
 go_loopg [2,3,4] n (λk si sa sb wr=>∃x:SR,si=.int .i64 (x.to:Int)/\sa=.bool (oF E x.σ x.to lU)/\sb=.bool (oF E x.σ x.to bA)/\Wk wr wb HS E x.σ/\Below wb w wr/\qF E x/\pu E n k x=some q)
 case atStart=>exact⟨⟨0,(DU σ)⟩,rfl,by rw[<-aa HO],rfl,h0,hb0,⟨tf.1,oks⟩,aa HQ⟩
 case round=>
  clear HQ h0 hb0 HO;obtain⟨x,rfl,rfl,rfl,hx,hbx,gx,hch⟩:=hrel
  cases gk with
  | zero=>exact absurd hch (by simp[pu])
  | succ gk=>
   rw[pu]at hch;obtain⟨a,ha⟩:∃a,oF E x.σ x.to lU=a:=⟨_,rfl⟩;obtain⟨b,hb⟩:∃b,oF E x.σ x.to bA=b:=⟨_,rfl⟩;rw[ha,hb]at hch ⊢;have HA:=aj ha;have HBb:=aj hb;clear ha hb;by_cases hab:(a||b)=true
   .rw[ag hab]at hch;split at hch
    case isFalse=>cases hch
    rename_i hi1;obtain⟨y,hy,hch⟩:=aP.1 hch;have gy:=EE _ _ _ _ _ hy;have HCH:=aj hch;clear hch;have hi2:(x.to:Int)+1<1000:=by omega
    cases a
    .cases b
     .simp at hab
     .go_wp2_with fail;refine(uP n true _ wb HS E x.σ (x.to+1) y hx hi1 gx.2 hy).mono ?_;rintro e w3 ⟨rfl,h3,hb3⟩;have HB3:=aj (hbx.trans hb3);clear hx hbx hb3 hy HA HBb;go_wp2_with fail;refine(fM _ wb E y.σ y.to lU h3 gy.1).mono ?_;rintro e wq ⟨rfl,hw⟩;obtain rfl:=hw.symm;go_wp2_with fail;refine(fM _ wb E y.σ y.to bA h3 gy.1).mono ?_;rintro e wq ⟨rfl,hw⟩;obtain rfl:=hw.symm;go_wp2
      go_roundg gk
      case measure=>omega
      case rel=>exact⟨y,rfl,rfl,rfl,h3,aa HB3,gy,aa HCH⟩
    .go_wp2_with fail;refine(uP n b _ wb HS E x.σ (x.to+1) y hx hi1 gx.2 hy).mono ?_;rintro e w3 ⟨rfl,h3,hb3⟩;have HB3:=aj (hbx.trans hb3);clear hx hbx hb3 hy HA HBb;go_wp2_with fail;refine(fM _ wb E y.σ y.to lU h3 gy.1).mono ?_;rintro e wq ⟨rfl,hw⟩;obtain rfl:=hw.symm;go_wp2_with fail;refine(fM _ wb E y.σ y.to bA h3 gy.1).mono ?_;rintro e wq ⟨rfl,hw⟩;obtain rfl:=hw.symm;go_wp2
     go_roundg gk
     case measure=>omega
     case rel=>exact⟨y,rfl,rfl,rfl,h3,aa HB3,gy,aa HCH⟩
   .obtain⟨rfl,rfl⟩:a=false/\b=false:=by cases a<;>cases b<;>simp at hab<;>simp
    rw[ae (by simp)]at hch;have ex:=bN hch;subst ex;clear hch hab;go_wp2
    go_loopg [2] n (λk si wr=>∃y:SR,si=.int .i64 (y.to:Int)/\Wk wr wb HS E y.σ/\Below wb w wr/\qF E y/\uh (JE n).1 E k y=some σ')
    case atStart=>exact⟨x,rfl,hx,hbx,gx,aa HM⟩
    case round=>
     clear HM hx hbx gx HA HBb;obtain⟨y,rfl,hy,hby,gy,hch⟩:=hrel
     cases gk with
     | zero=>exact absurd hch (by simp[uh])
     | succ gk=>
      rw[uh]at hch;have HCH:=aj hch;clear hch;have hc:=hy;obtain⟨tv,lv,so,sd,ov,hv,rv,hc⟩:=hc;obtain⟨tb,cap,rfl,htb⟩:=hc.tokv;have c0:=hc.cell 0;have c16:=hc.cell 16;simp at c0 c16;obtain⟨t0,_,_,_⟩:=hc.tokcell y.to gy.1;have hyi:(y.to:Int)<(E.toks.length:Int):=by have:=gy.1;omega
      clear hc;go_wp2_with fail;refine(dH _ wb E y.σ hy).mono ?_;rintro e wq ⟨rfl,hw⟩;obtain rfl:=hw.symm;have hch:=aa HCH;clear HCH;obtain⟨kd,HK⟩:∃kd,Hid ((aT E y.to).kind=kd):=⟨_,rfl⟩;rw[aa HK]at hch t0;clear HK;obtain⟨dd,HD⟩:∃dd,Hid (y.σ.dead=dd):=⟨_,rfl⟩;rw[aa HD]at hch c16
      cases hst:kQ E y.σ
      .cases dd
       .cases hk4:(kd==4)
        .rw[ae (by rw[hst,hk4];simp)]at hch;obtain⟨z,hz,hch⟩:=aP.1 hch;have gz:=(Rn n).1.2 _ _ _ _ _ hz;have HCH:=aj hch;clear hch;go_wp2_with fail;refine((Rn n).1.1 _ wb HS E y.σ y.to true z hy gy.1 gy.2 hz).mono ?_;rintro e w3 ⟨rfl,h3,hb3⟩;have HB3:=aj (hby.trans hb3);clear hz hy hby hb3 c0 c16 t0;go_wp2
         go_roundg gk
         case measure=>omega
         case rel=>exact⟨z,rfl,h3,aa HB3,gz,aa HCH⟩
        .rw[ag (by rw[hk4];simp)]at hch;have HE:=aj (bN hch);clear hch;go_wp2;refine aL (pY rfl _ _ _) rfl ?_;rw[<-aa HE];exact⟨rfl,hy,hby⟩
       .rw[ag (by simp)]at hch;have HE:=aj (bN hch);clear hch;go_wp2;refine aL (pY rfl _ _ _) rfl ?_;rw[<-aa HE];exact⟨rfl,hy,hby⟩
      .rw[ag (by rw[hst];simp)]at hch;have HE:=aj (bN hch);clear hch;go_wp2;refine aL (pY rfl _ _ _) rfl ?_;rw[<-aa HE];exact⟨rfl,hy,hby⟩
def vS (toks:List aH) (mode:Int):bB:=⟨toks,mode,0,0,[],[],⟨#[]⟩,0⟩
def Nb:St:=⟨0,0,[],0,0,[],[],[],false⟩
def Mg (n:Nat) (toks:List aH) (mode:Int):Option St:=qi n (vS toks mode) Nb
def Ya (n:Nat) (toks:List aH):Nat->Int->Option (Int×Int)
 | 0,m=>if m<=2 then none else some (0,0)
 | k+1,m=>if m<=2 then(Mg n toks m).bind λa=>if a.fault=0 then Ya n toks k (m+1) else some (a.fault,a.place) else some (0,0)
theorem Pi {base base' e size:Nat} (h:w.ownsRow base e size v n xs) (hb:base'<=base):w.ownsRow base' e size v n xs:=by
 obtain⟨h1,h2⟩:=h;refine⟨h1,?_⟩;rcases h2 with h2|⟨g,cap,cur,hv,hg,r⟩
 .exact .inl h2
 .exact .inr ⟨g,cap,cur,hv,by omega,r⟩
theorem Wk.new {B:Nat} (m:Int) (h:w.ownsRow B 86 4 v toks.length (bX toks)) (h0:0<toks.length) (h1:toks.length<=1000) :
  Wk (w.alloc (.cells #[v,.int .i64 m,.int .i64 0,.int .i64 0,.slice none 0 0,.int .i64 0,.int .i64 0,.slice none 0 0,.slice none 0 0,.string ⟨#[]⟩,.slice none 0 0,.slice none 0 0,.int .i64 0,.int .i64 0,.slice none 0 0,.int .i64 0,.bool false] 59)) w.heap.size [] (vS toks m) Nb:=by
 refine⟨v,.slice none 0 0,.slice none 0 0,.slice none 0 0,.slice none 0 0,.slice none 0 0,.slice none 0 0,aA w _,(Pi h (bO _)).alloc _,λk hk=>(h.lt k hk).2,h0,h1,fD _ _ _ _,fD _ _ _ _,fD _ _ _ _,fD _ _ _ _,Or.inl rfl,Or.inl rfl,Or.inl rfl,Or.inl rfl,Or.inl rfl,Or.inl rfl,⟨none,0,rfl,Or.inl rfl⟩,⟨none,0,rfl,Or.inl rfl⟩,λp hp=>by cases hp⟩
theorem Jf (n:Nat) (s:ByteArray) (l:List aH) (p:Nat) (f pl:Int) (w:World) (hs:s.size<=300) (hl:oN s s.size 0 []=(some l,p)) (hM:Ya n (l++[aI p]) 3 0=some (f,pl)) :
  Calls Tryz.prog 23 #[.string s] w λe w'=>e=.returned (.tuple #[.int .i64 f,.int .i64 pl])/\Below w.heap.size w w':=by
 have hlen:=FZ s s.size 0 [] l p (by simp) (by omega) hl;have HM:=aj hM;have HL:=aj hl;clear hM hl;go_enter Tryz.func23,Tryz.ntmps23;go_wp2_with fail;refine(BU s w hs).mono ?_;rintro e w1 ⟨ho,hb1⟩;unfold tu at ho;rw[aa HL]at ho;obtain⟨v,rfl,own⟩:=ho;clear HL;obtain⟨T,hT⟩:∃T,l++[aI p]=T:=⟨_,rfl⟩;have hTl:T.length=l.length+1:=by rw[<-hT];simp
 rw[hT]at own HM;obtain⟨g,cap,rfl⟩:=iM own;rw[<-hTl]at own;clear hT;go_wp2
 go_loopg [7] 3 (λk sm wr=>∃m:Int,sm=.int .i64 m/\0<=m/\m+k<=3/\wr.ownsRow w.heap.size 86 4 (.slice (some ⟨g,0,none⟩) (l.length+1) cap) T.length (bX T)/\Below w.heap.size w wr/\Ya n T k m=some (f,pl))
 case atStart=>exact⟨0,rfl,by omega,by omega,by rw[<-hTl];exact own,hb1,aa HM⟩
 case round=>
  clear HM own hb1;obtain⟨m,rfl,m0,m1,own,hb,hm⟩:=hrel;have HM:=aj hm;clear hm;by_cases hle:m<=2
  .cases gk with
   | zero=>
    have:=aa HM;rw[Ya,ag hle]at this
    cases this
   | succ gk=>
    have hm:=aa HM;clear HM;rw[Ya,ag hle]at hm;obtain⟨a,ha,hm⟩:=aP.1 hm;have hm3:((vS T m).mode==3)=false:=by
     show(m==3)=false;simp;omega
    have HM:=aj hm;have HA:=aj ha;clear hm ha;have hnew:=Wk.new m own (by omega) (by omega);have hsz:w.heap.size<=wr.heap.size:=hb.size;go_wp2_with fail;refine(Qh n _ wr.heap.size [] (vS T m) Nb a hnew ⟨by decide,by decide,by decide,by decide⟩ hm3 (aa HA)).mono ?_;rintro e w3 ⟨rfl,h3,hb3⟩;have own3:w3.ownsRow w.heap.size 86 4 (.slice (some ⟨g,0,none⟩) (l.length+1) cap) T.length (bX T):=bT own (λk hk=>(hb3.block k (own.lt k hk).2).trans (av wr _ k (own.lt k hk).2));have hB3:Below w.heap.size w w3:=(hb.alloc hsz _).trans (hb3.mono hsz);obtain⟨tv,lv,so,sd,ov,hv,rv,hc⟩:=h3;have c2:=hc.cell 2;have c3:=hc.cell 3;simp at c2 c3;clear hc own hb hnew hb3 HA;have hm:=aa HM;clear HM
    cases hf:(a.fault==0)
    .rw[ae (by intro e;rw[e]at hf;cases hf)]at hm;have HE:=aj (bN hm);clear hm;go_wp2
     go_quiet (fail)
     go_wp2
     go_ret2
     exact⟨by have:=aa HE;cases this;rfl,dX hB3 _⟩
    .rw[ag (by simpa using hf)]at hm;have HE:=aj hm;clear hm;go_wp2
     go_roundg gk
     case measure=>omega
     case rel=>exact⟨m+1,rfl,by omega,by omega,own3,hB3,aa HE⟩
  .have e:(f,pl)=(0,0):=by
    have:=aa HM
    cases gk with
    | zero=>rw[Ya,ae hle]at this;exact(bN this).symm
    | succ gk=>rw[Ya,ae hle]at this;exact(bN this).symm
   cases e;clear HM;have hgt:2<m:=by omega
   go_wp2
   go_ret2
   exact⟨rfl,hb⟩
open Go.Deep
def M0 (E:bB) (σ:St):Prop:=E.mode=0/\σ.fault=0/\lI σ
def S0 (E:bB) (σ:St):Prop:=E.mode=0/\σ.fault≠0/\lI σ
structure bL (E:bB):Prop where
 last:bP E.toks
 nums:∀i,0<=(aT E i).num/\(aT E i).num<=65536
def stop9 (E:bB) (σ:St) (k:Nat):St:={ σ with fault:=9,place:=(aT E k).place }
def cB {α:Type} (E:bB) (σ:St):Except Nat (α×Nat)->Nat×St
 | .ok (_,j)=>(j,σ)
 | .error k=>(E.toks.length-1,stop9 E σ k)
section
variable {E:bB} {σ:St}
theorem M0.stop (h:M0 E σ):kQ E σ=false:=by simp[kQ,h.1,h.2.1]
theorem S0.stop (h:S0 E σ):kQ E σ=true:=by simp[kQ,h.1,h.2.1]
theorem M0.is (h:M0 E σ) (i:Nat) (s:ByteArray):oF E σ i s=bJ E.toks i s:=by simp[oF,h.stop,bJ,aT,ah]
theorem S0.is (h:S0 E σ) (i:Nat) (s:ByteArray):oF E σ i s=false:=by simp[oF,h.stop]
theorem M0.stop9 (h:M0 E σ) (k:Nat):S0 E (stop9 E σ k):=⟨h.1,by simp[Go.Proofs.YthmmgiaobakilaaGreat.stop9],h.2.2⟩
theorem M0.wrong (h:M0 E σ) (k:Nat):bR E σ k 9=Go.Proofs.YthmmgiaobakilaaGreat.stop9 E σ k:=by simp[bR,h.2.1,Go.Proofs.YthmmgiaobakilaaGreat.stop9]
theorem zC (hm:E.mode=0) (live:Bool):aC E σ live=σ:=by simp[aC,aW,hm]
theorem H7 (hm:E.mode=0) (live:Bool):aW E σ live=false:=by simp[aW,hm]
theorem Vq (hm:E.mode=0) (i:Nat) (b:Bool):mM E σ i b=σ:=by simp[mM,hm]
theorem M0.need (h:M0 E σ) {r:Except Nat (Unit×Nat)} (hr:aZ E.toks s i=some r):eG E σ i s=(cB E σ r).1/\eO E σ i s=(cB E σ r).2:=by
 unfold aZ at hr;unfold eG eO;rw[h.is,h.stop];split at hr
 .rename_i hs
  cases hr;simp[hs,cB]
 .rename_i hs
  cases hr;simp[hs,cB,h.wrong]
theorem S0.need (h:S0 E σ) (i:Nat) (s:ByteArray):eG E σ i s=E.toks.length-1/\eO E σ i s=σ:=by
 unfold eG eO;rw[h.is,h.stop];simp
theorem S0.op (h:S0 E σ) (i:Nat) (ops:List ByteArray):Cj E σ i ops=⟨#[]⟩:=by
 have:ops.find? (oF E σ i)=none:=vD.2 (λs _=>by simp[h.is]);simp[Cj,this]
theorem S0.opE (h:S0 E σ) (i:Nat) (ops:List ByteArray):(Cj E σ i ops).toList.isEmpty=true:=by
 rw[h.op,aJ];rfl
end
theorem Qa1 {t:ByteArray} (hs:oF E σ i s=true):oF E σ i t=(s.toList==t.toList):=by
 simp only[oF,dC]at hs;obtain⟨⟨a,b⟩,c⟩:=hs;have e:(aT E i).text.toList=s.toList:=by simpa using c
 simp only[oF,a,b,e,qZ]
theorem Qe8 (hs:s∈ops) (hne:s.toList≠[]):((Cj E σ i ops).toList==s.toList)=oF E σ i s:=by
 unfold Cj
 cases hf:ops.find? (oF E σ i) with
 | none=>
  have:=vD.1 hf s hs;have e:oF E σ i s=false:=by simpa using this
  rw[e];have:(⟨#[]⟩:ByteArray).toList=[]:=by rw[aJ]
  simp only[wm,this]
  cases hl:s.toList with
  | nil=>exact absurd hl hne
  | cons x l=>rfl
 | some t=>
  have ht:=List.find?_some hf;rw[Qa1 ht];rfl
theorem AJ (hne:∀s∈ops,s.toList≠[]):(Cj E σ i ops).toList.isEmpty=!ops.any (oF E σ i):=by
 unfold Cj
 cases hf:ops.find? (oF E σ i) with
 | none=>
  have:ops.any (oF E σ i)=false:=by
   rw[jw];intro s hs;exact vD.1 hf s hs
  rw[this,wm,aJ];rfl
 | some t=>
  have ht:=List.find?_some hf;have hm:=xK hf;have:ops.any (oF E σ i)=true:=dD.2 ⟨t,hm,ht⟩;rw[this];have:=hne t hm
  cases hl:t.toList with
  | nil=>exact absurd hl this
  | cons x l=>simp[hl]
def yX (E:bB) (M:MX) (P:PE):Prop:=∀σ i live r,M0 E σ->i<E.toks.length->P E.toks i=some r->∃v h,dw v/\M E σ i live=some ⟨v,h,(cB E σ r).1,(cB E σ r).2⟩
def uJ (E:bB) (M:MX):Prop:=∀σ i live,S0 E σ->i<E.toks.length->∃v h,dw v/\M E σ i live=some ⟨v,h,E.toks.length-1,σ⟩
theorem kJ (h:bL E):E.toks.length-1<E.toks.length:=by have:=h.last.1;omega
theorem BQ {q:gp} (hs:S0 E q.σ):kC M ops E live (n+1) q=some q:=by
 rw[kC,ag (hs.opE _ _)]
theorem UZ {P:PE} (hne:∀s∈ops,s.toList≠[]) (hT:bL E) (hR:yX E M P) (hF:dL P) (n:Nat):∀e q r,M0 E q.σ->q.to<E.toks.length->dw q.v->iB P ops E.toks n e q.to=some r ->
  ∃v h,dw v/\kC M ops E live (n+1) q=some ⟨v,h,(cB E q.σ r).1,(cB E q.σ r).2⟩:=by
 induction n with
 | zero=>intro e q r _ _ _ h;cases h
 | succ n ih=>
  intro e q r hm hq hv h;rw[iB]at h;rw[kC,AJ hne];have ha:ops.any (oF E q.σ q.to)=ops.any (bJ E.toks q.to):=by
   congr 1;funext s;exact hm.is _ _
  rw[ha];split at h
  .rename_i hany;rw[hany];obtain⟨s,_,hs⟩:=dD.1 hany;have h1:=aD hT.last hq hs;rw[ae (by simp),ag h1,zC hm.1]
   cases hp:P E.toks (q.to+1) with
   | none=>rw[hp]at h;cases h
   | some r1=>
    obtain⟨v,b,hv1,hM⟩:=hR q.σ (q.to+1) live r1 hm h1 hp;rw[hM,aG];rw[hp]at h
    cases r1 with
    | error k=>
     cases h;refine⟨_,_,?_,BQ (hm.stop9 k)⟩;exact iG hv hv1
    | ok xj=>
     obtain⟨x,j⟩:=xj;have hf:=hF E.toks (q.to+1) hT.last h1;rw[hp]at hf;exact ih _ ⟨_,_,j,q.σ⟩ r hm hf.2 (iG hv hv1) h
  .rename_i hany
   cases h;have hany':ops.any (bJ E.toks q.to)=false:=by simpa using hany
   rw[hany',ag (by simp)];exact⟨q.v,q.h,hv,rfl⟩
theorem Ke {P:PE} (hne:∀s∈ops,s.toList≠[]) (hT:bL E) (hR:yX E M P) (hF:dL P) (n:Nat):yX E (wu M ops (n+1)) (jk P ops n):=by
 intro σ i live r hm hi h;unfold jk at h;split at h
 .cases h
 unfold wu
 cases hp:P E.toks i with
 | none=>rw[hp]at h;cases h
 | some r1=>
  obtain⟨v,b,hv1,hM⟩:=hR σ i live r1 hm hi hp;rw[hM,aG];rw[hp]at h
  cases r1 with
  | error k=>
   cases h;exact⟨_,_,hv1,BQ (hm.stop9 k)⟩
  | ok xj=>
   obtain⟨x,j⟩:=xj;have hf:=hF E.toks i hT.last hi;rw[hp]at hf;exact UZ hne hT hR hF n x ⟨v,b,j,σ⟩ r hm hf.2 hv1 h
theorem IK (hS:uJ E M) (n:Nat):uJ E (wu M ops (n+1)):=by
 intro σ i live hs hi;obtain⟨v,b,hv,hM⟩:=hS σ i live hs hi;refine⟨v,b,hv,?_⟩;unfold wu;rw[hM,aG];exact BQ hs
theorem KY:∀s∈sD,s.toList≠[]:=by
 intro s hs;simp only[sD,aO,aQ,aR]at hs;rcases hs with rfl|rfl|rfl|rfl<;>(rw[aJ];simp)
theorem YT:∀s∈lT,s.toList≠[]:=by
 intro s hs;simp only[lT,aO,aQ,aR]at hs;rcases hs with rfl|rfl<;>(rw[aJ];simp)
theorem Zt:∀s∈lQ,s.toList≠[]:=by
 intro s hs;simp only[lQ,aO,aQ,aR]at hs;rcases hs with rfl|rfl<;>(rw[aJ];simp)
theorem JI {q:gp} (hs:S0 E q.σ):xQ M E live q=some q:=by
 rw[xQ,ag (hs.opE _ _)]
theorem Ve {P:PE} (hT:bL E) (hR:yX E M P) (hF:dL P):yX E (Bu M) (vV P):=by
 intro σ i live r hm hi h;unfold vV at h;unfold Bu
 cases hp:P E.toks i with
 | none=>rw[hp]at h;cases h
 | some r1=>
  obtain⟨v,b,hv1,hM⟩:=hR σ i live r1 hm hi hp;rw[hM,aG];rw[hp]at h
  cases r1 with
  | error k=>
   cases h;exact⟨_,_,hv1,JI (hm.stop9 k)⟩
  | ok xj=>
   obtain⟨x,j⟩:=xj;have hf:=hF E.toks i hT.last hi;rw[hp]at hf;change wV P E.toks x j=some r at h;unfold wV at h;show ∃v' h',dw v'/\xQ M E live ⟨v,b,j,σ⟩=_;unfold xQ;rw[AJ KY];have ha:sD.any (oF E σ j)=sD.any (bJ E.toks j):=by
    congr 1;funext s;exact hm.is _ _
   rw[ha];split at h
   .rename_i hany;rw[hany];obtain⟨s,_,hs⟩:=dD.1 hany;have h1:=aD hT.last hf.2 hs;rw[ae (by simp),ag h1,zC hm.1]
    cases hp2:P E.toks (j+1) with
    | none=>rw[hp2]at h;cases h
    | some r2=>
     obtain⟨v2,b2,hv2,hM2⟩:=hR σ (j+1) live r2 hm h1 hp2;rw[hM2,aG];rw[hp2]at h
     cases r2 with
     | error k=>
      cases h;exact⟨_,_,iG hv1 hv2,rfl⟩
     | ok yj=>
      obtain⟨y,j2⟩:=yj
      cases h;exact⟨_,_,iG hv1 hv2,rfl⟩
   .rename_i hany
    cases h;have hany':sD.any (bJ E.toks j)=false:=by simpa using hany
    rw[hany',ag (by simp)];exact⟨v,b,hv1,rfl⟩
theorem V3 (hS:uJ E M):uJ E (Bu M):=by
 intro σ i live hs hi;obtain⟨v,b,hv,hM⟩:=hS σ i live hs hi;refine⟨v,b,hv,?_⟩;unfold Bu;rw[hM,aG];exact JI hs
theorem Dy:dw 0:=⟨by decide,by decide⟩
theorem Eu {r:gp} (h:ym E r):chk E r=some r:=by rw[chk,ag h]
theorem S0.chk {E:bB} {σ:St} (hT:bL E) (h:S0 E σ) {v:Int} {b:Bool} (hv:dw v):chk E ⟨v,b,E.toks.length-1,σ⟩=some ⟨v,b,E.toks.length-1,σ⟩:=Eu ⟨kJ hT,h.2.2,hv⟩
theorem M0.chk {E:bB} {σ:St} (h:M0 E σ) {v:Int} {b:Bool} {j:Nat} (hj:j<E.toks.length) (hv:dw v):chk E ⟨v,b,j,σ⟩=some ⟨v,b,j,σ⟩:=Eu ⟨hj,h.2.2,hv⟩
def tex1 (X:MX) (hid:Bool) (E:bB) (i:Nat) (live:Bool) (a:gp):Option gp:=
 if eG E a.σ a.to su<E.toks.length then(X E (eO E a.σ a.to su) (eG E a.σ a.to su) live).bind λb=>yH E i live hid a b else none
theorem Mr (X:MX) (hid:Bool) (E:bB) (σ:St) (i:Nat) (live:Bool):vZ X hid E σ i live=if i+1<E.toks.length/\eG E (aC E σ live) (i+1) J2<E.toks.length then(X E (eO E (aC E σ live) (i+1) J2) (eG E (aC E σ live) (i+1) J2) live).bind (tex1 X hid E i live) else none:=rfl
theorem Aa (hT:bL E) {a b:gp} (h:S0 E b.σ):∃h',yH E i live hid a b=some ⟨0,h',E.toks.length-1,b.σ⟩:=by
 unfold yH;dsimp only;rw[(h.need b.to D9).1,(h.need b.to D9).2,Vq h.1,H7 h.1,ae (by simp),h.chk hT Dy];exact⟨_,rfl⟩
theorem KH (hT:bL E) (hS:uJ E X) {a:gp} (h:S0 E a.σ):∃h',tex1 X hid E i live a=some ⟨0,h',E.toks.length-1,a.σ⟩:=by
 unfold tex1;rw[(h.need a.to su).1,(h.need a.to su).2,ag (kJ hT)];obtain⟨v,b,hv,hM⟩:=hS a.σ (E.toks.length-1) live h (kJ hT);rw[hM,aG];exact Aa hT (b:=⟨v,b,E.toks.length-1,a.σ⟩) h
theorem wY {α:Type} (hT:bL E) {a b:Nat} {r:Except Nat (α×Nat)} (h:M6 E.toks a b (some r)):(cB E σ r).1<E.toks.length:=by
 cases r with
 | error k=>exact kJ hT
 | ok xj=>exact h.2
theorem KI {P:PE} (hT:bL E) (hR:yX E X P) (hS:uJ E X) (hF:dL P) (hid:Bool) (hm:M0 E σ) (hi:i+1<E.toks.length) (h:oU P J2 D9 E.toks i=some r) :
  ∃v h',dw v/\vZ X hid E σ i live=some ⟨v,h',(cB E σ r).1,(cB E σ r).2⟩:=by
 rw[Mr,zC hm.1];unfold oU at h;obtain⟨r1,e1⟩:∃r1,aZ E.toks J2 (i+1)=some r1:=by unfold aZ;split<;>exact⟨_,rfl⟩
 have f1:=bq (s:=J2) hT.last hi;rw[e1]at h f1;obtain⟨n1,n2⟩:=hm.need e1;rw[n1,n2,ag ⟨hi,wY hT f1⟩]
 cases r1 with
 | error k=>
  cases h;obtain⟨v,b,hv,hM⟩:=hS _ _ live (hm.stop9 k) (kJ hT);simp only[cB];rw[hM,aG];obtain⟨h',e⟩:=KH hT hS (i:=i) (live:=live) (hid:=hid) (a:=⟨v,b,E.toks.length-1,stop9 E σ k⟩) (hm.stop9 k);exact⟨0,h',Dy,e⟩
 | ok xj=>
 obtain⟨_,j1⟩:=xj;simp only[cB];simp only[andThen]at h
 cases e2:P E.toks j1 with
 | none=>rw[e2]at h;cases h
 | some r2=>
 have f2:=hF E.toks j1 hT.last f1.2;rw[e2]at h f2;obtain⟨va,ba,hva,hMa⟩:=hR σ j1 live r2 hm f1.2 e2;rw[hMa,aG]
 cases r2 with
 | error k=>
  cases h;obtain⟨h',e⟩:=KH hT hS (i:=i) (live:=live) (hid:=hid) (a:=⟨va,ba,E.toks.length-1,stop9 E σ k⟩) (hm.stop9 k);exact⟨0,h',Dy,e⟩
 | ok xj=>
 obtain⟨xa,j2⟩:=xj;simp only[cB];simp only at h;unfold tex1;obtain⟨r3,e3⟩:∃r3,aZ E.toks su j2=some r3:=by unfold aZ;split<;>exact⟨_,rfl⟩
 have f3:=bq (s:=su) hT.last f2.2;rw[e3]at h f3;obtain⟨m1,m2⟩:=hm.need e3;simp only;rw[m1,m2,ag (wY hT f3)]
 cases r3 with
 | error k=>
  cases h;obtain⟨v,b,hv,hM⟩:=hS _ _ live (hm.stop9 k) (kJ hT);simp only[cB];rw[hM,aG];obtain⟨h',e⟩:=Aa hT (i:=i) (live:=live) (hid:=hid) (a:=⟨va,ba,j2,σ⟩) (b:=⟨v,b,E.toks.length-1,stop9 E σ k⟩) (hm.stop9 k);exact⟨0,h',Dy,e⟩
 | ok xj=>
 obtain⟨_,j3⟩:=xj;simp only[cB];simp only at h
 cases e4:P E.toks j3 with
 | none=>rw[e4]at h;cases h
 | some r4=>
 have f4:=hF E.toks j3 hT.last f3.2;rw[e4]at h f4;obtain⟨vb,bb,hvb,hMb⟩:=hR σ j3 live r4 hm f3.2 e4;rw[hMb,aG]
 cases r4 with
 | error k=>
  cases h;obtain⟨h',e⟩:=Aa hT (i:=i) (live:=live) (hid:=hid) (a:=⟨va,ba,j2,σ⟩) (b:=⟨vb,bb,E.toks.length-1,stop9 E σ k⟩) (hm.stop9 k);exact⟨0,h',Dy,e⟩
 | ok xj=>
 obtain⟨xb,j4⟩:=xj;simp only[cB];simp only at h;obtain⟨r5,e5⟩:∃r5,aZ E.toks D9 j4=some r5:=by unfold aZ;split<;>exact⟨_,rfl⟩
 have f5:=bq (s:=D9) hT.last f4.2;rw[e5]at h f5;obtain⟨k1,k2⟩:=hm.need e5;unfold yH;simp only;rw[k1,k2,Vq hm.1,H7 hm.1,ae (by simp)]
 cases r5 with
 | error k=>
  cases h;simp only[cB];rw[(hm.stop9 k).chk hT Dy];exact⟨0,_,Dy,rfl⟩
 | ok xj=>
 obtain⟨_,j5⟩:=xj
 cases h;simp only[cB];rw[hm.chk f5.2 Dy];exact⟨0,_,Dy,rfl⟩
section
variable {X:MX} {P:PE} {E:bB} {live:Bool}
def BC (vs:List Int):Prop:=∀v∈vs,dw v
theorem BC.snoc (h:BC vs) {v:Int} (hv:dw v):BC (vs++[v]):=by
 intro x hx;rcases dW.1 hx with hx|hx
 .exact h x hx
 .simp at hx;rw[hx];exact hv
theorem PZ (hT:bL E) (hS:uJ E X) (m:Nat):∀q:LS,S0 E q.σ->q.to=E.toks.length-1->BC q.vs->∃vs h,vs.length=q.vs.length+m/\BC vs/\iQ X E live m q=some ⟨vs,h,E.toks.length-1,q.σ⟩:=by
 induction m with
 | zero=>intro q hs ht ha;exact⟨q.vs,q.h,rfl,ha,by rw[iQ,<-ht]⟩
 | succ m ih=>
  intro q hs ht ha;have p1:yK E q=E.toks.length-1:=by
   unfold yK;split
   .exact ht
   .exact(hs.need _ _).1
  have p2:A9 E q=q.σ:=by
   unfold A9;split
   .rfl
   .exact(hs.need _ _).2
  rw[iQ,p1,p2,ag (kJ hT)];obtain⟨v,b,hv,hM⟩:=hS q.σ (E.toks.length-1) live hs (kJ hT);rw[hM,aG];obtain⟨vs,h,hl,hin,e⟩:=ih ⟨q.vs++[v],q.h||b,E.toks.length-1,q.σ⟩ hs rfl (ha.snoc hv);exact⟨vs,h,by simp at hl;omega,hin,e⟩
theorem Im (hR:yX E X P) (hm:M0 E σ) (hj:j<E.toks.length) (hp:P E.toks j=some r):∃v b,dw v/\iQ X E live (m+1) ⟨[],h,j,σ⟩=iQ X E live m ⟨[v],b,(cB E σ r).1,(cB E σ r).2⟩:=by
 obtain⟨v,b,hv,hM⟩:=hR σ j live r hm hj hp;rw[iQ];have p1:yK E ⟨[],h,j,σ⟩=j:=rfl;have p2:A9 E ⟨[],h,j,σ⟩=σ:=rfl;rw[p1,p2,ag hj,hM,aG];exact⟨v,_,hv,rfl⟩
theorem DW (hT:bL E) (hR:yX E X P) {j1:Nat} (hvs:vs.length≠0) (hm:M0 E σ) (hj:j<E.toks.length) (hc:aZ E.toks su j=some (.ok ((),j1))) (hp:P E.toks j1=some r) :
  ∃v b,dw v/\iQ X E live (m+1) ⟨vs,h,j,σ⟩=iQ X E live m ⟨vs++[v],b,(cB E σ r).1,(cB E σ r).2⟩:=by
 obtain⟨n1,n2⟩:=hm.need hc;have f:=bq (s:=su) hT.last hj;rw[hc]at f;obtain⟨v,b,hv,hM⟩:=hR σ j1 live r hm f.2 hp;rw[iQ];have p1:yK E ⟨vs,h,j,σ⟩=j1:=by unfold yK;rw[ae hvs];exact n1
 have p2:A9 E ⟨vs,h,j,σ⟩=σ:=by unfold A9;rw[ae hvs];exact n2
 rw[p1,p2,ag f.2,hM,aG];exact⟨v,_,hv,rfl⟩
theorem BK (hT:bL E) (hS:uJ E X) (hvs:vs.length≠0) (hm:M0 E σ) (hc:aZ E.toks su j=some (.error k)) :
  ∃v b,dw v/\iQ X E live (m+1) ⟨vs,h,j,σ⟩=iQ X E live m ⟨vs++[v],b,E.toks.length-1,stop9 E σ k⟩:=by
 obtain⟨n1,n2⟩:=hm.need hc;obtain⟨v,b,hv,hM⟩:=hS _ (E.toks.length-1) live (hm.stop9 k) (kJ hT);rw[iQ];have p1:yK E ⟨vs,h,j,σ⟩=E.toks.length-1:=by unfold yK;rw[ae hvs];exact n1
 have p2:A9 E ⟨vs,h,j,σ⟩=stop9 E σ k:=by unfold A9;rw[ae hvs];exact n2
 rw[p1,p2,ag (kJ hT),hM,aG];exact⟨v,_,hv,rfl⟩
def Bb (E:bB) (q:LS):Option LS:=some ⟨q.vs,q.h,eG E q.σ q.to wF,eO E q.σ q.to wF⟩
def wK (E:bB) (σ:St) (n:Nat) (r:Except Nat (Ex×Nat)) (o:Option LS):Prop:=∃vs h,vs.length=n/\BC vs/\o=some ⟨vs,h,(cB E σ r).1,(cB E σ r).2⟩
theorem mZ (hT:bL E) (hS:uJ E X) {q:LS} (hm:M0 E σ) (hq:q.σ=stop9 E σ k) (ht:q.to=E.toks.length-1) (ha:BC q.vs) (hn:q.vs.length+m=n):wK E σ n (.error k) ((iQ X E live m q).bind (Bb E)):=by
 have hs:S0 E q.σ:=by rw[hq];exact hm.stop9 k
 obtain⟨vs,h,hl,hin,e⟩:=PZ hT hS m q hs ht ha (live:=live);rw[e,aG];refine⟨vs,h,by omega,hin,?_⟩;unfold Bb;simp only;rw[(hs.need _ _).1,(hs.need _ _).2,hq];rfl
theorem GH {r:Except Nat (Unit×Nat)} (hm:M0 E σ) (ha:BC vs) (hn:vs.length=n) (hp:aZ E.toks wF j=some r) (g:Ex) (r':Except Nat (Ex×Nat)) (hr:andThen (some r) (λ_ k=>kF g k)=some r'):wK E σ n r' ((iQ X E live 0 ⟨vs,h,j,σ⟩).bind (Bb E)):=by
 rw[iQ,aG];obtain⟨n1,n2⟩:=hm.need hp;refine⟨vs,h,hn,ha,?_⟩;unfold Bb;simp only;rw[n1,n2]
 cases r with
 | error k=>cases hr;rfl
 | ok xj=>obtain⟨_,j⟩:=xj;cases hr;rfl
theorem Sq (hT:bL E) (hR:yX E X P) (hS:uJ E X) (hF:dL P) (hm:M0 E σ) (hi:i+1<E.toks.length) (h:oU P xS wF E.toks i=some r):wK E σ 2 r (uK X 2 E σ i live):=by
 unfold uK;rw[zC hm.1];unfold oU at h;obtain⟨r1,e1⟩:=dK E.toks xS (i+1);have f1:=bq (s:=xS) hT.last hi;rw[e1]at h f1;obtain⟨n1,n2⟩:=hm.need e1;rw[n1,n2,ag ⟨hi,wY hT f1⟩];change wK E σ 2 r ((iQ X E live 2 _).bind (Bb E))
 cases r1 with
 | error k=>cases h;exact mZ hT hS hm rfl rfl (by intro v hv;cases hv) rfl
 | ok xj=>
 obtain⟨_,j1⟩:=xj;simp only[cB];simp only[andThen]at h
 cases e2:P E.toks j1 with
 | none=>rw[e2]at h;cases h
 | some r2=>
 have f2:=hF E.toks j1 hT.last f1.2;rw[e2]at h f2;obtain⟨v1,b1,hv1,q1⟩:=Im (live:=live) (m:=1) (h:=false) hR hm f1.2 e2;rw[q1];have a1:BC [v1]:=by intro v hv;simp at hv;rw[hv];exact hv1
 cases r2 with
 | error k=>cases h;exact mZ hT hS hm rfl rfl a1 rfl
 | ok xj=>
 obtain⟨xa,j2⟩:=xj;simp only[cB];simp only at h;obtain⟨r3,e3⟩:=dK E.toks su j2;have f3:=bq (s:=su) hT.last f2.2;rw[e3]at h f3
 cases r3 with
 | error k=>
  cases h;obtain⟨v2,b2,hv2,q2⟩:=BK (live:=live) (m:=0) (h:=b1) (vs:=[v1]) hT hS (by simp) hm e3;rw[q2];exact mZ hT hS hm rfl rfl (a1.snoc hv2) rfl
 | ok xj=>
 obtain⟨_,j3⟩:=xj;simp only at h
 cases e4:P E.toks j3 with
 | none=>rw[e4]at h;cases h
 | some r4=>
 have f4:=hF E.toks j3 hT.last f3.2;rw[e4]at h f4;obtain⟨v2,b2,hv2,q2⟩:=DW (live:=live) (m:=0) (h:=b1) (vs:=[v1]) hT hR (by simp) hm f2.2 e3 e4;rw[q2]
 cases r4 with
 | error k=>cases h;exact mZ hT hS hm rfl rfl (a1.snoc hv2) rfl
 | ok xj=>
 obtain⟨xb,j4⟩:=xj;simp only[cB];simp only at h;obtain⟨r5,e5⟩:=dK E.toks wF j4;rw[e5]at h;exact GH hm (a1.snoc hv2) rfl e5 _ r h
theorem V7 (hT:bL E) (hR:yX E X P) (hS:uJ E X) (hF:dL P) (hm:M0 E σ) (hi:i+1<E.toks.length) (h:jN P xS wF E.toks i=some r):wK E σ 3 r (uK X 3 E σ i live):=by
 unfold uK;rw[zC hm.1];unfold jN at h;obtain⟨r1,e1⟩:=dK E.toks xS (i+1);have f1:=bq (s:=xS) hT.last hi;rw[e1]at h f1;obtain⟨n1,n2⟩:=hm.need e1;rw[n1,n2,ag ⟨hi,wY hT f1⟩];change wK E σ 3 r ((iQ X E live 3 _).bind (Bb E))
 cases r1 with
 | error k=>cases h;exact mZ hT hS hm rfl rfl (by intro v hv;cases hv) rfl
 | ok xj=>
 obtain⟨_,j1⟩:=xj;simp only[cB];simp only[andThen]at h
 cases e2:P E.toks j1 with
 | none=>rw[e2]at h;cases h
 | some r2=>
 have f2:=hF E.toks j1 hT.last f1.2;rw[e2]at h f2;obtain⟨v1,b1,hv1,q1⟩:=Im (live:=live) (m:=2) (h:=false) hR hm f1.2 e2;rw[q1];have a1:BC [v1]:=by intro v hv;simp at hv;rw[hv];exact hv1
 cases r2 with
 | error k=>cases h;exact mZ hT hS hm rfl rfl a1 rfl
 | ok xj=>
 obtain⟨xa,j2⟩:=xj;simp only[cB];simp only at h;obtain⟨r3,e3⟩:=dK E.toks su j2;have f3:=bq (s:=su) hT.last f2.2;rw[e3]at h f3
 cases r3 with
 | error k=>
  cases h;obtain⟨v2,b2,hv2,q2⟩:=BK (live:=live) (m:=1) (h:=b1) (vs:=[v1]) hT hS (by simp) hm e3;rw[q2];exact mZ hT hS hm rfl rfl (a1.snoc hv2) rfl
 | ok xj=>
 obtain⟨_,j3⟩:=xj;simp only at h
 cases e4:P E.toks j3 with
 | none=>rw[e4]at h;cases h
 | some r4=>
 have f4:=hF E.toks j3 hT.last f3.2;rw[e4]at h f4;obtain⟨v2,b2,hv2,q2⟩:=DW (live:=live) (m:=1) (h:=b1) (vs:=[v1]) hT hR (by simp) hm f2.2 e3 e4;rw[q2];have a2:=a1.snoc hv2
 cases r4 with
 | error k=>cases h;exact mZ hT hS hm rfl rfl a2 rfl
 | ok xj=>
 obtain⟨xb,j4⟩:=xj;simp only[cB];simp only at h;obtain⟨r5,e5⟩:=dK E.toks su j4;have f5:=bq (s:=su) hT.last f4.2;rw[e5]at h f5
 cases r5 with
 | error k=>
  cases h;obtain⟨v3,b3,hv3,q3⟩:=BK (live:=live) (m:=0) (h:=b2) (vs:=[v1]++[v2]) hT hS (by simp) hm e5;rw[q3];exact mZ hT hS hm rfl rfl (a2.snoc hv3) rfl
 | ok xj=>
 obtain⟨_,j5⟩:=xj;simp only at h
 cases e6:P E.toks j5 with
 | none=>rw[e6]at h;cases h
 | some r6=>
 have f6:=hF E.toks j5 hT.last f5.2;rw[e6]at h f6;obtain⟨v3,b3,hv3,q3⟩:=DW (live:=live) (m:=0) (h:=b2) (vs:=[v1]++[v2]) hT hR (by simp) hm f4.2 e5 e6;rw[q3]
 cases r6 with
 | error k=>cases h;exact mZ hT hS hm rfl rfl (a2.snoc hv3) rfl
 | ok xj=>
 obtain⟨xc,j6⟩:=xj;simp only[cB];simp only at h;obtain⟨r7,e7⟩:=dK E.toks wF j6;rw[e7]at h;exact GH hm (a2.snoc hv3) rfl e7 _ r h
end
theorem vJ (hm:M0 E σ) (i:Nat) (hs:s∈qw) (hL:s.toList=L) (hne:L≠[]):((Cj E σ i qw).toList==L)=bJ E.toks i s:=by
 rw[<-hL,Qe8 hs (by rw[hL];exact hne),hm.is]
theorem Od (hT:bL E):uJ E (mE X F):=by
 intro σ i live hs hi;refine⟨0,false,Dy,?_⟩;unfold mE;rw[ag hs.stop,hs.chk hT Dy]
theorem Ou (hm:M0 E σ) (hl:(cB E σ r).1<E.toks.length) (h:wK E σ 2 r o):∃v h',dw v/\o.bind (zA E s)=some ⟨v,h',(cB E σ r).1,(cB E σ r).2⟩:=by
 obtain⟨vs,b,hn,ha,rfl⟩:=h;rw[aG];have ok:lI (cB E σ r).2:=by
  cases r with
  | error k=>exact(hm.stop9 k).2.2
  | ok xj=>exact hm.2.2
 match vs,hn with
 | [x,y],_=>
  have hx:dw x:=ha x (by simp);have hy:dw y:=ha y (by simp);refine⟨dR s x y,b,iG hx hy,?_⟩;unfold zA;rw[ag ⟨rfl,hx,hy⟩];exact Eu ⟨hl,ok,iG hx hy⟩
theorem Z7 (hm:M0 E σ) (hl:(cB E σ r).1<E.toks.length) (h:wK E σ 3 r o):∃v h',dw v/\o.bind (Jr E)=some ⟨v,h',(cB E σ r).1,(cB E σ r).2⟩:=by
 obtain⟨vs,b,hn,ha,rfl⟩:=h;rw[aG];have ok:lI (cB E σ r).2:=by
  cases r with
  | error k=>exact(hm.stop9 k).2.2
  | ok xj=>exact hm.2.2
 match vs,hn with
 | [x,y,z],_=>
  have hy:dw y:=ha y (by simp);have hz:dw z:=ha z (by simp);have e:Jr E ⟨[x,y,z],b,(cB E σ r).1,(cB E σ r).2⟩=if x=0 then chk E ⟨z,b,(cB E σ r).1,(cB E σ r).2⟩ else chk E ⟨y,b,(cB E σ r).1,(cB E σ r).2⟩:=by simp[Jr]
  rw[e];split
  .exact⟨z,b,hz,Eu ⟨hl,ok,hz⟩⟩
  .exact⟨y,b,hy,Eu ⟨hl,ok,hy⟩⟩
theorem Pe {P Q:PE} (hT:bL E) (hR:yX E X P) (hS:uJ E X) (hF:dL P) (hR2:yX E F Q) (hF2:dL Q):yX E (mE X F) (iD P Q):=by
 intro σ i live r hm hi h;have fw:=sK hF hF2 E.toks i hT.last hi;rw[h]at fw;have hend:(cB E σ r).1<E.toks.length:=wY hT fw;unfold mE;rw[ae (by rw[hm.stop];simp)];unfold iD at h;have ek:(ah E.toks i).kind=(aT E i).kind:=rfl;split at h
 .rename_i hk
  cases h;have hk':((aT E i).kind==2)=true:=hk;rw[ag hk'];have en:tJ E σ i live=⟨(aT E i).num,false,i+1,σ⟩:=by unfold tJ;rw[ag hk',zC hm.1]
  have hn:dw (aT E i).num:=by have:=hT.nums i;exact⟨by omega,by omega⟩
  have hend':i+1<E.toks.length:=hend;rw[en,hm.chk hend' hn];exact⟨_,_,hn,rfl⟩
 rename_i hk2;have hk2':((aT E i).kind==2)=false:=gW.2 hk2;rw[ae (by rw[hk2'];simp)];split at h
 .rename_i hk
  cases h;have hk':((aT E i).kind==1)=true:=hk;rw[ag hk'];have en:tJ E σ i live=⟨0,false,i+1,σ⟩:=by
   unfold tJ;rw[ae (by rw[hk2'];simp),ag (by simp[hm.1]),zC hm.1]
  have hend':i+1<E.toks.length:=hend;rw[en,hm.chk hend' Dy];exact⟨_,_,Dy,rfl⟩
 rename_i hk1;have hk1':((aT E i).kind==1)=false:=gW.2 hk1;rw[ae (by rw[hk1'];simp)];unfold F9;rw[vJ hm i (s:=xS) (by simp[qw,xS]) (by rw[aJ];rfl) (by simp),vJ hm i (s:=Ag) (by simp[qw,Ag]) (by rw[aJ];rfl) (by simp),
  vJ hm i (s:=bf) (by simp[qw,bf]) (by rw[aJ];rfl) (by simp),vJ hm i (s:=cz) (by simp[qw,cz]) (by rw[aJ];rfl) (by simp),
  vJ hm i (s:=kU) (by simp[qw,kU]) (by rw[aJ];rfl) (by simp),vJ hm i (s:=kI) (by simp[qw,kI]) (by rw[aJ];rfl) (by simp),
  vJ hm i (s:=jo) (by simp[qw,jo]) (by rw[aJ];rfl) (by simp)]
 split at h
 .rename_i hs;have h1:=aD hT.last hi hs;rw[ag hs,ag h1]
  cases e2:P E.toks (i+1) with
  | none=>rw[e2]at h;cases h
  | some r2=>
  have f2:=hF E.toks (i+1) hT.last h1;rw[e2]at h f2;obtain⟨va,ba,hva,hMa⟩:=hR σ (i+1) live r2 hm h1 e2;rw[hMa,aG]
  cases r2 with
  | error k=>
   cases h;simp only[cB];rw[((hm.stop9 k).need _ _).1,((hm.stop9 k).need _ _).2,(hm.stop9 k).chk hT hva];exact⟨_,_,hva,rfl⟩
  | ok xj=>
  obtain⟨xa,j2⟩:=xj;simp only[andThen]at h;obtain⟨r3,e3⟩:=dK E.toks wF j2;have f3:=bq (s:=wF) hT.last f2.2;rw[e3]at h f3;obtain⟨n1,n2⟩:=hm.need e3;change ∃v h,dw v/\chk E ⟨va,ba,eG E σ j2 wF,eO E σ j2 wF⟩=some ⟨v,h,(cB E σ r).1,(cB E σ r).2⟩;rw[n1,n2]
  cases r3 with
  | error k=>
   cases h;simp only[cB];rw[(hm.stop9 k).chk hT hva];exact⟨_,_,hva,rfl⟩
  | ok xj=>
   obtain⟨_,j3⟩:=xj
   cases h;simp only[cB];rw[hm.chk f3.2 hva];exact⟨_,_,hva,rfl⟩
 rename_i hs0;rw[ae hs0];split at h
 .rename_i hs;have h1:=aD hT.last hi hs;rw[ag hs,ag h1,zC hm.1]
  cases e2:Q E.toks (i+1) with
  | none=>rw[e2]at h;cases h
  | some r2=>
  have f2:=hF2 E.toks (i+1) hT.last h1;rw[e2]at h f2;obtain⟨va,ba,hva,hMa⟩:=hR2 σ (i+1) live r2 hm h1 e2;rw[hMa,aG]
  cases r2 with
  | error k=>
   cases h;simp only[cB];rw[(hm.stop9 k).chk hT (kL _)];exact⟨_,_,kL _,rfl⟩
  | ok xj=>
   obtain⟨xa,j2⟩:=xj
   cases h;simp only[cB];rw[hm.chk f2.2 (kL _)];exact⟨_,_,kL _,rfl⟩
 rename_i hs1;rw[ae hs1];split at h
 .rename_i hs;rw[ag hs];exact KI hT hR hS hF false hm (aD hT.last hi hs) h
 rename_i hs2;rw[ae hs2];split at h
 .rename_i hs;rw[ag hs];exact KI hT hR hS hF true hm (aD hT.last hi hs) h
 rename_i hs3;rw[ae hs3];split at h
 .rename_i hs;rw[ag hs];exact Ou hm hend (Sq hT hR hS hF hm (aD hT.last hi hs) h)
 rename_i hs4;rw[ae hs4];split at h
 .rename_i hs;rw[ag hs];exact Ou hm hend (Sq hT hR hS hF hm (aD hT.last hi hs) h)
 rename_i hs5;rw[ae hs5];split at h
 .rename_i hs;rw[ag hs];exact Z7 hm hend (V7 hT hR hS hF hm (aD hT.last hi hs) h)
 rename_i hs6;rw[ae hs6]
 cases h;rw[hm.wrong];simp only[cB];rw[(hm.stop9 i).chk hT Dy];exact⟨_,_,Dy,rfl⟩
theorem RA (hT:bL E) (n:Nat):uJ E (XF (n+2)).1:=by
 rw[XF];exact V3 (IK (IK (Od hT) n) n)
theorem Qk6 (hT:bL E) (n:Nat):yX E (XF n).1 (yG n).1/\yX E (XF n).2 (yG n).2:=by
 induction n with
 | zero=>exact⟨λσ i live r _ _ h=>by(cases h),λσ i live r _ _ h=>by(cases h)⟩
 | succ n ih=>
  rw[yG];split
  .exact⟨λσ i live r _ _ h=>by(cases h),λσ i live r _ _ h=>by(cases h)⟩
  rename_i hn;obtain⟨m,rfl⟩:∃m,n=m+2:=⟨n-2,by omega⟩;have fw:=uU (m+2);have f:=Pe hT ih.1 (RA hT m) fw.1 ih.2 fw.2;have ff:=sK fw.1 fw.2;rw[XF];have t:=Ke YT hT f ff (m+1);have tf:=qL ff lT (m+1);have s:=Ke Zt hT t tf (m+1);have sf:=qL tf lQ (m+1);exact⟨Ve hT s sf,f⟩
theorem zl {r:SR} (h:qF E r):chkR E r=some r:=by rw[chkR,ag h]
section
variable {E:bB} {σ:St}
theorem S0.chkR (hT:bL E) (h:S0 E σ):chkR E ⟨E.toks.length-1,σ⟩=some ⟨E.toks.length-1,σ⟩:=zl ⟨kJ hT,h.2.2⟩
theorem M0.chkR (h:M0 E σ) {j:Nat} (hj:j<E.toks.length):chkR E ⟨j,σ⟩=some ⟨j,σ⟩:=zl ⟨hj,h.2.2⟩
theorem S0.semi (hT:bL E) (h:S0 E σ) (i:Nat):qX E σ i=some ⟨E.toks.length-1,σ⟩:=by
 unfold qX;rw[(h.need _ _).1,(h.need _ _).2,h.chkR hT]
theorem M0.semi {α:Type} (hT:bL E) (hm:M0 E σ) (hj:j<E.toks.length) {g:α} {r:Except Nat (α×Nat)} (h:andThen (aZ E.toks xE j) (λ_ k=>kF g k)=some r):qX E σ j=some ⟨(cB E σ r).1,(cB E σ r).2⟩:=by
 unfold qX;obtain⟨r1,e1⟩:=dK E.toks xE j;have f1:=bq (s:=xE) hT.last hj;rw[e1]at h f1;obtain⟨n1,n2⟩:=hm.need e1;rw[n1,n2]
 cases r1 with
 | error k=>cases h;exact(hm.stop9 k).chkR hT
 | ok xj=>obtain⟨_,j1⟩:=xj;cases h;exact hm.chkR f1.2
theorem M0.of (h:M0 E σ) {k:Int} {r:Except Nat (aH×Nat)} (hr:ib E.toks k i=some r):D5 E σ i k=(cB E σ r).1/\Bp E σ i k=(cB E σ r).2:=by
 unfold ib at hr;unfold D5 Bp;rw[h.stop];split at hr
 .rename_i hs
  cases hr;have hs':((aT E i).kind==k)=true:=hs;simp[hs',cB]
 .rename_i hs
  cases hr;have hs':((aT E i).kind==k)=false:=gW.2 hs;simp[hs',cB,h.wrong]
theorem S0.of (h:S0 E σ) (i:Nat) (k:Int):D5 E σ i k=E.toks.length-1/\Bp E σ i k=σ:=by
 unfold D5 Bp;rw[h.stop];simp
end
def Br (E:bB) (M:MS) (P:PS):Prop:=∀σ i live r,M0 E σ->i<E.toks.length->P E.toks i=some r->M E σ i live=some ⟨(cB E σ r).1,(cB E σ r).2⟩
def M4 (E:bB) (M:MS):Prop:=∀σ i live,S0 E σ->i<E.toks.length->M E σ i live=some ⟨E.toks.length-1,σ⟩
section
variable {X:MX} {P:PE} {B:MS} {Q:PS} {E:bB}
theorem Qm (hT:bL E) (hR:yX E X P) (hS:uJ E X) (hF:dL P) {r:Except Nat (Sx×Nat)} (hm:M0 E σ) (hi:i+1<E.toks.length) (h:mi P E.toks i=some r):lM X E σ i live=some ⟨(cB E σ r).1,(cB E σ r).2⟩:=by
 have l0:tV E σ i=σ:=by simp[tV,hm.1]
 unfold lM;rw[l0,zC hm.1];generalize stepB E σ live=s;unfold nQ;unfold mi at h;obtain⟨r1,e1⟩:=dK E.toks Oy (i+1);have f1:=bq (s:=Oy) hT.last hi;rw[e1]at h f1;obtain⟨n1,n2⟩:=hm.need e1;rw[n1,n2,ag ⟨hi,wY hT f1⟩];have fin:∀a:gp,iq E i s (Gh E σ i) a=qX E a.σ a.to:=λa=>by
  unfold iq;rw[ae (by simp[hm.1]),H7 hm.1,ae (by simp)]
 cases r1 with
 | error k=>
  cases h;obtain⟨v,b,hv,hM⟩:=hS _ _ s (hm.stop9 k) (kJ hT);simp only[cB];rw[hM,aG,fin];exact(hm.stop9 k).semi hT _
 | ok xj=>
 obtain⟨_,j1⟩:=xj;simp only[cB];simp only[andThen]at h
 cases e2:P E.toks j1 with
 | none=>rw[e2]at h;cases h
 | some r2=>
 have f2:=hF E.toks j1 hT.last f1.2;rw[e2]at h f2;obtain⟨va,ba,hva,hMa⟩:=hR σ j1 s r2 hm f1.2 e2;rw[hMa,aG,fin]
 cases r2 with
 | error k=>cases h;exact(hm.stop9 k).semi hT _
 | ok xj=>
  obtain⟨xa,j2⟩:=xj;exact hm.semi hT f2.2 h
theorem Sn (hT:bL E) (hR:yX E X P) (hF:dL P) (hid:Bool) (tag:Nat) {r:Except Nat (Sx×Nat)} (hm:M0 E σ) (hi:i+1<E.toks.length) (h:wJ P tag E.toks i=some r):Cq X hid E σ i live=some ⟨(cB E σ r).1,(cB E σ r).2⟩:=by
 unfold Cq;rw[ag hi,zC hm.1];generalize stepB E σ live=s;unfold wJ at h;have fin:∀a:gp,uD E i s hid a=qX E a.σ a.to:=λa=>by
  unfold uD;have o:BJ E a.σ i a.h hid=a.σ:=by simp[BJ,hm.1]
  rw[o,H7 hm.1,ae (by simp)]
 cases e2:P E.toks (i+1) with
 | none=>rw[e2]at h;cases h
 | some r2=>
 have f2:=hF E.toks (i+1) hT.last hi;rw[e2]at h f2;obtain⟨va,ba,hva,hMa⟩:=hR σ (i+1) s r2 hm hi e2;rw[hMa,aG,fin]
 cases r2 with
 | error k=>cases h;exact(hm.stop9 k).semi hT _
 | ok xj=>
  obtain⟨xa,j2⟩:=xj;exact hm.semi hT f2.2 h
theorem A8 {s:Bool} {a:gp} (h:S0 E q.σ):fF B E s a q=some q:=by
 unfold fF;rw[h.is,ae (by simp)]
theorem QJ (hT:bL E) (hR:yX E X P) (hF:dL P) (hB:Br E B Q) (hSB:M4 E B) (hFB:dL Q) {r:Except Nat (Sx×Nat)} (hm:M0 E σ) (hi:i+1<E.toks.length) (h:Pj P Q E.toks i=some r):mr X B E σ i live=some ⟨(cB E σ r).1,(cB E σ r).2⟩:=by
 unfold mr;rw[ag hi,zC hm.1];generalize stepB E σ live=s;unfold Pj at h
 cases e2:P E.toks (i+1) with
 | none=>rw[e2]at h;cases h
 | some r2=>
 have f2:=hF E.toks (i+1) hT.last hi;rw[e2]at h f2;obtain⟨va,ba,hva,hMa⟩:=hR σ (i+1) s r2 hm hi e2;rw[hMa,aG];simp only;rw[Vq hm.1]
 cases r2 with
 | error k=>
  cases h;simp only[cB];rw[hSB _ _ _ (hm.stop9 k) (kJ hT),aG];exact A8 (hm.stop9 k)
 | ok xj=>
 obtain⟨xa,j2⟩:=xj;simp only[cB];simp only[andThen]at h
 cases e3:Q E.toks j2 with
 | none=>rw[e3]at h;cases h
 | some r3=>
 have f3:=hFB E.toks j2 hT.last f2.2;rw[e3]at h f3;rw[hB σ j2 _ r3 hm f2.2 e3,aG]
 cases r3 with
 | error k=>cases h;exact A8 (hm.stop9 k)
 | ok xj=>
 obtain⟨xs,j3⟩:=xj;simp only[cB];simp only at h;unfold fF;simp only;rw[hm.is];unfold uz at h;split at h
 .rename_i hs;have h4:=aD hT.last f3.2 hs;rw[ag hs,ag h4]
  cases e4:Q E.toks (j3+1) with
  | none=>rw[e4]at h;cases h
  | some r4=>
  rw[e4]at h;rw[hB σ (j3+1) _ r4 hm h4 e4]
  cases r4 with
  | error k=>cases h;rfl
  | ok xj=>obtain⟨xu,j4⟩:=xj;cases h;rfl
 .rename_i hs
  cases h;rw[ae hs]
theorem X8 (hT:bL E) (hB:Br E B Q) {r:Except Nat (Sx×Nat)} (hm:M0 E σ) (hi:i+1<E.toks.length) (h:BS Q E.toks i=some r):wW B E σ i live=some ⟨(cB E σ r).1,(cB E σ r).2⟩:=by
 have hs:stepB E σ live=false:=by simp[stepB,H7 hm.1]
 unfold wW;rw[ag hi,zC hm.1,hs];unfold BS at h;have d4:∀τ a b c d,S0 E τ->Af B E false a b c d τ=some ⟨E.toks.length-1,τ⟩:=λτ a b c d ht=>by
  unfold Af;rw[ag ht.stop,ht.chkR hT]
 have d3:∀τ a b,S0 E τ->F6 B E false a b (E.toks.length-1) τ=some ⟨E.toks.length-1,τ⟩:=λτ a b ht=>by
  unfold F6;rw[(ht.need _ _).1,(ht.need _ _).2,ag ⟨kJ hT,kJ hT⟩,(ht.of _ _).1,(ht.of _ _).2];exact d4 _ _ _ _ _ ht
 have d2:∀τ a,S0 E τ->EX B E false a (E.toks.length-1) τ=some ⟨E.toks.length-1,τ⟩:=λτ a ht=>by
  unfold EX;rw[ag (kJ hT),(ht.of _ _).1,(ht.of _ _).2];exact d3 _ _ _ ht
 obtain⟨r1,e1⟩:=xX E.toks 1 (i+1);have f1:=qf hT.last (k:=1) (by decide) hi;rw[e1]at h f1;rw[(hm.of e1).1,(hm.of e1).2]
 cases r1 with
 | error k=>cases h;exact d2 _ _ (hm.stop9 k)
 | ok xj=>
 obtain⟨xn,j1⟩:=xj;simp only[cB];simp only[andThen]at h;unfold EX;rw[ag f1.2];obtain⟨r2,e2⟩:=xX E.toks 2 j1;have f2:=qf hT.last (k:=2) (by decide) f1.2;rw[e2]at h f2;rw[(hm.of e2).1,(hm.of e2).2]
 cases r2 with
 | error k=>cases h;exact d3 _ _ _ (hm.stop9 k)
 | ok xj=>
 obtain⟨xa,j2⟩:=xj;simp only[cB];simp only at h;unfold F6;obtain⟨r3,e3⟩:=dK E.toks M3 j2;have f3:=bq (s:=M3) hT.last f2.2;rw[e3]at h f3;rw[(hm.need e3).1,(hm.need e3).2,ag ⟨f2.2,wY hT f3⟩]
 cases r3 with
 | error k=>
  cases h;simp only[cB];rw[((hm.stop9 k).of _ _).1,((hm.stop9 k).of _ _).2];exact d4 _ _ _ _ _ (hm.stop9 k)
 | ok xj=>
 obtain⟨_,j3⟩:=xj;simp only[cB];simp only at h;obtain⟨r4,e4⟩:=xX E.toks 2 j3;have f4:=qf hT.last (k:=2) (by decide) f3.2;rw[e4]at h f4;rw[(hm.of e4).1,(hm.of e4).2]
 cases r4 with
 | error k=>cases h;exact d4 _ _ _ _ _ (hm.stop9 k)
 | ok xj=>
 obtain⟨xb,j4⟩:=xj;simp only[cB];simp only at h;unfold Af;have hd:oz E σ (i+1) false false=σ:=by simp[oz,hm.1]
 have hn:jH E σ j1 j3=σ:=by simp[jH,hm.1]
 rw[hm.stop,ae (by simp),hd,ag ⟨f4.2,hm.2.2⟩,hn];unfold oM;rw[ae (by simp)]
 cases e5:Q E.toks j4 with
 | none=>rw[e5]at h;cases h
 | some r5=>
 rw[e5]at h;rw[hB σ j4 false r5 hm f4.2 e5,aG];have he:∀q:SR,nD E q=some q:=λq=>by
  unfold nD;rw[ag (by simp[hm.1])];simp[sI,hm.1]
 rw[he]
 cases r5 with
 | error k=>cases h;rfl
 | ok xj=>obtain⟨xs,j5⟩:=xj;cases h;rfl
theorem J6 (hT:bL E) (hR:yX E X P) (hS:uJ E X) (hF:dL P) (hB:Br E B Q) (hSB:M4 E B) (hFB:dL Q):Br E (jm X B) (dU P Q):=by
 intro σ i live r hm hi h;unfold jm;rw[hm.stop,ae (by simp),hm.is,hm.is,hm.is,hm.is];unfold dU at h;split at h
 .rename_i hk;have hk':((aT E i).kind==1)=true:=hk;rw[ag hk'];exact Qm hT hR hS hF hm (tO hT.last hi (by have e:(ah E.toks i).kind=1:=(by simpa using hk);rw[e];decide)) h
 rename_i hk;rw[ae (show ¬ ((aT E i).kind==1)=true from hk)];split at h
 .rename_i hs;rw[ag hs];exact QJ hT hR hF hB hSB hFB hm (aD hT.last hi hs) h
 rename_i h1;rw[ae h1];split at h
 .rename_i hs;rw[ag hs];exact X8 hT hB hm (aD hT.last hi hs) h
 rename_i h2;rw[ae h2];split at h
 .rename_i hs;rw[ag (by rw[hs];rfl)];exact Sn hT hR hF _ 3 hm (aD hT.last hi hs) h
 rename_i h3;split at h
 .rename_i hs;rw[ag (by rw[hs];simp)];exact Sn hT hR hF _ 4 hm (aD hT.last hi hs) h
 rename_i h4
 cases h;rw[ae (by simp[h3,h4]),hm.wrong];exact(hm.stop9 i).chkR hT
end
section
variable {S:MS} {P:PS} {E:bB}
theorem yN (hT:bL E) (h:S0 E q.σ):gY S E live (m+1) q=some ⟨E.toks.length-1,q.σ⟩:=by
 rw[gY,ag (by rw[h.stop];simp),(h.need _ _).1,(h.need _ _).2,h.chkR hT]
theorem O6 (hT:bL E) (hR:Br E S P) (hF:dL P) (m:Nat):∀σ j r,M0 E σ->j<E.toks.length->kz P E.toks m j=some r->gY S E live (m+1) ⟨j,σ⟩=some ⟨(cB E σ r).1,(cB E σ r).2⟩:=by
 induction m with
 | zero=>intro σ j r _ _ h;cases h
 | succ m ih=>
  intro σ j r hm hj h;rw[kz]at h;rw[gY];simp only;rw[hm.is,hm.stop];split at h
  .rename_i hs
   cases h;rw[ag (by rw[hs];rfl)];have n:=hm.need (i:=j) (s:=DF) (r:=.ok ((),j+1)) (by unfold aZ;rw[ag hs];rfl);rw[n.1,n.2];exact hm.chkR (aD hT.last hj hs)
  .rename_i hs;rw[ae (by simp[hs])]
   cases e1:P E.toks j with
   | none=>rw[e1]at h;cases h
   | some r1=>
   have f1:=hF E.toks j hT.last hj;rw[e1]at h f1;rw[hR σ j live r1 hm hj e1,aG]
   cases r1 with
   | error k=>cases h;exact yN hT (hm.stop9 k)
   | ok xj=>
   obtain⟨xs,j1⟩:=xj;simp only[andThen]at h
   cases e2:kz P E.toks m j1 with
   | none=>rw[e2]at h;cases h
   | some r2=>
   rw[e2]at h;have:=ih σ j1 r2 hm f1.2 e2;simp only[cB];rw[this]
   cases r2 with
   | error k=>cases h;rfl
   | ok xj=>obtain⟨xu,j2⟩:=xj;cases h;rfl
theorem V6 (hT:bL E) (hR:Br E S P) (hF:dL P) (n:Nat):Br E (rq S (n+1)) (r9 P n):=by
 intro σ i live r hm hi h;unfold r9 at h;split at h
 .cases h
 unfold rq;obtain⟨r1,e1⟩:=dK E.toks Oz i;have f1:=bq (s:=Oz) hT.last hi;rw[e1]at h f1;rw[(hm.need e1).1,(hm.need e1).2,ag (wY hT f1)]
 cases r1 with
 | error k=>cases h;exact yN hT (hm.stop9 k)
 | ok xj=>
  obtain⟨_,j1⟩:=xj;exact O6 hT hR hF n σ j1 r hm f1.2 h
theorem PN (hT:bL E) (n:Nat):M4 E (rq S (n+1)):=by
 intro σ i live hs hi;unfold rq;rw[(hs.need _ _).1,(hs.need _ _).2,ag (kJ hT)];exact yN hT hs
end
theorem Qg1 (hT:bL E) (n:Nat):Br E (JE n).1 (zB n).1/\Br E (JE n).2 (zB n).2:=by
 induction n with
 | zero=>exact⟨λσ i live r _ _ h=>by(cases h),λσ i live r _ _ h=>by(cases h)⟩
 | succ n ih=>
  rw[zB];split
  .exact⟨λσ i live r _ _ h=>by(cases h),λσ i live r _ _ h=>by(cases h)⟩
  rename_i hn;obtain⟨m,rfl⟩:∃m,n=m+2:=⟨n-2,by omega⟩;rw[JE];have sb:M4 E (JE (m+2)).2:=by rw[JE];exact PN hT m
  exact⟨J6 hT (Qk6 hT (m+2)).1 (RA hT m) (uU (m+2)).1 ih.2 sb (oV (m+2)).2,V6 hT ih.1 (oV (m+2)).1 (m+1)⟩
section
variable {E:bB}
theorem Qo4 (hm:E.mode=0) (i:Nat) (hd fr:Bool):oz E σ i hd fr=σ:=by simp[oz,hm]
theorem Ut (hT:bL E) (hd:Bool) (n:Nat):∀σ i r,M0 E σ->i<E.toks.length->jO E.toks hd n i=some r->qo E hd n ⟨i,σ⟩=some ⟨(cB E σ r).1,(cB E σ r).2⟩:=by
 induction n with
 | zero=>intro σ i r _ _ h;cases h
 | succ n ih=>
  intro σ i r hm hi h;rw[jO]at h;rw[qo];simp only;obtain⟨r1,e1⟩:=xX E.toks 1 i;have f1:=qf hT.last (k:=1) (by decide) hi;rw[e1]at h f1
  cases r1 with
  | error k=>
   cases h;have o2:Bp E σ i 1=stop9 E σ k:=(hm.of e1).2;rw[o2,ag (hm.stop9 k).stop,(hm.stop9 k).chkR hT];rfl
  | ok xj=>
  obtain⟨xn,j⟩:=xj;have o1:D5 E σ i 1=j:=(hm.of e1).1;have o2:Bp E σ i 1=σ:=(hm.of e1).2;rw[o1,o2];simp only[andThen]at h;rw[hm.stop,ae (by simp),Qo4 hm.1,ag ⟨f1.2,hm.2.2⟩,hm.is];split at h
  .rename_i hs;have h1:=aD hT.last f1.2 hs;rw[ag hs,ag h1]
   cases e2:jO E.toks hd n (j+1) with
   | none=>rw[e2]at h;cases h
   | some r2=>
   rw[e2]at h;rw[ih σ (j+1) r2 hm h1 e2]
   cases r2 with
   | error k=>cases h;rfl
   | ok xj=>obtain⟨xl,j2⟩:=xj;cases h;rfl
  .rename_i hs;rw[ae hs];exact hm.semi hT f1.2 h
theorem Qg {f:Nat} (h:S0 E q.σ):pu E f (k+1) q=some q:=by
 rw[pu,h.is,h.is,ae (by simp)]
theorem V5 (hT:bL E) (f n:Nat):∀σ i r,M0 E σ->i<E.toks.length->jY E.toks f n i=some r->pu E f (n+1) ⟨i,σ⟩=some ⟨(cB E σ r).1,(cB E σ r).2⟩:=by
 induction n with
 | zero=>intro σ i r _ _ h;cases h
 | succ n ih=>
  intro σ i r hm hi h;rw[jY]at h;rw[pu];simp only;rw[hm.is,hm.is];split at h
  .rename_i hs;have h1:i+1<E.toks.length:=by
    have hs':=hs;simp only[pU]at hs';rcases hs' with hs'|hs'<;>exact aD hT.last hi hs'
   rw[ag hs,ag h1]
   cases e1:jO E.toks (bJ E.toks i bA) f (i+1) with
   | none=>rw[e1]at h;cases h
   | some r1=>
   have f1:=xI (bJ E.toks i bA) hT.last f (i+1) h1;rw[e1]at h f1;rw[Ut hT _ f σ (i+1) r1 hm h1 e1,aG]
   cases r1 with
   | error k=>cases h;exact Qg (hm.stop9 k)
   | ok xj=>
   obtain⟨xl,j⟩:=xj;simp only[andThen]at h
   cases e2:jY E.toks f n j with
   | none=>rw[e2]at h;cases h
   | some r2=>
   rw[e2]at h;simp only[cB];rw[ih σ j r2 hm f1.2 e2]
   cases r2 with
   | error k=>cases h;rfl
   | ok xj=>obtain⟨xm,j2⟩:=xj;cases h;rfl
  .rename_i hs
   cases h;rw[ae hs];rfl
theorem Jy (h:S0 E q.σ):uh S E (k+1) q=some q.σ:=by
 rw[uh,h.stop,ag (by simp)]
theorem Xg {P:PS} (hT:bL E) (hR:Br E S P) (hF:dL P) (n:Nat):∀σ i r,M0 E σ->σ.dead=false->i<E.toks.length->mH P E.toks n i=some r->uh S E (n+1) ⟨i,σ⟩=some (cB E σ r).2:=by
 induction n with
 | zero=>intro σ i r _ _ _ h;cases h
 | succ n ih=>
  intro σ i r hm hd hi h;rw[mH]at h;rw[uh];simp only;rw[hm.stop,hd];split at h
  .rename_i hs
   cases h;have hs':((aT E i).kind==4)=true:=hs;rw[hs',ag (by simp)];rfl
  .rename_i hs;have hs':((aT E i).kind==4)=false:=gW.2 hs;rw[hs',ae (by simp)]
   cases e1:P E.toks i with
   | none=>rw[e1]at h;cases h
   | some r1=>
   have f1:=hF E.toks i hT.last hi;rw[e1]at h f1;rw[hR σ i true r1 hm hi e1,aG]
   cases r1 with
   | error k=>cases h;exact Jy (hm.stop9 k)
   | ok xj=>
   obtain⟨xs,j⟩:=xj;simp only[andThen]at h
   cases e2:mH P E.toks n j with
   | none=>rw[e2]at h;cases h
   | some r2=>
   rw[e2]at h;simp only[cB];rw[ih σ j r2 hm hd f1.2 e2]
   cases r2 with
   | error k=>cases h;rfl
   | ok xj=>obtain⟨xu,j2⟩:=xj;cases h;rfl
theorem Q7 (hT:bL E) (m:Nat) {r:Except Nat ((List (aH×Bool)×Sx)×Nat)} (hm:E.mode=0) (hf:σ.fault=0) (hok:lI σ) (hd:σ.dead=false) (h:dV (m+1) E.toks=some r):qi (m+1) E σ=some (cB E (iC E σ) r).2:=by
 have hs:M0 E (iC E σ):=⟨hm,hf,by simp[iC],hok.2⟩;unfold qi;rw[ae (by simp[hm])];unfold dV at h;have hi:=hT.last.1;simp only[Nat.add_sub_cancel]at h
 cases e1:jY E.toks (m+1) m 0 with
 | none=>rw[e1]at h;cases h
 | some r1=>
 have f1:=xF hT.last (m+1) m 0 hi;rw[e1]at h f1;rw[V5 hT (m+1) m _ 0 r1 hs hi e1,aG]
 cases r1 with
 | error k=>cases h;exact Jy (hs.stop9 k)
 | ok xj=>
 obtain⟨xl,j⟩:=xj;simp only[andThen]at h
 cases e2:mH (zB (m+1)).1 E.toks m j with
 | none=>rw[e2]at h;cases h
 | some r2=>
 rw[e2]at h;simp only[cB];rw[Xg hT (Qg1 hT (m+1)).1 (oV (m+1)).1 m _ j r2 hs hd f1.2 e2]
 cases r2 with
 | error k=>cases h;rfl
 | ok xj=>obtain⟨xu,j2⟩:=xj;cases h;rfl
end
abbrev VR:=Int×Bool×St
def jZ (σ:St) (t:aH) (e:Int):St:=if σ.fault=0∨t.place<σ.place then { σ with fault:=e,place:=t.place } else σ
def jr (σ:St) (t:aH):Int:=aN σ.cells t.text
def lH (E:bB) (σ:St) (t:aH):St:=if(E.mode==1)&&decide (jr σ t<0) then jZ σ t 10 else σ
def lG (E:bB) (σ:St) (t:aH) (b:Bool):St:=if(E.mode==2)&&b then jZ σ t 11 else σ
def iN (E:bB) (σ:St) (t:aH) (live:Bool):VR:=
 if t.kind==2 then(t.num,false,aC E σ live)
 else if E.mode==0 then(0,false,aC E σ live)
 else if jr (aC E σ live) t<0 then(0,false,lH E (aC E σ live) t)
 else(if stepB E σ live then(mG (lH E (aC E σ live) t) (jr (aC E σ live) t)).val else 0,(mG (lH E (aC E σ live) t) (jr (aC E σ live) t)).hid,lH E (aC E σ live) t)
def FQ (r:VR):Option VR:=if lI r.2.2/\dw r.1 then some r else none
def zf (E:bB) (t:aH) (live hid:Bool) (a b:VR):Option VR:=
 if aW E (lG E b.2.2 t (a.2.1||b.2.1)) live then
  (if 1<=E.sw/\E.sw<=6/\1<=E.sh/\E.sh<=6/\0<=mh E a.1 b.1/\mh E a.1 b.1<E.opens.length/\mh E a.1 b.1<E.hids.length then
   FQ ((if hid then E.hids else E.opens).getD (mh E a.1 b.1).toNat 0,hid,lq (lG E b.2.2 t (a.2.1||b.2.1)) (lF hid) (mh E a.1 b.1))
  else none)
 else FQ (0,hid||a.2.1||b.2.1,lG E b.2.2 t (a.2.1||b.2.1))
def zn (t:aH) (s:ByteArray):Bool:=t.text.toList==s.toList
def Js (a:VR):Option VR:=FQ (kG (-a.1),a.2.1,a.2.2)
def wX (t:aH) (a b:VR):Option VR:=if dw a.1/\dw b.1 then FQ (dR t.text a.1 b.1,a.2.1||b.2.1,b.2.2) else none
def Jg (t:aH) (a b:VR):Option VR:=some (dR t.text a.1 b.1,a.2.1||b.2.1,b.2.2)
def yP (a b c:VR):Option VR:=if a.1=0 then FQ (c.1,a.2.1||b.2.1||c.2.1,c.2.2) else FQ (b.1,a.2.1||b.2.1||c.2.1,c.2.2)
def uN (E:bB) (live:Bool) (t:aH) (A B:St->Option VR) (σ:St):Option VR:=
 if zn t bf then(A (aC E σ live)).bind λa=>(B a.2.2).bind λb=>zf E t live false a b else
 if zn t cz then(A (aC E σ live)).bind λa=>(B a.2.2).bind λb=>zf E t live true a b else
 if zn t kU then(A (aC E σ live)).bind λa=>(B a.2.2).bind λb=>wX t a b else
 if zn t kI then(A (aC E σ live)).bind λa=>(B a.2.2).bind λb=>wX t a b else
 (A σ).bind λa=>(B (aC E a.2.2 live)).bind λb=>Jg t a b
def pg (E:bB) (live:Bool) (t:aH) (ks:List (St->Option VR)) (σ:St):Option VR:=
 if(t.kind==2)||(t.kind==1) then FQ (iN E σ t live) else
 match ks with
 | [A]=>(A (aC E σ live)).bind Js
 | [A,B]=>uN E live t A B σ
 | [A,B,C]=>(A (aC E σ live)).bind λa=>(B a.2.2).bind λb=>(C b.2.2).bind λc=>yP a b c
 | _=>none
def zt (E:bB) (live:Bool):Ex->List (St->Option VR)
 | .nil=>[]
 | .node _ _ t k r=>pg E live t (zt E live k)::zt E live r
def tQ (E:bB) (live:Bool) (e:Ex) (σ:St):Option VR:=match e with
 | .nil=>none
 | .node _ _ t k _=>pg E live t (zt E live k) σ
def Fg:Ex->Prop
 | .nil=>False
 | .node _ _ _ _ _=>True
section
variable {E:bB} {live:Bool}
theorem LM:zt E live .nil=[]:=rfl
theorem sV {a:Ex} (ha:Fg a) (r:Ex):zt E live (bD a r)=tQ E live a::zt E live r:=by
 cases a with
 | nil=>cases ha
 | node b o t k r'=>rfl
theorem NU (t:aH) (h:((t.kind==2)||(t.kind==1))=true) (σ:St):tQ E live (BG t) σ=FQ (iN E σ t live):=by
 show pg E live t (zt E live .nil) σ=_;unfold pg;rw[ag h]
theorem YP (t:aH) (h:((t.kind==2)||(t.kind==1))=false) {a:Ex} (ha:Fg a) (σ:St):tQ E live (NA t a) σ=(tQ E live a (aC E σ live)).bind Js:=by
 show pg E live t (zt E live (bD a .nil)) σ=_;rw[sV ha,LM];unfold pg;rw[ae (by rw[h];simp)]
theorem Fz (t:aH) (h:((t.kind==2)||(t.kind==1))=false) {a b:Ex} (ha:Fg a) (hb:Fg b) (σ:St):tQ E live (uf t a b) σ=uN E live t (tQ E live a) (tQ E live b) σ:=by
 show pg E live t (zt E live (bD a (bD b .nil))) σ=_;rw[sV ha,sV hb,LM];unfold pg;rw[ae (by rw[h];simp)]
theorem Tf (t:aH) (h:((t.kind==2)||(t.kind==1))=false) {a b c:Ex} (ha:Fg a) (hb:Fg b) (hc:Fg c) (σ:St):tQ E live (VH t a b c) σ=(tQ E live a (aC E σ live)).bind λx=>(tQ E live b x.2.2).bind λy=>(tQ E live c y.2.2).bind λz=>yP x y z:=by
 show pg E live t (zt E live (bD a (bD b (bD c .nil)))) σ=_;rw[sV ha,sV hb,sV hc,LM];unfold pg;rw[ae (by rw[h];simp)]
end
end Go.Proofs.YthmmgiaobakilaaGreat
