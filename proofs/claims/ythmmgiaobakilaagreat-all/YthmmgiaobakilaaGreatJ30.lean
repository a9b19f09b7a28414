import Derived.Test.YthmmgiaobakilaaGreatJ01
import Derived.Test.YthmmgiaobakilaaGreatJ29
import Derived.Deep.RegionWith
set_option maxRecDepth 100000
set_option maxHeartbeats 8000000
set_option linter.all false
namespace Go.Proofs.YthmmgiaobakilaaGreat
open Go.RowKit
variable {L M:List Int} {ao:Option Addr} {e:Ending} {i n:Nat} {v:Value} {w w':World} {xs:List Value}
def mq (base:Nat) (L:List Int) (e:Ending) (w':World):Prop:=
 (dE L≠0/\e=.returned (.tuple #[.agg #[.int .i64 0,.int .i64 0,.slice none 0 0,.slice none 0 0,.string ⟨#[]⟩],.int .i64 (dE L)])) ∨
 ∃x y M ao bo c d src,L=85::x::y::M/\dz x=true/\dz y=true/\tE (x*y).toNat M=0 /\
  e=.returned (.tuple #[.agg #[.int .i64 x,.int .i64 y,.slice ao (x*y).toNat c,.slice bo (x*y).toNat d,.string src],.int .i64 0])/\nums src=M.drop (2+2*(x*y).toNat) /\
  aF w'.heap.size w' ao (M.take (x*y).toNat)/\aF w'.heap.size w' bo ((M.drop (x*y).toNat).take (x*y).toNat)/\(∀a,ao=some a->base<=a.block)/\(∀a,bo=some a->base<=a.block)
theorem DK (b:ByteArray) (i:Nat) (h:i<b.size):(nums b).drop i=(b[i].toNat:Int)::(nums b).drop (i+1):=by
 have hl:i<(nums b).length:=by rw[bU];exact h
 rw[vR hl];have:=vY b i h;rw[aU hl]at this;simp only[ko]at this;rw[this]
theorem I7 (b:ByteArray) (h:0<b.size):nums b=(b[0].toNat:Int)::(nums b).drop 1:=by
 have:=DK b 0 h;simpa using this
theorem Dc (b:ByteArray) (h:1<b.size):nums b=(b[0].toNat:Int)::(b[1].toNat:Int)::(nums b).drop 2:=by
 have e1:=I7 b (by omega);have e2:=DK b 1 h;rw[e2]at e1;exact e1
theorem vQ (b:ByteArray) (h:2<b.size):nums b=(b[0].toNat:Int)::(b[1].toNat:Int)::(b[2].toNat:Int)::(nums b).drop 3:=by
 have e1:=Dc b (by omega);have e2:=DK b 2 h;rw[e2]at e1;exact e1
theorem NM (b:ByteArray) (n:Nat) (i1:3+2*n<b.size) (i2:4+2*n<b.size):tE n ((nums b).drop 3) =
  if 300<(b[3+2*n].toNat:Int)*256+(b[4+2*n].toNat:Int) then 7
  else if((b.size-5-2*n:Nat):Int)<(b[3+2*n].toNat:Int)*256+(b[4+2*n].toNat:Int) then 1
  else if(b[3+2*n].toNat:Int)*256+(b[4+2*n].toNat:Int)<((b.size-5-2*n:Nat):Int) then 5
  else 0:=by
 have g1:((nums b).drop 3).getD (2*n) 0=(b[3+2*n].toNat:Int):=by
  simp only[List.getD,rV];rw[vY b (3+2*n) i1];rfl
 have g2:((nums b).drop 3).getD (2*n+1) 0=(b[4+2*n].toNat:Int):=by
  simp only[List.getD,rV];rw[show 3+(2*n+1)=4+2*n by omega,vY b (4+2*n) i2];rfl
 have hl:((nums b).drop 3).length=b.size-3:=by rw[jy,bU]
 rw[tE,g1,g2,hl,ae (by omega),show b.size-3-2-2*n=b.size-5-2*n by omega]
theorem NJ {base:Nat} (h:w.ownsRow base 3 1 v n xs) (hn:0<n):∃g cap,v=.slice (some ⟨g,0,none⟩) n cap:=by
 rcases h.2 with⟨rfl,h0⟩|⟨g,cap,cur,rfl,_⟩
 .omega
 .exact⟨g,cap,rfl⟩
theorem kM.drew {w:World} {b:Nat} {c0 c1 c2 c3 c4:Value} (h:kM w b c0 c1 c2 c3 c4):kM w.drew b c0 c1 c2 c3 c4:=h
theorem kM.all {b:Nat} {c0 c1 c2 c3 c4:Value} (h:kM w b c0 c1 c2 c3 c4):(w.cell? ⟨b,0,none⟩=some c0/\w.cell? ⟨b,1,none⟩=some c1/\w.cell? ⟨b,2,none⟩=some c2/\w.cell? ⟨b,3,none⟩=some c3/\w.cell? ⟨b,4,none⟩=some c4) /\
  w.frozen? ⟨b,0,none⟩=false/\w.frozen? ⟨b,1,none⟩=false/\w.frozen? ⟨b,2,none⟩=false/\w.frozen? ⟨b,3,none⟩=false/\w.frozen? ⟨b,4,none⟩=false:=
 ⟨h.cells,h.unfrozen 0,h.unfrozen 1,h.unfrozen 2,h.unfrozen 3,h.unfrozen 4⟩
theorem Rb (w:World) (c0 c1 c2 c3 c4:Value) (o:Obj):kM ((w.alloc (.cells #[c0,c1,c2,c3,c4] 24)).alloc o) w.heap.size c0 c1 c2 c3 c4:=by
 show((w.alloc _).alloc o).heap[w.heap.size]?=_;rw[av _ _ _ (by simp)];exact aA w _
theorem Ji (w:World) :
  Calls Tryz.prog 29 #[.string ⟨#[]⟩] w λe w'=>mq w.heap.size (nums ⟨#[]⟩) e w'/\Below w.heap.size w w':=by
 go_enter Tryz.func29,Tryz.ntmps29;go_wp2;refine wp_loop_rounds 1 ?_;rw[rounds_succ];go_wp2;refine aL (v:=.tuple #[.agg #[.int .i64 0,.int .i64 0,.slice none 0 0,.slice none 0 0,.string ⟨#[]⟩],.int .i64 1]) (by simp[results,Tryz.results29,go_sem]) rfl ⟨.inl ⟨by decide,rfl⟩,ji _ _ _⟩
theorem Mo (b:ByteArray) (w:World) (hs:b.size<=maxLen) (hp0:0<b.size) :
  Calls Tryz.prog 29 #[.string b] w λe w'=>mq w.heap.size (nums b) e w'/\Below w.heap.size w w':=by
 unfold maxLen at hs;have hbe:¬ b=ByteArray.empty:=by rintro rfl;exact absurd hp0 (by decide)
 go_enter Tryz.func29,Tryz.ntmps29;go_wp2
 go_loop [5] (λi=>i=.int .i64 0∨(i=.int .i64 1/\(b[0].toNat:Int)=85)∨(i=.int .i64 2/\∃h:1<b.size,(b[0].toNat:Int)=85/\dz (b[1].toNat:Int)=true)∨(i=.int .i64 3/\∃h:2<b.size,(b[0].toNat:Int)=85/\dz (b[1].toNat:Int)=true/\dz (b[2].toNat:Int)=true)) (λi=>3-(intOf i).toNat)
 case atStart=>exact .inl rfl
 case round=>
  rcases hrel with rfl|⟨rfl,h85⟩|⟨rfl,hp,h85,hx⟩|⟨rfl,hp,h85,hx,hy⟩
  .by_cases h85:(b[0].toNat:Int)=85
   .have h85':((b[0].toNat:Int) != 85)=false:=by simp[h85]
    have H85:=aj h85;clear h85;go_wp2
    go_round
    case rel=>exact .inr (.inl ⟨rfl,aa H85⟩)
    case measure=>simp[intOf]
   .have h85':((b[0].toNat:Int) != 85)=true:=by simp[h85]
    have HE:Hid (dE (nums b)=2):=by show dE (nums b)=2;rw[I7 b hp0];simp[dE,h85]
    clear h85;go_wp2;refine aL (v:=.tuple #[.agg #[.int .i64 0,.int .i64 0,.slice none 0 0,.slice none 0 0,.string ⟨#[]⟩],.int .i64 2]) (by simp[results,Tryz.results29,go_sem]) rfl ⟨.inl ⟨by rw[HE.out];decide,by rw[HE.out]⟩,ji _ _ _⟩
  .have H85:=aj h85;clear h85;by_cases hp1:1<b.size
   .by_cases lo:(b[1].toNat:Int)<1
    .have HE:Hid (dE (nums b)=3):=by show dE (nums b)=3;rw[Dc b hp1];have:=aa H85;simp[dE,this,dz];omega
     go_wp2;refine aL (v:=.tuple #[.agg #[.int .i64 0,.int .i64 0,.slice none 0 0,.slice none 0 0,.string ⟨#[]⟩],.int .i64 3]) (by simp[results,Tryz.results29,go_sem]) rfl ⟨.inl ⟨by rw[HE.out];decide,by rw[HE.out]⟩,ji _ _ _⟩
    .have lo':decide ((b[1].toNat:Int)<1)=false:=by simpa using lo
     by_cases hi:6<(b[1].toNat:Int)
     .have HE:Hid (dE (nums b)=3):=by show dE (nums b)=3;rw[Dc b hp1];have:=aa H85;simp[dE,this,dz];omega
      go_wp2;refine aL (v:=.tuple #[.agg #[.int .i64 0,.int .i64 0,.slice none 0 0,.slice none 0 0,.string ⟨#[]⟩],.int .i64 3]) (by simp[results,Tryz.results29,go_sem]) rfl ⟨.inl ⟨by rw[HE.out];decide,by rw[HE.out]⟩,ji _ _ _⟩
     .have hi':decide (6<(b[1].toNat:Int))=false:=by simpa using hi
      have HX1:Hid (dz (b[1].toNat:Int)=true):=by show dz _=true;simp[dz];omega
      go_wp2
      go_round
      case rel=>exact .inr (.inr (.inl ⟨rfl,hp1,aa H85,aa HX1⟩))
      case measure=>simp[intOf]
   .have hle:(b.size:Int)<=1:=by omega
    have HE:Hid (dE (nums b)=1):=by
     show dE (nums b)=1;have hd:(nums b).drop 1=[]:=List.drop_eq_nil_of_le (by rw[bU];omega);rw[I7 b hp0,hd];have:=aa H85;simp[dE,this]
    go_wp2;refine aL (v:=.tuple #[.agg #[.int .i64 0,.int .i64 0,.slice none 0 0,.slice none 0 0,.string ⟨#[]⟩],.int .i64 1]) (by simp[results,Tryz.results29,go_sem]) rfl ⟨.inl ⟨by rw[HE.out];decide,by rw[HE.out]⟩,ji _ _ _⟩
  .have H85:=aj h85;clear h85;have HX1:=aj hx;clear hx;by_cases hp2:2<b.size
   .by_cases lo:(b[2].toNat:Int)<1
    .have HE:Hid (dE (nums b)=3):=by show dE (nums b)=3;rw[vQ b hp2];have:=aa H85;simp[dE,this,dz];omega
     go_wp2;refine aL (v:=.tuple #[.agg #[.int .i64 0,.int .i64 0,.slice none 0 0,.slice none 0 0,.string ⟨#[]⟩],.int .i64 3]) (by simp[results,Tryz.results29,go_sem]) rfl ⟨.inl ⟨by rw[HE.out];decide,by rw[HE.out]⟩,ji _ _ _⟩
    .have lo':decide ((b[2].toNat:Int)<1)=false:=by simpa using lo
     by_cases hi:6<(b[2].toNat:Int)
     .have HE:Hid (dE (nums b)=3):=by show dE (nums b)=3;rw[vQ b hp2];have:=aa H85;simp[dE,this,dz];omega
      go_wp2;refine aL (v:=.tuple #[.agg #[.int .i64 0,.int .i64 0,.slice none 0 0,.slice none 0 0,.string ⟨#[]⟩],.int .i64 3]) (by simp[results,Tryz.results29,go_sem]) rfl ⟨.inl ⟨by rw[HE.out];decide,by rw[HE.out]⟩,ji _ _ _⟩
     .have hi':decide (6<(b[2].toNat:Int))=false:=by simpa using hi
      have HX2:Hid (dz (b[2].toNat:Int)=true):=by show dz _=true;simp[dz];omega
      go_wp2
      go_round
      case rel=>exact .inr (.inr (.inr ⟨rfl,hp2,aa H85,aa HX1,aa HX2⟩))
      case measure=>simp[intOf]
   .have hle:(b.size:Int)<=2:=by omega
    have HE:Hid (dE (nums b)=1):=by
     show dE (nums b)=1;have hd:(nums b).drop 2=[]:=List.drop_eq_nil_of_le (by rw[bU];omega);rw[Dc b hp,hd];have:=aa H85;simp[dE,this,aa HX1]
    go_wp2;refine aL (v:=.tuple #[.agg #[.int .i64 0,.int .i64 0,.slice none 0 0,.slice none 0 0,.string ⟨#[]⟩],.int .i64 1]) (by simp[results,Tryz.results29,go_sem]) rfl ⟨.inl ⟨by rw[HE.out];decide,by rw[HE.out]⟩,ji _ _ _⟩
  .have H85:=aj h85;have HX:=aj hx;have HY:=aj hy;obtain⟨b1,b2,b3,b4,b5,b6⟩:=pO hx hy;obtain⟨n,hn⟩:∃n:Nat,(b[1].toNat:Int)*(b[2].toNat:Int)=(n:Int):=⟨((b[1].toNat:Int)*(b[2].toNat:Int)).toNat,by omega⟩;have n36:n<=36:=by omega
   have HNN:Hid (((b[1].toNat:Int)*(b[2].toNat:Int)).toNat=n):=by show _=_;rw[hn];simp
   clear h85 hx hy;by_cases hl:(b.size:Int)<5+2*(n:Int)
   .have HE:Hid (dE (nums b)=1):=by
     show dE (nums b)=1;rw[vQ b hp];have h1:=aa H85;have h2:=aa HX;have h3:=aa HY;simp only[dE,h1,h2,h3,if_true];rw[aa HNN,tE,ag];rw[jy,bU];omega
    go_wp2;refine aL (v:=.tuple #[.agg #[.int .i64 0,.int .i64 0,.slice none 0 0,.slice none 0 0,.string ⟨#[]⟩],.int .i64 1]) (by simp[results,Tryz.results29,go_sem]) rfl ⟨.inl ⟨by rw[HE.out];decide,by rw[HE.out]⟩,ji _ _ _⟩
   .have i1:3+2*n<b.size:=by omega
    have i2:4+2*n<b.size:=by omega
    have i3:(3:Int)+2*(n:Int)<(b.size:Int):=by omega
    have i4:(4:Int)+2*(n:Int)<(b.size:Int):=by omega
    have v1:((b[3+2*n]'i1).toNat:Int)<=255:=by have:=(b[3+2*n]'i1).toNat_lt;omega
    have v2:((b[4+2*n]'i2).toNat:Int)<=255:=by have:=(b[4+2*n]'i2).toNat_lt;omega
    have x1:=Oh b (3+2*n) (3+2*(n:Int)) (by omega) i1;have x2:=Oh b (4+2*n) (4+2*(n:Int)) (by omega) i2;have HD:dE (nums b)=tE n ((nums b).drop 3):=by
     have e:=vQ b hp;rw[e];have h1:=aa H85;have h2:=aa HX;have h3:=aa HY;simp only[dE,h1,h2,h3,if_true];rw[aa HNN]
     conv=>rhs;rw[e]
     rfl
    have HT:=aj (NM b n i1 i2);rw[NM b n i1 i2]at HD;have w1:0<=((b[3+2*n]'i1).toNat:Int):=by omega
    have w2:0<=((b[4+2*n]'i2).toNat:Int):=by omega
    generalize ((b[3+2*n]'i1).toNat:Int)=y1 at x1 v1 w1 HD HT;generalize ((b[4+2*n]'i2).toNat:Int)=y2 at x2 v2 w2 HD HT
    replace HD:=aj HD
    by_cases c1:300<256*y1+y2
    .have HE:Hid (dE (nums b)=7):=by show dE (nums b)=7;rw[aa HD,ag (by omega)]
     go_wp2
     go_region
     go_wp2;refine aL (v:=.tuple #[.agg #[.int .i64 0,.int .i64 0,.slice none 0 0,.slice none 0 0,.string ⟨#[]⟩],.int .i64 7]) (by simp[results,Tryz.results29,go_sem]) rfl ⟨.inl ⟨by rw[HE.out];decide,by rw[HE.out]⟩,(ji _ _ _).drew⟩
    .by_cases c2:(b.size:Int)-5-2*(n:Int)<256*y1+y2
     .have HE:Hid (dE (nums b)=1):=by show dE (nums b)=1;rw[aa HD,ae (by omega),ag (by omega)]
      go_wp2
      go_region
      go_wp2;refine aL (v:=.tuple #[.agg #[.int .i64 0,.int .i64 0,.slice none 0 0,.slice none 0 0,.string ⟨#[]⟩],.int .i64 1]) (by simp[results,Tryz.results29,go_sem]) rfl ⟨.inl ⟨by rw[HE.out];decide,by rw[HE.out]⟩,(ji _ _ _).drew⟩
     .by_cases c3:256*y1+y2<(b.size:Int)-5-2*(n:Int)
      .have HE:Hid (dE (nums b)=5):=by show dE (nums b)=5;rw[aa HD,ae (by omega),ae (by omega),ag (by omega)]
       go_wp2
       go_region
       go_wp2;refine aL (v:=.tuple #[.agg #[.int .i64 0,.int .i64 0,.slice none 0 0,.slice none 0 0,.string ⟨#[]⟩],.int .i64 5]) (by simp[results,Tryz.results29,go_sem]) rfl ⟨.inl ⟨by rw[HE.out];decide,by rw[HE.out]⟩,(ji _ _ _).drew⟩
      .have HT0:Hid (tE n ((nums b).drop 3)=0):=by show _=_;rw[aa HT,ae (by omega),ae (by omega),ae (by omega)]
       have t1:=GU b 3 (3+n) 3 (3+(n:Int)) rfl (by omega) (by omega) (by omega);have t2:=GU b (3+n) (3+2*n) (3+(n:Int)) (3+2*(n:Int)) (by omega) (by omega) (by omega) (by omega);have t3:=PQ b (5+2*n) (5+2*(n:Int)) (by omega) (by omega);have z1:(b.extract 3 (3+n)).size=n:=by rw[ug];omega
       have z2:(b.extract (3+n) (3+2*n)).size=n:=by rw[ug];omega
       have L1:=jK b 3 (3+n);have L2:=jK b (3+n) (3+2*n);have L3:=jK b (5+2*n) b.size;generalize b.extract 3 (3+n)=S1 at t1 z1 L1;generalize b.extract (3+n) (3+2*n)=S2 at t2 z2 L2;generalize b.extract (5+2*n) b.size=S3 at t3 L3
       replace L1:=aj L1
       replace L2:=aj L2
       replace L3:=aj L3
       have m1:S1.size<=36:=by omega
       have m2:S2.size<=36:=by omega
       replace z1:=aj z1
       replace z2:=aj z2
       have n0:0<n:=by omega
       have wa1:=(yM (3+(n:Int)) (by omega) (by omega)).1;have wa2:=(yM (2*(n:Int)) (by omega) (by omega)).1;have wa3:=(yM (3+2*(n:Int)) (by omega) (by omega)).1;have wa4:=(yM (5+2*(n:Int)) (by omega) (by omega)).1;go_wp2
       go_region
       go_wp2;clear x1 x2 HD HT c1 c2 c3 hl;have hk0:=Rb w (.int .i64 0) (.int .i64 0) (.slice none 0 0) (.slice none 0 0) (.string ⟨#[]⟩) (.cells #[.int .i64 0,.int .i64 0,.slice none 0 0,.slice none 0 0,.string ⟨#[]⟩] 24)
       go_region_with (first|(go_at_call_of 49 (Value.string S1);refine(F8 S1 _ m1).mono ?_;rintro e u1 ⟨q1,rfl,own1,bel1⟩;rw[aa z1]at own1;obtain⟨g1,p1,rfl⟩:=NJ own1 n0;(first|(have hk1:=kM.later hk2 bel1 hk2.lt)|(have hk1:=kM.later hk0.drew.drew bel1 hk0.drew.drew.lt));obtain⟨⟨ka1,kb1,kc1,kd1,ke1⟩,fa1,fb1,fc1,fd1,fe1⟩:=hk1.all)|(go_at_call_of 49 (Value.string S2);refine(F8 S2 _ m2).mono ?_;rintro e u2 ⟨q2,rfl,own2,bel2⟩;rw[aa z2]at own2;obtain⟨g2,p2,rfl⟩:=NJ own2 n0;(first|(have hk2:=kM.later hk1 bel2 hk1.lt)|(have hk2:=kM.later hk0.drew.drew bel2 hk0.drew.drew.lt));obtain⟨⟨ka2,kb2,kc2,kd2,ke2⟩,fa2,fb2,fc2,fd2,fe2⟩:=hk2.all))
       go_wp2;have o1:=own1.lt g1 rfl;have o2:=own2.lt g2 rfl;have u1z:=bel1.size;simp only[World.size_drew,bE]at o1 u1z;have own1':=own1.kept (Gv bel2 none) (.inr (by simp[Value.ownBlock]));obtain⟨f0,f1,f2,f3,f4⟩:=(((((hk2.set0 (.int .i64 (b[1].toNat:Int))).set1 (.int .i64 (b[2].toNat:Int))).set2 (.slice (some ⟨g1,0,none⟩) n p1)).set3 (.slice (some ⟨g2,0,none⟩) n p2)).set4 (.string S3)).cells;have Hs:nums S3=((nums b).drop 3).drop (2+2*n):=by
        rw[aa L3,oD (by rw[jy,bU];omega),List.drop_drop,show 3+(2+2*n)=5+2*n by omega]
       have Hx:((nums b).drop 3).take n=nums S1:=by rw[aa L1,show 3+n-3=n by omega]
       have Hy:(((nums b).drop 3).drop n).take n=nums S2:=by rw[aa L2,List.drop_drop,show 3+2*n-(3+n)=n by omega]
       have Ix:=aF.of_own (gQ (a:=w.heap.size) (i:=4) (v:=.string S3) (by omega) (gQ (a:=w.heap.size) (i:=3) (v:=.slice (some ⟨g2,0,none⟩) n p2) (by omega) (gQ (a:=w.heap.size) (i:=2) (v:=.slice (some ⟨g1,0,none⟩) n p1) (by omega) (gQ (a:=w.heap.size) (i:=1) (v:=.int .i64 (b[2].toNat:Int)) (by omega) (gQ (a:=w.heap.size) (i:=0) (v:=.int .i64 (b[1].toNat:Int)) (by omega) own1')))));have Iy:=aF.of_own (gQ (a:=w.heap.size) (i:=4) (v:=.string S3) (by omega) (gQ (a:=w.heap.size) (i:=3) (v:=.slice (some ⟨g2,0,none⟩) n p2) (by omega) (gQ (a:=w.heap.size) (i:=2) (v:=.slice (some ⟨g1,0,none⟩) n p1) (by omega) (gQ (a:=w.heap.size) (i:=1) (v:=.int .i64 (b[2].toNat:Int)) (by omega) (gQ (a:=w.heap.size) (i:=0) (v:=.int .i64 (b[1].toNat:Int)) (by omega) own2)))));have hb2:Below w.heap.size w u2:=((ji w _ _).drew.drew.trans (bel1.mono (by simp;omega))).trans (bel2.mono (by omega));have Hb:=(((((hb2.setCell (p:=⟨w.heap.size,0,none⟩) (af _) (.int .i64 (b[1].toNat:Int))).setCell (p:=⟨w.heap.size,1,none⟩) (af _) (.int .i64 (b[2].toNat:Int))).setCell (p:=⟨w.heap.size,2,none⟩) (af _) (.slice (some ⟨g1,0,none⟩) n p1)).setCell (p:=⟨w.heap.size,3,none⟩) (af _) (.slice (some ⟨g2,0,none⟩) n p2)).setCell (p:=⟨w.heap.size,4,none⟩) (af _) (.string S3))
       refine aL (v:=.tuple #[.agg #[.int .i64 (b[1].toNat:Int),.int .i64 (b[2].toNat:Int),.slice (some ⟨g1,0,none⟩) n p1,.slice (some ⟨g2,0,none⟩) n p2,.string S3],.int .i64 0]) (by simp[results,Tryz.results29,go_sem,f0,f1,f2,f3,f4]) rfl ⟨.inr ⟨(b[1].toNat:Int),(b[2].toNat:Int),(nums b).drop 3,some ⟨g1,0,none⟩,some ⟨g2,0,none⟩,p1,p2,S3,?_,aa HX,aa HY,?_,?_,?_,?_,?_,λa e=>by cases e;show _<=g1;omega,λa e=>by cases e;show _<=g2;omega⟩,?_⟩
       .have e:=vQ b hp;rw[aa H85]at e;exact e
       .rw[aa HNN];exact aa HT0
       .rw[aa HNN]
       .rw[aa HNN];exact Hs
       .rw[aa HNN,Hx];exact Ix
       .rw[aa HNN,Hy];exact Iy
       .exact Hb
theorem Jp (b:ByteArray) (w:World) (hs:b.size<=maxLen) :
  Calls Tryz.prog 29 #[.string b] w λe w'=>mq w.heap.size (nums b) e w'/\Below w.heap.size w w':=by
 by_cases h0:b.size=0
 .obtain rfl:b=⟨#[]⟩:=ByteArray.ext (Array.eq_empty_of_size_eq_zero h0);exact Ji w
 .exact Mo b w hs (by omega)
theorem Nn (b:ByteArray) (w:World) (hs:b.size<=maxLen) :
  Calls Tryz.prog 32 #[.string b] w λe w'=>(mq w.heap.size (nums b) e w'/\Below w.heap.size w w')/\yZ w.heap.size e w':=by
 refine(Xe b w hs (nums b) rfl).mono ?_;rintro e w' ⟨h,hO⟩;refine⟨?_,hO⟩;clear hO;revert h;have hE:=Qh1 (nums b) (zk b);rintro(⟨h0,rfl,hb⟩|⟨h0,ao,bo,src,rfl,hsrc,hx,hy,hb,l1,l2⟩)
 .rw[hE]at h0 ⊢;exact⟨.inl ⟨h0,rfl⟩,hb⟩
 .rw[hE]at h0;obtain⟨x,y,M,hL,sx,sy,ht⟩:=Qa6 h0;obtain⟨r1,r2,r3,r4,r5,r6⟩:=Qb0 (x:=x) (y:=y) (M:=M) (by rw[<-hL];exact zk b) sx sy ht;rw[hL]at hsrc hx hy ⊢;rw[r4]at hx;rw[r5]at hy;rw[r6]at hsrc;rw[r1,r2,r3];exact⟨.inr ⟨x,y,M,ao,bo,_,_,src,rfl,sx,sy,ht,rfl,hsrc,hx,hy,l1,l2⟩,hb⟩
theorem mq.value {base:Nat} (h:mq base L e w'):∃x y a n c b m d s E,e=.returned (.tuple #[.agg #[.int .i64 x,.int .i64 y,.slice a n c,.slice b m d,.string s],.int .i64 E]):=by
 rcases h with⟨_,rfl⟩|⟨x,y,M,ao,bo,c,d,src,_,_,_,_,rfl,_⟩
 .exact⟨_,_,_,_,_,_,_,_,_,_,rfl⟩
 .exact⟨_,_,_,_,_,_,_,_,_,_,rfl⟩
theorem mq.later {base:Nat} {L:List Int} {e:Ending} {w w':World} (h:mq base L e w) (hb:Below w.heap.size w w'):mq base L e w':=by
 rcases h with⟨h0,rfl⟩|⟨x,y,M,ao,bo,c,d,src,h1,h2,h3,h4,rfl,h5,h6,h7,h8,h9⟩
 .exact .inl ⟨h0,rfl⟩
 .exact .inr ⟨x,y,M,ao,bo,c,d,src,h1,h2,h3,h4,rfl,h5,(h6.later hb (af _)).mono hb.size,(h7.later hb (af _)).mono hb.size,h8,h9⟩
theorem aF.set {B:Nat} {xs:List Int} {a:Nat} (h:aF B w ao xs) (hne:∀p,ao=some p->a<p.block):aF B (w.setCell ⟨a,i,none⟩ v) ao xs:=by
 rcases h with h|⟨b,off,h1,h2,h3⟩
 .exact .inl h
 .have hb:=hne _ h1;exact .inr ⟨b,off,h1,h2,λj hj=>(iY (w:=w) (ay _ _ _ _ (by show b≠a;have:a<b:=hb;omega))).trans (h3 j hj)⟩
theorem mq.set {base:Nat} {L:List Int} {e:Ending} {w:World} {a i:Nat} {v:Value} (h:mq base L e w) (ha:a<base):mq base L e (w.setCell ⟨a,i,none⟩ v):=by
 have hz:(w.setCell ⟨a,i,none⟩ v).heap.size=w.heap.size:=by simp
 rcases h with⟨h0,rfl⟩|⟨x,y,M,ao,bo,c,d,src,h1,h2,h3,h4,rfl,h5,h6,h7,h8,h9⟩
 .exact .inl ⟨h0,rfl⟩
 .refine .inr ⟨x,y,M,ao,bo,c,d,src,h1,h2,h3,h4,rfl,h5,?_,?_,h8,h9⟩
  .rw[hz];exact h6.set (λp hp=>by have:=h8 p hp;omega)
  .rw[hz];exact h7.set (λp hp=>by have:=h9 p hp;omega)
theorem yZ.set {base:Nat} {a:Nat} (h:yZ base e w) (ha:a<base):yZ base e (w.setCell ⟨a,i,none⟩ v):=by
 obtain⟨x,y,va,n,vb,m,s,E,xs,ys,rfl,h1,h2,h3⟩:=h;refine⟨x,y,va,n,vb,m,s,E,xs,ys,rfl,h1.kept (fK _ a i _) ?_,h2.kept (fK _ a i _) ?_,h3⟩
 .exact .inr λe=>by have:=(h1.lt a e).1;omega
 .exact .inr λe=>by have:=(h2.lt a e).1;omega
theorem yZ.base {base base':Nat} {e:Ending} {w:World} (h:yZ base e w) (hb:base'<=base):yZ base' e w:=by
 obtain⟨x,y,va,n,vb,m,s,E,xs,ys,rfl,h1,h2,h3⟩:=h;exact⟨x,y,va,n,vb,m,s,E,xs,ys,rfl,nk h1 hb,nk h2 hb,h3⟩
theorem mq.base {base base':Nat} {L:List Int} {e:Ending} {w:World} (h:mq base L e w) (hb:base'<=base):mq base' L e w:=by
 rcases h with⟨h0,rfl⟩|⟨x,y,M,ao,bo,c,d,src,h1,h2,h3,h4,rfl,h5,h6,h7,h8,h9⟩
 .exact .inl ⟨h0,rfl⟩
 .exact .inr ⟨x,y,M,ao,bo,c,d,src,h1,h2,h3,h4,rfl,h5,h6,h7,λa ha=>iJ hb (h8 a ha),λa ha=>iJ hb (h9 a ha)⟩
theorem GK (b:ByteArray) (w:World) (hs:b.size<=maxLen) :
  Calls Tryz.prog 16 #[.string b] w λe w'=>(mq w.heap.size (nums b) e w'/\Below w.heap.size w w')/\yZ w.heap.size e w':=by
 have hb0:∀o,Below w.heap.size w (w.alloc o):=λo=>(ax _ _).alloc (af _) o;have hk0:kM (w.alloc (.cells #[.int .i64 0,.int .i64 0,.slice none 0 0,.slice none 0 0,.string ⟨#[]⟩] 24)) w.heap.size (.int .i64 0) (.int .i64 0) (.slice none 0 0) (.slice none 0 0) (.string ⟨#[]⟩):=aA w _;go_enter Tryz.func16,Tryz.ntmps16;go_wp2_with fail;refine(Nn b _ hs).mono ?_;rintro e w1 ⟨⟨hd,hb⟩,hO⟩;obtain⟨x,y,a,n,c,b',m,d,s,E,rfl⟩:=hd.value;have hk:=hk0.later hb hk0.lt;have hb1:=(hb0 _).trans (hb.mono (by simp));have hd':=aj hd;simp only[bE]at hd';have hO':=aj hO;simp only[bE]at hO';obtain⟨⟨ka,kb,kc,kd,ke⟩,fa,fb,fc,fd,fe⟩:=hk.all;have hkf:=aj (((((hk.set0 (.int .i64 x)).set1 (.int .i64 y)).set2 (.slice a n c)).set3 (.slice b' m d)).set4 (.string s));clear hk0 hd hb hb0 hO;go_wp2;obtain⟨f0,f1,f2,f3,f4⟩:=(aa hkf).cells;refine aL (v:=.tuple #[.agg #[.int .i64 x,.int .i64 y,.slice a n c,.slice b' m d,.string s],.int .i64 E]) (by simp[results,Tryz.results16,go_sem,f0,f1,f2,f3,f4]) rfl ⟨⟨?_,?_⟩,?_⟩
 .exact((((((aa hd').set (by omega)).set (by omega)).set (by omega)).set (by omega)).set (by omega)).base (by omega)
 .exact((((hb1.setCell (af _) _).setCell (af _) _).setCell (af _) _).setCell (af _) _).setCell (af _) _
 .exact((((((aa hO').set (by omega)).set (by omega)).set (by omega)).set (by omega)).set (by omega)).base (by omega)
theorem Ql (b:ByteArray) (w:World) (hs:b.size<=maxLen) :
  Calls Tryz.prog 16 #[.string b] w λe w'=>mq w.heap.size (nums b) e w'/\Below w.heap.size w w':=(GK b w hs).mono λ_ _ h=>h.1
theorem Qd8 (w:World) (c0 c1 c2 c3 c4:Value):kM (w.alloc (.cells #[c0,c1,c2,c3,c4] 24)) w.heap.size c0 c1 c2 c3 c4:=aA w _
theorem Jk (W H:Int) (ao bo a2 b2:Option Addr) (c d c2 d2:Nat) (xs ys:List Int) (src:ByteArray) (w:World) (hx:aF w.heap.size w ao xs) (hy:aF w.heap.size w bo ys) (hx2:aF w.heap.size w a2 xs) (hy2:aF w.heap.size w b2 ys) (hlx:xs.length<=1000) (hly:ys.length<=1000) :
  Calls Tryz.prog 30 #[.agg #[.int .i64 W,.int .i64 H,.slice ao xs.length c,.slice bo ys.length d,.string src],.agg #[.int .i64 W,.int .i64 H,.slice a2 xs.length c2,.slice b2 ys.length d2,.string src]] w λe w'=>e=.returned (.bool true)/\Below w.heap.size w w':=by
 have hb:=λo1 o2=>ji w o1 o2;go_enter Tryz.func30,Tryz.ntmps30;go_wp2_with fail;refine(Mk ao a2 c c2 xs _ ((hx.later (hb _ _) (af _)).mono (by simp;omega)) ((hx2.later (hb _ _) (af _)).mono (by simp;omega)) hlx).mono ?_;rintro e w1 ⟨rfl,hb1⟩;have hk1:=(Rb w (.int .i64 W) (.int .i64 H) (.slice ao xs.length c) (.slice bo ys.length d) (.string src) (.cells #[.int .i64 W,.int .i64 H,.slice a2 xs.length c2,.slice b2 ys.length d2,.string src] 24)).later hb1 (by simp;omega);have hk2:=(Qd8 (w.alloc (.cells #[.int .i64 W,.int .i64 H,.slice ao xs.length c,.slice bo ys.length d,.string src] 24)) (.int .i64 W) (.int .i64 H) (.slice a2 xs.length c2) (.slice b2 ys.length d2) (.string src)).later hb1 (by simp);simp only[bE]at hk2;have hbw1:=(hb _ _).trans (hb1.mono (by simp;omega));obtain⟨⟨x0,x1,x2,x3,x4⟩,_⟩:=hk1.all;obtain⟨⟨y0,y1,y2,y3,y4⟩,_⟩:=hk2.all;have hz:=hk2.lt;clear hb hb1;go_wp2_with fail;refine(Mk bo b2 d d2 ys _ ((hy.later hbw1 (af _)).mono (by omega)) ((hy2.later hbw1 (af _)).mono (by omega)) hly).mono ?_;rintro e w2 ⟨rfl,hb2⟩
 replace hk1:=hk1.later hb2 hk1.lt
 replace hk2:=hk2.later hb2 hk2.lt
 have hbw2:=hbw1.trans (hb2.mono (by omega));clear x0 x1 x2 x3 x4 y0 y1 y2 y3 y4 hb2 hbw1;obtain⟨⟨x0,x1,x2,x3,x4⟩,_⟩:=hk1.all;obtain⟨⟨y0,y1,y2,y3,y4⟩,_⟩:=hk2.all;go_wp2;go_ret;exact⟨rfl,hbw2⟩
theorem YL (h:tE n M=0):2+2*n<=M.length:=by
 unfold tE at h;split at h
 .cases h
 .omega
theorem Pv {x y:Int} (hx:dz x=true) (hy:dz y=true):(x*y).toNat<=36:=by
 have:=pO hx hy;omega
theorem XA {b1 b2:Nat} {e1 e2:Ending} (h1:mq b1 L e1 w) (h2:mq b2 L e2 w) :
  ∃W H ao bo a2 b2 c d c2 d2 xs ys src E,e1=.returned (.tuple #[.agg #[.int .i64 W,.int .i64 H,.slice ao xs.length c,.slice bo ys.length d,.string src],.int .i64 E]) /\
   e2=.returned (.tuple #[.agg #[.int .i64 W,.int .i64 H,.slice a2 xs.length c2,.slice b2 ys.length d2,.string src],.int .i64 E]) /\
   aF w.heap.size w ao xs/\aF w.heap.size w bo ys/\aF w.heap.size w a2 xs/\aF w.heap.size w b2 ys/\xs.length<=1000/\ys.length<=1000:=by
 rcases h1 with⟨h0,rfl⟩|⟨x,y,M,ao,bo,c,d,src,hL,sx,sy,ht,rfl,hs,i1,i2,_,_⟩
 .rcases h2 with⟨_,rfl⟩|⟨x,y,M,ao,bo,c,d,src,hL,sx,sy,ht,rfl,_⟩
  .exact⟨0,0,none,none,none,none,0,0,0,0,[],[],⟨#[]⟩,dE L,rfl,rfl,.inl rfl,.inl rfl,.inl rfl,.inl rfl,by simp,by simp⟩
  .exact absurd (by rw[hL];simp[dE,sx,sy,ht]) h0
 .have hd:dE L=0:=by rw[hL];simp[dE,sx,sy,ht]
  rcases h2 with⟨h0,_⟩|⟨x',y',M',ao',bo',c',d',src',hL',sx',sy',ht',rfl,hs',i1',i2',_,_⟩
  .exact absurd hd h0
  .rw[hL]at hL';simp only[List.cons.injEq,true_and]at hL';obtain⟨rfl,rfl,rfl⟩:=hL';have hsrc:src=src':=by rw[<-AC src,<-AC src',hs,hs']
   subst hsrc;have hlen:=YL ht;have h36:=Pv sx sy;have l1:(M.take (x*y).toNat).length=(x*y).toNat:=by rw[List.length_take];omega
   have l2:((M.drop (x*y).toNat).take (x*y).toNat).length=(x*y).toNat:=by rw[List.length_take,jy];omega
   refine⟨x,y,ao,bo,ao',bo',c,d,c',d',M.take (x*y).toNat,(M.drop (x*y).toNat).take (x*y).toNat,src,0,?_,?_,i1,i2,i1',i2',by omega,by omega⟩
   .rw[l1,l2]
   .rw[l1,l2]
theorem OL (b:ByteArray) (w:World) (hs:b.size<=maxLen) :
  Calls Tryz.prog 14 #[.string b] w λe w'=>e=.returned (.bool true)/\Below w.heap.size w w':=by
 go_enter Tryz.func14,Tryz.ntmps14;go_wp2_with fail;refine(Ql b _ hs).mono ?_;rintro e w1 ⟨hd1,hb1⟩;obtain⟨x,y,a,n,c,b',m,d,s,E,rfl⟩:=hd1.value;go_wp2_with fail;have hk:=Qd8 w1 (.int .i64 x) (.int .i64 y) (.slice a n c) (.slice b' m d) (.string s);have hba:∀o,Below w1.heap.size w1 (w1.alloc o):=λo=>(ax _ _).alloc (af _) o;refine(Jp b _ hs).mono ?_;rintro e w2 ⟨hd2,hb2⟩
 replace hk:=hk.later hb2 hk.lt
 have hb12:=(hba _).trans (hb2.mono (by simp));obtain⟨W,H,ao,bo,a2,b2,c1,d1,c2,d2,xs,ys,src,E',h1,rfl,i1,i2,i3,i4,l1,l2⟩:=XA (hd1.later hb12) hd2;simp only[Ending.returned.injEq,Value.tuple.injEq,Array.mk.injEq,List.cons.injEq,Value.agg.injEq,Value.int.injEq,Value.slice.injEq,Value.string.injEq,true_and,and_true]at h1;obtain⟨⟨rfl,rfl,⟨rfl,rfl,rfl⟩,⟨rfl,rfl,rfl⟩,rfl⟩,rfl⟩:=h1;have hbw2:=hb1.trans (hb12.mono hb1.size);obtain⟨⟨k0,k1,k2,k3,k4⟩,_⟩:=hk.all;have hz:=hk.lt;clear hd1 hd2 hb1 hb2 hb12 hba hk;go_wp2_with fail;have hbc:∀o,Below w2.heap.size w2 (w2.alloc o):=λo=>(ax _ _).alloc (af _) o;refine(Jk x y a b' a2 b2 c d c2 d2 xs ys s _ ((i1.later (hbc _) (af _)).mono (by simp)) ((i2.later (hbc _) (af _)).mono (by simp)) ((i3.later (hbc _) (af _)).mono (by simp)) ((i4.later (hbc _) (af _)).mono (by simp)) l1 l2).mono ?_;rintro e w3 ⟨rfl,hb3⟩;have hbw3:=hbw2.trans (((hbc _).trans (hb3.mono (by simp))).mono hbw2.size);clear k0 k1 k2 k3 k4 i1 i2 i3 i4 hbw2 hbc hb3;go_wp2;go_ret;exact⟨rfl,hbw3⟩
end Go.Proofs.YthmmgiaobakilaaGreat
