import Derived.Test.YthmmgiaobakilaaGreatJ18
import Derived.Deep.QuietTactic
import Derived.BigQuiet
set_option maxRecDepth 100000
set_option maxHeartbeats 8000000
set_option linter.all false
namespace Go.Proofs.YthmmgiaobakilaaGreat
open Go.RowKit
variable {B wb:Nat} {acc:List aH} {ao:Option Addr} {b:Int} {hv lv ov rv sd so tv v:Value} {s:ByteArray} {w w':World} {xs:List Value}
theorem Rj (p:ByteArray->Bool):∀(l:List ByteArray) (k:Nat),k<l.length->(∀j,j<k->p (l.getD j ByteArray.empty)=false)->p (l.getD k ByteArray.empty)=true->(l.find? p).getD ⟨#[]⟩=l.getD k ByteArray.empty:=by
 intro l
 induction l with
 | nil=>intro k hk;simp at hk
 | cons x l ih=>
  intro k hk h1 h2
  cases k with
  | zero=>
   have:p x=true:=by simpa using h2
   simp[this]
  | succ k=>
   have hx:p x=false:=by simpa using h1 0 (by omega)
   have:=ih k (by simpa using hk) (λj hj=>by simpa using h1 (j+1) (by omega)) (by simpa using h2);simp only[List.find?_cons,hx];simpa using this
theorem Kk (p:ByteArray->Bool) (l:List ByteArray) (h:∀j,j<l.length->p (l.getD j ByteArray.empty)=false):(l.find? p).getD ⟨#[]⟩=⟨#[]⟩:=by
 have:l.find? p=none:=by
  rw[vD];intro x hx;obtain⟨j,hj,rfl⟩:=pV hx;have:=h j hj;simpa[List.getD,aU hj] using this
 rw[this];rfl
theorem dX {a:World} (h:Below B a w) (n:Nat):Below B a (w.drewN n):=⟨h.os,h.tape,h.output,h.size,h.block⟩
theorem Xq (s:ByteArray) (a:Nat) (w:World) (hs:s.size<=300) (ha:a<=s.size) :
  Calls Tryz.prog 41 #[.string s,.int .i64 a] w λe w'=>e=.returned (.string (iL s a))/\Below w.heap.size w w':=by
 obtain⟨bb,off,he,_,hcell⟩:=om.new w aY (w.heap.size+1) (by omega);simp only[ko,Addr.mk.injEq,and_true]at he;obtain⟨rfl,rfl⟩:=he;have hcell':∀j,j<18->(w.alloc (.cells (aY.map Value.string).toArray 9)).cell? ⟨w.heap.size,j,none⟩=some (.string (aY.getD j ByteArray.empty)):=λj hj=>by
  have:=hcell j hj;simpa using this
 have HC:=aj hcell';clear hcell hcell';go_enter Tryz.func41,Tryz.ntmps41;go_wp2
 go_loopw [6] (λi wr=>∃k:Nat,k<=18/\i=.int .i64 k/\(∀j,j<k->okS s a (aY.getD j ByteArray.empty)=false)/\Below (w.heap.size+1) (w.alloc (.cells (aY.map Value.string).toArray 9)) wr) (λi _=>18-(intOf i).toNat)
 case atStart=>exact⟨0,by omega,rfl,λj hj=>by omega,ax _ _⟩
 case round=>
  obtain⟨k,hk,rfl,hall,hnx⟩:=hrel;have HA:=aj hall;clear hall;have HB:Hid (Below w.heap.size w wr):=((ax w.heap.size w).alloc (af _) _).trans (hnx.mono (by omega));by_cases hlt:k<18
  .have hc:=(hnx.cell (p:=⟨w.heap.size,k,none⟩) (by simp)).trans (aa HC k hlt);have hz:=EZ k hlt;have HT:=aj (λh=>Rj (okS s a) aY k hlt (aa HA) h);have HF:Hid (okS s a (aY.getD k ByteArray.empty)=false->∀j,j<k+1->okS s a (aY.getD j ByteArray.empty)=false):=λh j hj=>by
    by_cases hjk:j<k
    .exact aa HA j hjk
    .have:j=k:=by omega
     subst this;exact h
   have HN:=aj hnx;clear hnx;have hk18:(k:Int)<18:=by omega
   generalize aY.getD k ByteArray.empty=g at hc hz HT HF;by_cases hfit:(a:Int)+(g.size:Int)<=(s.size:Int)
   .have hsl:=λu=>GU s a (a+g.size) (a:Int) ((a:Int)+(g.size:Int)) rfl (by omega) (by omega) (by omega) u;have HO:Hid (okS s a g=((s.extract a (a+g.size)).toList==g.toList)):=by show okS s a g=_;rw[okS,show decide (a+g.size<=s.size)=true by simp;omega];rfl
    generalize s.extract a (a+g.size)=piece at hsl HO
    cases he:(piece.toList==g.toList)
    .go_wp2
     go_quiet (fail)
     go_wp2
     go_roundw
     case rel=>exact⟨k+1,by omega,by go_num,aa HF (by rw[aa HO];exact he),dX (aa HN) _⟩
     case measure=>simp[intOf];omega
    .go_wp2
     go_quiet (fail)
     go_wp2;go_ret;refine⟨?_,dX (aa HB) _⟩;have e:iL s a=g:=aa HT (by rw[aa HO];exact he);rw[e];rfl
   .have hfit':decide ((a:Int)+(g.size:Int)<=(s.size:Int))=false:=by simpa using hfit
    have HO:Hid (okS s a g=false):=by show okS s a g=false;rw[okS,show decide (a+g.size<=s.size)=false by simp;omega];rfl
    go_wp2
    go_quiet (fail)
    go_wp2
    go_roundw
    case rel=>exact⟨k+1,by omega,by go_num,aa HF (aa HO),dX (aa HN) _⟩
    case measure=>simp[intOf];omega
  .have HT:=aj (Kk (okS s a) aY (λj hj=>aa HA j (by have:j<18:=hj;omega)));go_wp2;go_ret;refine⟨?_,aa HB⟩;have e:iL s a=⟨#[]⟩:=aa HT;rw[e];rfl
def ic (t:aH):List Value:=[.int .i64 t.kind,.int .i64 t.num,.int .i64 t.place,.string t.text]
def bX (l:List aH):List Value:=l.flatMap ic
theorem Hz (l:List aH) (t:aH):bX (l++[t])=bX l++ic t:=by simp[bX]
theorem VL:(Tryz.prog.info? 86).map (λi=>(i.zero,i.size,i.bytes))=some (some (.agg #[.int .i64 0,.int .i64 0,.int .i64 0,.string ⟨#[]⟩]),4,40):=by kernel_rfl
theorem UK {s:ByteArray} {f a:Nat} {acc:List aH} (ha:a<s.size) (h:nG s a=true):oN s (f+1) a acc=oN s f (a+1) acc:=by rw[oN,ag ha,ag h]
theorem XM {s:ByteArray} {f a:Nat} {acc:List aH} (ha:a<s.size) (h:nG s a=false) (h1:0<(jq s a).size):oN s (f+1) a acc=oN s f (a+(jq s a).size) (acc++[ql s a]):=by rw[oN,ag ha,ae (by simp[h]),ag h1]
theorem ZA {s:ByteArray} {f a:Nat} {acc:List aH} (ha:a<s.size) (h:nG s a=false) (h1:¬ 0<(jq s a).size) (h2:0<(gL s a).size) (h3:65535<sO (nums (gL s a))):oN s (f+1) a acc=(none,a):=by rw[oN,ag ha,ae (by simp[h]),ae h1,ag h2,ag h3]
theorem Qa4 {s:ByteArray} {f a:Nat} {acc:List aH} (ha:a<s.size) (h:nG s a=false) (h1:¬ 0<(jq s a).size) (h2:0<(gL s a).size) (h3:¬ 65535<sO (nums (gL s a))):oN s (f+1) a acc=oN s f (a+(gL s a).size) (acc++[DJ s a]):=by rw[oN,ag ha,ae (by simp[h]),ae h1,ag h2,ae h3]
theorem Yp {s:ByteArray} {f a:Nat} {acc:List aH} (ha:a<s.size) (h:nG s a=false) (h1:¬ 0<(jq s a).size) (h2:¬ 0<(gL s a).size) (h3:0<(iL s a).size):oN s (f+1) a acc=oN s f (a+(iL s a).size) (acc++[yU s a]):=by rw[oN,ag ha,ae (by simp[h]),ae h1,ae h2,ag h3]
theorem Wx {s:ByteArray} {f a:Nat} {acc:List aH} (ha:a<s.size) (h:nG s a=false) (h1:¬ 0<(jq s a).size) (h2:¬ 0<(gL s a).size) (h3:¬ 0<(iL s a).size):oN s (f+1) a acc=(none,a):=by rw[oN,ag ha,ae (by simp[h]),ae h1,ae h2,ae h3]
theorem YV {f a:Nat} (ha:¬ a<s.size):oN s f a acc=(some acc,a):=by
 cases f with
 | zero=>rfl
 | succ f=>rw[oN,ae ha]
theorem kZ (w:World) (n:Nat) (hn:n=w.heap.size) (cs:List Value) (T:TypeId):∀j u,cs[j]?=some u->(w.alloc (.cells cs.toArray T)).cell? ((⟨n,0,none⟩:Addr).add j)=some u:=by
 subst hn;exact Ho w cs T
theorem Cw (t:aH):∀u∈ic t,u.oneCell'=true:=by
 intro u hu;simp[ic]at hu;rcases hu with rfl|rfl|rfl|rfl<;>rfl
theorem Dr {base:Nat} {l:List aH} {t:aH} (h:w.ownsRow base 86 4 v (l.length+1) (bX l++ic t)):w.ownsRow base 86 4 v (l++[t]).length (bX (l++[t])):=by
 rw[Hz,iZ];exact h
theorem Yb (s:ByteArray) (a:Nat) (h:a<s.size):nG s a=((s[a].toNat:Int)==32||(s[a].toNat:Int)==10):=by rw[nG,Eo s a h]
def tu (base:Nat) (s:ByteArray) (e:Ending) (w':World):Prop:=
 match oN s s.size 0 [] with
 | (none,p)=>e=.returned (.tuple #[.slice none 0 0,.int .i64 8,.int .i64 p])
 | (some l,p)=>∃v,e=.returned (.tuple #[v,.int .i64 0,.int .i64 0])/\w'.ownsRow base 86 4 v (l.length+1) (bX (l++[aI p]))
theorem tu.none {base:Nat} {s:ByteArray} {p:Nat} {w':World} (h:oN s s.size 0 []=(Option.none,p)):tu base s (.returned (.tuple #[.slice Option.none 0 0,.int .i64 8,.int .i64 (p:Int)])) w':=by
 unfold tu;rw[h]
theorem tu.some {base:Nat} {s:ByteArray} {p:Nat} {l:List aH} {v:Value} {w':World} (h:oN s s.size 0 []=(Option.some l,p)) (ho:w'.ownsRow base 86 4 v (l.length+1) (bX (l++[aI p]))):tu base s (.returned (.tuple #[v,.int .i64 0,.int .i64 0])) w':=by
 unfold tu;rw[h];exact⟨v,rfl,ho⟩
theorem BU (s:ByteArray) (w:World) (hs:s.size<=300) :
  Calls Tryz.prog 24 #[.string s] w λe w'=>tu w.heap.size s e w'/\Below w.heap.size w w':=by
 obtain⟨i0,hi,hz0,hz1,hz2⟩:=dG VL;go_enter Tryz.func24,Tryz.ntmps24;go_wp2
 go_loopw [5,6] (λv i wr=>∃a f acc,a<=s.size/\s.size-a<=f/\i=.int .i64 (a:Int)/\acc.length<=a/\oN s f a acc=oN s s.size 0 []/\wr.ownsRow w.heap.size 86 4 v acc.length (bX acc)/\Below w.heap.size w wr) (λ_ i _=>s.size-(intOf i).toNat)
 case atStart=>exact⟨0,s.size,[],by omega,by omega,rfl,by simp,rfl,fD w w.heap.size 86 4,ax _ _⟩
 case round=>
  obtain⟨a,f,acc,ha,hf,rfl,hacc,hlex,own,hnx⟩:=hrel;have HL:=aj hlex;clear hlex;have hwz:=hnx.size;by_cases hlt:a<s.size
  .obtain⟨f',rfl⟩:∃f',f=f'+1:=⟨f-1,by omega⟩;have hws:=xY s a ha;have hns:=Ai s a ha;have hss:=Bg s a;have hb0:((s[a]'hlt).toNat:Int)<=255:=by have:=(s[a]'hlt).toNat_lt;omega
   go_wp2_with fail;refine(Sm s a false _ hs ha).mono ?_;rintro e w1 ⟨rfl,hw1⟩;obtain rfl:=hw1.symm;go_wp2_with fail;refine(Sm s a true _ hs ha).mono ?_;rintro e w1 ⟨rfl,hw1⟩;obtain rfl:=hw1.symm;go_wp2_with fail;refine(Xq s a _ hs ha).mono ?_;rintro e w1 ⟨rfl,hb1⟩;have own1:=own.kept ⟨hb1.os,hb1.tape,hb1.output,hb1.size,λk hk _=>hb1.block k hk⟩ (row:=none) (by cases u5.ownBlock<;>simp);have hnx1:=hnx.trans (hb1.mono hwz);have hwz1:w.heap.size<=w1.heap.size:=by have:=hb1.size;omega
   clear own hnx hb1 hwz;have HB:=aj (Yb s a hlt);have eW:s.extract a (a+oJ false ((nums s).drop a))=jq s a:=rfl;have eN:s.extract a (a+oJ true ((nums s).drop a))=gL s a:=rfl;rw[eW,eN];have X1:=aj (@UK s f' a acc hlt);have X2:=aj (@XM s f' a acc hlt);have X3:=aj (@ZA s f' a acc hlt);have X4:=aj (@Qa4 s f' a acc hlt);have X5:=aj (@Yp s f' a acc hlt);have X6:=aj (@Wx s f' a acc hlt);have DG:=aj (za s a);have VB:=zY (nums (gL s a)) (za s a);have eWT:Hid (ql s a=⟨if dI (jq s a) qg then 0 else 1,0,a,jq s a⟩):=rfl;have eNT:Hid (DJ s a=⟨2,sO (nums (gL s a)),a,gL s a⟩):=rfl;have eST:Hid (yU s a=⟨3,0,a,iL s a⟩):=rfl;generalize jq s a=wd at *;generalize gL s a=nm at *;generalize iL s a=sg at *;clear eW eN;have hemp:∀t:ByteArray,t.toList.isEmpty=decide (t.size=0):=λt=>by
    rw[aJ]
    cases h:t.data.toList with
    | nil=>
     have e:t.size=0:=by
      have:=dO List.length h;simpa using this
     simp[e]
    | cons x l=>
     have e:t.size≠0:=by
      have:=dO List.length h;simp at this;omega
     simp[e]
   have ew:=hemp wd;have en:=hemp nm;have es:=hemp sg;clear hemp;by_cases hbl:nG s a=true
   .have HL1:=aj ((aa X1 hbl).symm.trans (aa HL));rw[aa HB]at hbl;have HR:Hid _:=And.intro own1 hnx1;clear own1 hnx1 ew en es
    cases h32:((s[a]'hlt).toNat:Int)==32
    .have h10:(((s[a]'hlt).toNat:Int)==10)=true:=by simpa[h32] using hbl
     clear hbl;go_wp2
     go_roundw
     case rel=>exact⟨a+1,f',acc,by omega,by omega,by go_num,by omega,aa HL1,(aa HR).1,(aa HR).2⟩
     case measure=>simp[intOf];omega
    .clear hbl;go_wp2
     go_roundw
     case rel=>exact⟨a+1,f',acc,by omega,by omega,by go_num,by omega,aa HL1,(aa HR).1,(aa HR).2⟩
     case measure=>simp[intOf];omega
   .have hbl':nG s a=false:=by simpa using hbl
    clear hbl;have h32:(((s[a]'hlt).toNat:Int)==32)=false:=by
     have:=hbl';rw[aa HB]at this
     cases h:(((s[a]'hlt).toNat:Int)==32)
     .rfl
     .rw[h]at this;cases this
    have h10:(((s[a]'hlt).toNat:Int)==10)=false:=by
     have:=hbl';rw[aa HB,h32]at this;simpa using this
    by_cases hw0:0<wd.size
    .have ew':wd.toList.isEmpty=false:=by rw[ew];exact pJ (by omega)
     clear ew en es;have HL1:=aj ((aa X2 hbl' hw0).symm.trans (aa HL));rw[aa eWT]at HL1;go_wp2_with fail;refine(TZ wd (some ⟨w1.heap.size+1,0,none⟩) 12 qg _ (om.newAt _ qg _ _ (by simp) (by simp)) (by decide)).mono ?_;rintro e w2 ⟨rfl,rfl⟩
     cases hm:dI wd qg
     .rw[hm]at HL1;go_wp2_with (at_builtin;refine pX _ rfl (.tmp 51) (.tmp 53) 53 rfl w.heap.size 86 i0 (.agg #[.int .i64 0,.int .i64 0,.int .i64 0,.string ⟨#[]⟩]) 4 40 Tryz.underlying53 hi hz0 hz1 hz2 rfl (by decide) _ _ _ rfl (((own1.alloc _).alloc _).alloc _) ⟨w1.heap.size+1+1,0,none⟩ 1 1 (ic (⟨1,0,(a:Int),wd⟩:aH)) rfl rfl ?c1 ?c2 ?c3 ?c4 ?c5 ?_)
      case c1=>exact kZ _ _ (by simp) (ic (⟨1,0,(a:Int),wd⟩:aH)) _
      case c2=>exact Cw _
      case c3=>unfold maxLen;omega
      case c4=>omega
      case c5=>simp;omega
      intro v' w2 h1 hg _;have R:w2.ownsRow w.heap.size 86 4 v' (acc++[(⟨1,0,(a:Int),wd⟩:aH)]).length (bX (acc++[(⟨1,0,(a:Int),wd⟩:aH)])):=Dr h1;have R2:Below w.heap.size w w2:=(((hnx1.alloc hwz1 _).alloc (by simp;omega) _).alloc (by simp;omega) _).grown hg (by simp;omega) (λq hq=>(own1.lt q hq).1);clear h1 hg own1 hnx1;go_wp2
      go_roundw
      case rel=>exact⟨a+wd.size,f',acc++[(⟨1,0,(a:Int),wd⟩:aH)],by omega,by omega,by go_num,by simp;omega,aa HL1,R,R2⟩
      case measure=>simp[intOf];omega
     .rw[hm]at HL1;go_wp2_with (at_builtin;refine pX _ rfl (.tmp 51) (.tmp 53) 53 rfl w.heap.size 86 i0 (.agg #[.int .i64 0,.int .i64 0,.int .i64 0,.string ⟨#[]⟩]) 4 40 Tryz.underlying53 hi hz0 hz1 hz2 rfl (by decide) _ _ _ rfl (((own1.alloc _).alloc _).alloc _) ⟨w1.heap.size+1+1,0,none⟩ 1 1 (ic (⟨0,0,(a:Int),wd⟩:aH)) rfl rfl ?c1 ?c2 ?c3 ?c4 ?c5 ?_)
      case c1=>exact kZ _ _ (by simp) (ic (⟨0,0,(a:Int),wd⟩:aH)) _
      case c2=>exact Cw _
      case c3=>unfold maxLen;omega
      case c4=>omega
      case c5=>simp;omega
      intro v' w2 h1 hg _;have R:w2.ownsRow w.heap.size 86 4 v' (acc++[(⟨0,0,(a:Int),wd⟩:aH)]).length (bX (acc++[(⟨0,0,(a:Int),wd⟩:aH)])):=Dr h1;have R2:Below w.heap.size w w2:=(((hnx1.alloc hwz1 _).alloc (by simp;omega) _).alloc (by simp;omega) _).grown hg (by simp;omega) (λq hq=>(own1.lt q hq).1);clear h1 hg own1 hnx1;go_wp2
      go_roundw
      case rel=>exact⟨a+wd.size,f',acc++[(⟨0,0,(a:Int),wd⟩:aH)],by omega,by omega,by go_num,by simp;omega,aa HL1,R,R2⟩
      case measure=>simp[intOf];omega
    .have ew':wd.toList.isEmpty=true:=by rw[ew];exact jP (by omega)
     clear ew;by_cases hn0:0<nm.size
     .have en':nm.toList.isEmpty=false:=by rw[en];exact pJ (by omega)
      clear en es;rw[aa eNT]at X4;go_wp2_with fail;refine(TB nm _ (by omega) (aa DG)).mono ?_;rintro e w2 ⟨rfl,rfl⟩;generalize sO (nums nm)=nv at *;obtain⟨vb1,vb2⟩:=VB;by_cases hbig:65535<nv
      .have HE:=aj ((aa HL).symm.trans (aa X3 hbl' hw0 hn0 hbig));go_wp2
       go_ret3
       exact⟨tu.none (aa HE),hnx1.alloc hwz1 _⟩
      .have HL1:=aj ((aa X4 hbl' hw0 hn0 (by omega)).symm.trans (aa HL));go_wp2_with (at_builtin;refine pX _ rfl (.tmp 72) (.tmp 74) 53 rfl w.heap.size 86 i0 (.agg #[.int .i64 0,.int .i64 0,.int .i64 0,.string ⟨#[]⟩]) 4 40 Tryz.underlying53 hi hz0 hz1 hz2 rfl (by decide) _ _ _ rfl ((own1.alloc _).alloc _) ⟨w1.heap.size+1,0,none⟩ 1 1 (ic (⟨2,nv,(a:Int),nm⟩:aH)) rfl rfl ?c1 ?c2 ?c3 ?c4 ?c5 ?_)
       case c1=>exact kZ _ _ (by simp) (ic (⟨2,nv,(a:Int),nm⟩:aH)) _
       case c2=>exact Cw _
       case c3=>unfold maxLen;omega
       case c4=>omega
       case c5=>simp;omega
       intro v' w2 h1 hg _;have R:w2.ownsRow w.heap.size 86 4 v' (acc++[(⟨2,nv,(a:Int),nm⟩:aH)]).length (bX (acc++[(⟨2,nv,(a:Int),nm⟩:aH)])):=Dr h1;have R2:Below w.heap.size w w2:=((hnx1.alloc hwz1 _).alloc (by simp;omega) _).grown hg (by simp;omega) (λq hq=>(own1.lt q hq).1);clear h1 hg own1 hnx1;go_wp2
       go_roundw
       case rel=>exact⟨a+nm.size,f',acc++[(⟨2,nv,(a:Int),nm⟩:aH)],by omega,by omega,by go_num,by simp;omega,aa HL1,R,R2⟩
       case measure=>simp[intOf];omega
     .have en':nm.toList.isEmpty=true:=by rw[en];exact jP (by omega)
      clear en;by_cases hs0:0<sg.size
      .have es':sg.toList.isEmpty=false:=by rw[es];exact pJ (by omega)
       have HL1:=aj ((aa X5 hbl' hw0 hn0 hs0).symm.trans (aa HL));rw[aa eST]at HL1;have hsl:a+sg.size<=s.size:=hss.2 hs0;clear es;go_wp2_with (at_builtin;refine pX _ rfl (.tmp 83) (.tmp 87) 53 rfl w.heap.size 86 i0 (.agg #[.int .i64 0,.int .i64 0,.int .i64 0,.string ⟨#[]⟩]) 4 40 Tryz.underlying53 hi hz0 hz1 hz2 rfl (by decide) _ _ _ rfl (own1.alloc _) ⟨w1.heap.size,0,none⟩ 1 1 (ic (⟨3,0,(a:Int),sg⟩:aH)) rfl rfl ?c1 ?c2 ?c3 ?c4 ?c5 ?_)
       case c1=>exact kZ _ _ (by simp) (ic (⟨3,0,(a:Int),sg⟩:aH)) _
       case c2=>exact Cw _
       case c3=>unfold maxLen;omega
       case c4=>omega
       case c5=>simp;omega
       intro v' w2 h1 hg _;have R:w2.ownsRow w.heap.size 86 4 v' (acc++[(⟨3,0,(a:Int),sg⟩:aH)]).length (bX (acc++[(⟨3,0,(a:Int),sg⟩:aH)])):=Dr h1;have R2:Below w.heap.size w w2:=(hnx1.alloc hwz1 _).grown hg (by simp;omega) (λq hq=>(own1.lt q hq).1);clear h1 hg own1 hnx1;go_wp2
       go_roundw
       case rel=>exact⟨a+sg.size,f',acc++[(⟨3,0,(a:Int),sg⟩:aH)],by omega,by omega,by go_num,by simp;omega,aa HL1,R,R2⟩
       case measure=>simp[intOf];omega
      .have es':sg.toList.isEmpty=true:=by rw[es];exact jP (by omega)
       have HE:=aj ((aa HL).symm.trans (aa X6 hbl' hw0 hn0 hs0));clear es;go_wp2
       go_ret3
       exact⟨tu.none (aa HE),hnx1⟩
  .have HE:=aj ((aa HL).symm.trans (YV hlt));have own1:=own;have hnx1:=hnx;clear own hnx;go_wp2_with (at_builtin;refine pX _ rfl (.tmp 93) (.tmp 96) 53 rfl w.heap.size 86 i0 (.agg #[.int .i64 0,.int .i64 0,.int .i64 0,.string ⟨#[]⟩]) 4 40 Tryz.underlying53 hi hz0 hz1 hz2 rfl (by decide) _ _ _ rfl (own1.alloc _) ⟨wr.heap.size,0,none⟩ 1 1 (ic (aI a)) rfl rfl ?c1 ?c2 ?c3 ?c4 ?c5 ?_)
   case c1=>exact kZ _ _ (by simp) (ic (aI a)) _
   case c2=>exact Cw _
   case c3=>unfold maxLen;omega
   case c4=>omega
   case c5=>simp;omega
   intro v' w2 h1 hg _;have R:w2.ownsRow w.heap.size 86 4 v' (acc++[(aI a)]).length (bX (acc++[(aI a)])):=Dr h1;have R2:Below w.heap.size w w2:=(hnx1.alloc hwz _).grown hg (by simp;omega) (λq hq=>(own1.lt q hq).1);clear h1 hg own1 hnx1;go_wp2
   go_ret3
   exact⟨tu.some (aa HE) (by simpa using R),R2⟩
structure bQ where
 name:ByteArray
 val:Int
 hid:Bool
 free:Bool
variable {c:bQ} {l:List bQ}
def dF (c:bQ):List Value:=[.string c.name,.int .i64 c.val,.bool c.hid,.bool c.free]
def bG (l:List bQ):List Value:=l.flatMap dF
def qm (t:Int×Int):List Value:=[.int .i64 t.1,.int .i64 t.2]
def mF (l:List (Int×Int)):List Value:=l.flatMap qm
structure bB where
 toks:List aH
 mode:Int
 sw:Int
 sh:Int
 opens:List Int
 hids:List Int
 src:ByteArray
 point:Int
variable {E:bB}
structure St where
 fault:Int
 place:Int
 cells:List bQ
 steps:Int
 touched:Int
 trace:List (Int×Int)
 opn:List Int
 hid:List Int
 dead:Bool
variable {σ:St}
def ny (a b:Value):Prop:=a.ownBlock=none∨a.ownBlock≠b.ownBlock
structure gM (w:World) (wb:Nat) (HS:List (Nat×Obj)) (E:bB) (σ:St) (tv lv so sd ov hv rv:Value):Prop where
 blk:w.heap[wb]?=some (.cells #[tv,.int .i64 E.mode,.int .i64 σ.fault,.int .i64 σ.place,lv,.int .i64 E.sw,.int .i64 E.sh,so,sd,.string E.src,ov,hv,.int .i64 σ.steps,.int .i64 σ.touched,rv,.int .i64 E.point,.bool σ.dead] 59 (0,0))
 tokens:w.ownsRow 0 86 4 tv E.toks.length (bX E.toks)
 tokLow:∀k,tv.ownBlock=some k->k<wb
 tokSome:0<E.toks.length
 tokFew:E.toks.length<=1000
 rowL:w.ownsRow (wb+1) 91 4 lv σ.cells.length (bG σ.cells)
 rowR:w.ownsRow (wb+1) 61 2 rv σ.trace.length (mF σ.trace)
 rowO:w.ownsRow (wb+1) 3 1 ov σ.opn.length (σ.opn.map (Value.int .i64))
 rowH:w.ownsRow (wb+1) 3 1 hv σ.hid.length (σ.hid.map (Value.int .i64))
 apLR:ny lv rv
 apLO:ny lv ov
 apLH:ny lv hv
 apRO:ny rv ov
 apRH:ny rv hv
 apOH:ny ov hv
 ints1:∃ao c,so=.slice ao E.opens.length c/\aF wb w ao E.opens
 ints2:∃ao c,sd=.slice ao E.hids.length c/\aF wb w ao E.hids
 held:∀p∈HS,w.heap[p.1]?=some p.2/\p.1≠wb/\lv.ownBlock≠some p.1/\rv.ownBlock≠some p.1/\ov.ownBlock≠some p.1/\hv.ownBlock≠some p.1
def Wk (w:World) (wb:Nat) (HS:List (Nat×Obj)) (E:bB) (σ:St):Prop:=∃tv lv so sd ov hv rv,gM w wb HS E σ tv lv so sd ov hv rv
section
variable {w:World} {wb:Nat} {HS:List (Nat×Obj)} {E:bB} {σ:St} {tv lv so sd ov hv rv:Value}
theorem gM.cell (h:gM w wb HS E σ tv lv so sd ov hv rv) (i:Nat):w.cell? ⟨wb,i,none⟩=#[tv,.int .i64 E.mode,.int .i64 σ.fault,.int .i64 σ.place,lv,.int .i64 E.sw,.int .i64 E.sh,so,sd,.string E.src,ov,hv,.int .i64 σ.steps,.int .i64 σ.touched,rv,.int .i64 E.point,.bool σ.dead][i]?:=by
 simp only[World.cell?];rw[h.blk];simp
theorem gM.thaw (h:gM w wb HS E σ tv lv so sd ov hv rv) (i:Nat):w.frozen? ⟨wb,i,none⟩=false:=by
 simp only[World.frozen?];rw[h.blk];simp
theorem gM.lt (h:gM w wb HS E σ tv lv so sd ov hv rv):wb<w.heap.size:=(az.1 h.blk).1
theorem gM.tokv (h:gM w wb HS E σ tv lv so sd ov hv rv):∃tb cap,tv=.slice (some ⟨tb,0,none⟩) E.toks.length cap/\tb<wb:=by
 rcases h.tokens.2 with⟨_,h0⟩|⟨g,cap,cur,rfl,_⟩
 .have:=h.tokSome;omega
 .exact⟨g,cap,rfl,h.tokLow g rfl⟩
end
theorem Qo5 (l:List aH) (i:Nat) (h:i<l.length):(bX l)[i*4]?=some (.int .i64 (l[i]).kind)/\(bX l)[i*4+1]?=some (.int .i64 (l[i]).num)/\(bX l)[i*4+2]?=some (.int .i64 (l[i]).place)/\(bX l)[i*4+3]?=some (.string (l[i]).text):=by
 induction l generalizing i with
 | nil=>simp at h
 | cons t l ih=>
  cases i with
  | zero=>simp[bX,ic]
  | succ i=>
   have hi:=ih i (by simpa using h);have e:∀k,(bX (t::l))[(i+1)*4+k]?=(bX l)[i*4+k]?:=λk=>by
    have:bX (t::l)=ic t++bX l:=by simp[bX]
    rw[this,vK (by simp[ic];omega)];simp only[ic,kr,mJ];congr 1;omega
   have e0:=e 0;simp only[jA]at e0;rw[e0,e 1,e 2,e 3];simpa using hi
def aT (E:bB) (i:Nat):aH:=E.toks.getD i ⟨4,0,0,⟨#[]⟩⟩
theorem gM.tokcell {HS:List (Nat×Obj)} {tb cap:Nat} (h:gM w wb HS E σ (.slice (some ⟨tb,0,none⟩) E.toks.length cap) lv so sd ov hv rv) (i:Nat) (hi:i<E.toks.length) :
  w.cell? ⟨tb,i*4,none⟩=some (.int .i64 (aT E i).kind)/\w.cell? ⟨tb,i*4+1,none⟩=some (.int .i64 (aT E i).num)/\w.cell? ⟨tb,i*4+2,none⟩=some (.int .i64 (aT E i).place)/\w.cell? ⟨tb,i*4+3,none⟩=some (.string (aT E i).text):=by
 obtain⟨a,b,c,d⟩:=Qo5 E.toks i hi;have e:aT E i=E.toks[i]:=by simp[aT,List.getD,aU hi]
 rw[e];refine⟨?_,?_,?_,?_⟩
 .rw[h.tokens.cellAt _ (by omega)];exact a
 .rw[h.tokens.cellAt _ (by omega)];exact b
 .rw[h.tokens.cellAt _ (by omega)];exact c
 .rw[h.tokens.cellAt _ (by omega)];exact d
variable {HS:List (Nat×Obj)}
theorem tL (w:World) (wb:Nat) (E:bB) (σ:St) (h:Wk w wb HS E σ) :
  Calls Tryz.prog 70 #[.pointer (some ⟨wb,0,none⟩)] w λe w'=>e=.returned (.int .i64 ((E.toks.length:Int)-1))/\w'=w:=by
 obtain⟨tv,lv,so,sd,ov,hv,rv,h⟩:=h;obtain⟨tb,cap,rfl,htb⟩:=h.tokv;have c0:=h.cell 0;have hl:=h.tokFew;simp at c0;clear h;go_enter Tryz.func70,Tryz.ntmps70;go_wp2;go_ret;exact⟨rfl,rfl⟩
def kQ (E:bB) (σ:St):Bool:=(E.mode==0)&&(σ.fault != 0)
theorem dH (w:World) (wb:Nat) (E:bB) (σ:St) (h:Wk w wb HS E σ) :
  Calls Tryz.prog 46 #[.pointer (some ⟨wb,0,none⟩)] w λe w'=>e=.returned (.bool (kQ E σ))/\w'=w:=by
 obtain⟨tv,lv,so,sd,ov,hv,rv,h⟩:=h;have c1:=h.cell 1;have c2:=h.cell 2;simp at c1 c2;clear h
 cases hm:(E.mode==0)
 .go_enter Tryz.func46,Tryz.ntmps46;go_wp2;go_ret;exact⟨cO (by simp[kQ,hm]),rfl⟩
 .go_enter Tryz.func46,Tryz.ntmps46;go_wp2;go_ret;exact⟨cO (by simp[kQ,hm]),rfl⟩
def oF (E:bB) (σ:St) (i:Nat) (s:ByteArray):Bool:=!kQ E σ&&(((aT E i).kind==3)||((aT E i).kind==0))&&((aT E i).text.toList==s.toList)
theorem fM (w:World) (wb:Nat) (E:bB) (σ:St) (i:Nat) (s:ByteArray) (h:Wk w wb HS E σ) (hi:i<E.toks.length) :
  Calls Tryz.prog 44 #[.pointer (some ⟨wb,0,none⟩),.int .i64 (i:Int),.string s] w λe w'=>e=.returned (.bool (oF E σ i s))/\w'=w:=by
 have h':=h;obtain⟨tv,lv,so,sd,ov,hv,rv,h⟩:=h;obtain⟨tb,cap,rfl,htb⟩:=h.tokv;have c0:=h.cell 0;simp at c0;obtain⟨t0,t1,t2,t3⟩:=h.tokcell i hi;have hl:=h.tokFew;clear h t1 t2;unfold oF;generalize (aT E i).kind=k at *;generalize (aT E i).text=tx at *
 cases hst:kQ E σ
 .cases hk3:(k==3)
  .cases hk0:(k==0)
   .go_enter Tryz.func44,Tryz.ntmps44;go_wp2_with fail;refine(dH _ wb E σ h').mono ?_;rintro e w1 ⟨rfl,rfl⟩;rw[hst];go_wp2;go_ret;exact⟨cO (by simp),rfl⟩
   .go_enter Tryz.func44,Tryz.ntmps44;go_wp2_with fail;refine(dH _ wb E σ h').mono ?_;rintro e w1 ⟨rfl,rfl⟩;rw[hst];go_wp2;go_ret;exact⟨cO (by simp),rfl⟩
  .go_enter Tryz.func44,Tryz.ntmps44;go_wp2_with fail;refine(dH _ wb E σ h').mono ?_;rintro e w1 ⟨rfl,rfl⟩;rw[hst];go_wp2;go_ret;exact⟨cO (by simp),rfl⟩
 .go_enter Tryz.func44,Tryz.ntmps44;go_wp2_with fail;refine(dH _ wb E σ h').mono ?_;rintro e w1 ⟨rfl,rfl⟩;rw[hst];go_wp2;go_ret;exact⟨cO (by simp),rfl⟩
variable {HS:List (Nat×Obj)}
theorem bT {base e size n:Nat} (h:w.ownsRow base e size v n xs) (hs:∀k,v.ownBlock=some k->w'.heap[k]?=w.heap[k]?):w'.ownsRow base e size v n xs:=by
 refine⟨h.1,?_⟩;rcases h.2 with hn|⟨g,cap,cur,rfl,hb,hgg,rest⟩
 .exact .inl hn
 .exact .inr ⟨g,cap,cur,rfl,hb,(hs g rfl).trans hgg,rest⟩
theorem aF.same {xs:List Int} (h:aF B w ao xs) (hs:∀k,k<B->w'.heap[k]?=w.heap[k]?):aF B w' ao xs:=by
 rcases h with h|⟨b,off,h1,h2,h3⟩
 .exact .inl h
 .exact .inr ⟨b,off,h1,h2,λj hj=>(iY (w:=w) (hs b h2)).trans (h3 j hj)⟩
theorem gM.turn (h:gM w wb HS E σ tv lv so sd ov hv rv) (σ':St) (hc:σ'.cells=σ.cells) (ht:σ'.trace=σ.trace) (ho:σ'.opn=σ.opn) (hh:σ'.hid=σ.hid)
  (hblk:w'.heap[wb]?=some (.cells #[tv,.int .i64 E.mode,.int .i64 σ'.fault,.int .i64 σ'.place,lv,.int .i64 E.sw,.int .i64 E.sh,so,sd,.string E.src,ov,hv,.int .i64 σ'.steps,.int .i64 σ'.touched,rv,.int .i64 E.point,.bool σ'.dead] 59 (0,0)))
  (hoth:∀k,k≠wb->w'.heap[k]?=w.heap[k]?):gM w' wb HS E σ' tv lv so sd ov hv rv:=by
 have low:∀k,k<wb->w'.heap[k]?=w.heap[k]?:=λk hk=>hoth k (by omega);refine⟨hblk,bT h.tokens (λk hk=>low k (h.tokLow k hk)),h.tokLow,h.tokSome,h.tokFew,?_,?_,?_,?_,h.apLR,h.apLO,h.apLH,h.apRO,h.apRH,h.apOH,?_,?_,λp hp=>⟨(hoth p.1 (h.held p hp).2.1).trans (h.held p hp).1,(h.held p hp).2⟩⟩
 .rw[hc];exact bT h.rowL (λk hk=>hoth k (by have:=(h.rowL.lt k hk).1;omega))
 .rw[ht];exact bT h.rowR (λk hk=>hoth k (by have:=(h.rowR.lt k hk).1;omega))
 .rw[ho];exact bT h.rowO (λk hk=>hoth k (by have:=(h.rowO.lt k hk).1;omega))
 .rw[hh];exact bT h.rowH (λk hk=>hoth k (by have:=(h.rowH.lt k hk).1;omega))
 .obtain⟨ao,c,e,hi⟩:=h.ints1;exact⟨ao,c,e,hi.same low⟩
 .obtain⟨ao,c,e,hi⟩:=h.ints2;exact⟨ao,c,e,hi.same low⟩
theorem Wk.drewN {w:World} {wb:Nat} {E:bB} {σ:St} (h:Wk w wb HS E σ) (n:Nat):Wk (w.drewN n) wb HS E σ:=by
 obtain⟨tv,lv,so,sd,ov,hv,rv,h⟩:=h;exact⟨tv,lv,so,sd,ov,hv,rv,h.turn σ rfl rfl rfl rfl h.blk (λ_ _=>rfl)⟩
def bR (E:bB) (σ:St) (i:Nat) (e:Int):St:=if σ.fault=0∨(aT E i).place<σ.place then { σ with fault:=e,place:=(aT E i).place } else σ
theorem iR (w:World) (wb:Nat) (E:bB) (σ:St) (i:Nat) (er:Int) (h:Wk w wb HS E σ) (hi:i<E.toks.length) :
  Calls Tryz.prog 77 #[.pointer (some ⟨wb,0,none⟩),.int .i64 (i:Int),.int .i64 er] w λe w'=>e=.returned (.tuple #[])/\Wk w' wb HS E (bR E σ i er)/\Below wb w w':=by
 have hwk:=h;obtain⟨tv,lv,so,sd,ov,hv,rv,h⟩:=h;obtain⟨tb,cap,rfl,htb⟩:=h.tokv;have c0:=h.cell 0;have c2:=h.cell 2;have c3:=h.cell 3;simp at c0 c2 c3;have z2:=h.thaw 2;have z3:=h.thaw 3;obtain⟨t0,t1,t2,t3⟩:=h.tokcell i hi;have hl:=h.tokFew;have htw:tb≠wb:=by omega
 have hii:(i:Int)<(E.toks.length:Int):=by omega
 clear t0 t1 t3;have hyes:σ.fault=0∨(aT E i).place<σ.place->bR E σ i er = { σ with fault:=er,place:=(aT E i).place }:=λhh=>by rw[bR,ag hh]
 have hno:¬ (σ.fault=0∨(aT E i).place<σ.place)->bR E σ i er=σ:=λhh=>by rw[bR,ae hh]
 have HR:Hid (Wk (((w.setCell ⟨wb,2,none⟩ (.int .i64 er)).setCell ⟨wb,3,none⟩ (.int .i64 (aT E i).place))) wb HS E { σ with fault:=er,place:=(aT E i).place }):=
  ⟨_,_,_,_,_,_,_,h.turn _ rfl rfl rfl rfl (aM _ wb 3 _ _ _ (aM _ wb 2 _ _ _ h.blk)) (λk hk=>(ay _ _ _ _ hk).trans (ay _ _ _ _ hk))⟩
 have HB:Hid (Below wb w ((w.setCell ⟨wb,2,none⟩ (.int .i64 er)).setCell ⟨wb,3,none⟩ (.int .i64 (aT E i).place))):=((ax wb w).setCell (af _) _).setCell (af _) _
 replace HR:Hid (σ.fault=0∨(aT E i).place<σ.place->∀n,Wk (((w.setCell ⟨wb,2,none⟩ (.int .i64 er)).setCell ⟨wb,3,none⟩ (.int .i64 (aT E i).place)).drewN n) wb HS E (bR E σ i er)/\Below wb w (((w.setCell ⟨wb,2,none⟩ (.int .i64 er)).setCell ⟨wb,3,none⟩ (.int .i64 (aT E i).place)).drewN n)):=λhh n=>by
  rw[hyes hh];exact⟨(aa HR).drewN n,dX (aa HB) n⟩
 have HN:Hid (¬ (σ.fault=0∨(aT E i).place<σ.place)->∀n,Wk (w.drewN n) wb HS E (bR E σ i er)/\Below wb w (w.drewN n)):=λhh n=>by
  rw[hno hh];exact⟨hwk.drewN n,dX (ax _ _) n⟩
 clear hyes hno HB hwk h;generalize (aT E i).place=pl at *
 cases hf:(σ.fault==0)
 .have hf0:¬ σ.fault=0:=by simpa using hf
  have HF:=aj hf0;clear hf0;by_cases hp:pl<σ.place
  .go_enter Tryz.func77,Tryz.ntmps77;go_wp2
   go_quiet (fail)
   go_wp2
   go_end0
   exact⟨rfl,aa HR (.inr hp) _⟩
  .have hp':decide (pl<σ.place)=false:=by simpa using hp
   go_enter Tryz.func77,Tryz.ntmps77;go_wp2
   go_quiet (fail)
   go_wp2
   go_end0
   exact⟨rfl,aa HN (λhh=>hh.elim (aa HF) (λh2=>absurd h2 (by omega))) _⟩
 .have hf0:Hid (σ.fault=0):=by show _=_;simpa using hf
  go_enter Tryz.func77,Tryz.ntmps77;go_wp2
  go_quiet (fail)
  go_wp2
  go_end0
  exact⟨rfl,aa HR (.inl (aa hf0)) _⟩
theorem Wk.some (h:Wk w wb HS E σ):0<E.toks.length/\E.toks.length<=1000:=by
 obtain⟨_,_,_,_,_,_,_,h⟩:=h;exact⟨h.tokSome,h.tokFew⟩
def eO (E:bB) (σ:St) (i:Nat) (s:ByteArray):St:=if oF E σ i s||kQ E σ then σ else bR E σ i 9
def eG (E:bB) (σ:St) (i:Nat) (s:ByteArray):Nat:=if oF E σ i s then i+1 else E.toks.length-1
theorem bZ (w:World) (wb:Nat) (E:bB) (σ:St) (i:Nat) (s:ByteArray) (h:Wk w wb HS E σ) (hi:i<E.toks.length) :
  Calls Tryz.prog 72 #[.pointer (some ⟨wb,0,none⟩),.int .i64 (i:Int),.string s] w λe w'=>e=.returned (.int .i64 (eG E σ i s:Int))/\Wk w' wb HS E (eO E σ i s)/\Below wb w w':=by
 obtain⟨ts,tf⟩:=h.some
 cases his:oF E σ i s
 .have eI:(eG E σ i s:Int)=(E.toks.length:Int)-1:=by simp only[eG,his];simp;omega
  cases hst:kQ E σ
  .have eS:eO E σ i s=bR E σ i 9:=by simp[eO,his,hst]
   rw[eI,eS];clear eI eS;go_enter Tryz.func72,Tryz.ntmps72;go_wp2_with fail;refine(fM _ wb E σ i s h hi).mono ?_;rintro e w1 ⟨rfl,hw⟩;obtain rfl:=hw.symm;rw[his];go_wp2_with fail;refine(dH _ wb E σ h).mono ?_;rintro e w1 ⟨rfl,hw⟩;obtain rfl:=hw.symm;rw[hst];go_wp2_with fail;refine(iR _ wb E σ i 9 h hi).mono ?_;rintro e w1 ⟨rfl,h1,hb1⟩;go_wp2_with fail;refine(tL _ wb E _ h1).mono ?_;rintro e w2 ⟨rfl,hw⟩;obtain rfl:=hw.symm;go_wp2;go_ret;exact⟨rfl,h1,hb1⟩
  .have eS:eO E σ i s=σ:=by simp[eO,hst]
   rw[eI,eS];clear eI eS;go_enter Tryz.func72,Tryz.ntmps72;go_wp2_with fail;refine(fM _ wb E σ i s h hi).mono ?_;rintro e w1 ⟨rfl,hw⟩;obtain rfl:=hw.symm;rw[his];go_wp2_with fail;refine(dH _ wb E σ h).mono ?_;rintro e w1 ⟨rfl,hw⟩;obtain rfl:=hw.symm;rw[hst];go_wp2_with fail;refine(tL _ wb E _ h).mono ?_;rintro e w2 ⟨rfl,hw⟩;obtain rfl:=hw.symm;go_wp2;go_ret;exact⟨rfl,h,ax _ _⟩
 .have eI:(eG E σ i s:Int)=(i:Int)+1:=by simp only[eG,his];simp
  have eS:eO E σ i s=σ:=by simp[eO,his]
  rw[eI,eS];clear eI eS;go_enter Tryz.func72,Tryz.ntmps72;go_wp2_with fail;refine(fM _ wb E σ i s h hi).mono ?_;rintro e w1 ⟨rfl,hw⟩;obtain rfl:=hw.symm;rw[his];go_wp2_with fail;refine(dH _ wb E σ h).mono ?_;rintro e w1 ⟨rfl,hw⟩;obtain rfl:=hw.symm;go_wp2;go_ret;exact⟨rfl,h,ax _ _⟩
def Bp (E:bB) (σ:St) (i:Nat) (k:Int):St:=if kQ E σ||((aT E i).kind==k) then σ else bR E σ i 9
def D5 (E:bB) (σ:St) (i:Nat) (k:Int):Nat:=if !kQ E σ&&((aT E i).kind==k) then i+1 else E.toks.length-1
theorem LV (w:World) (wb:Nat) (E:bB) (σ:St) (i:Nat) (k:Int) (h:Wk w wb HS E σ) (hi:i<E.toks.length) :
  Calls Tryz.prog 69 #[.pointer (some ⟨wb,0,none⟩),.int .i64 (i:Int),.int .i64 k] w λe w'=>e=.returned (.int .i64 (D5 E σ i k:Int))/\Wk w' wb HS E (Bp E σ i k)/\Below wb w w':=by
 obtain⟨ts,tf⟩:=h.some
 cases hst:kQ E σ
 .have hh:=h;obtain⟨tv,lv,so,sd,ov,hv,rv,hh⟩:=hh;obtain⟨tb,cap,rfl,htb⟩:=hh.tokv;have c0:=hh.cell 0;simp at c0;obtain⟨t0,t1,t2,t3⟩:=hh.tokcell i hi;clear hh t1 t2 t3
  cases hk:((aT E i).kind==k)
  .have eI:(D5 E σ i k:Int)=(E.toks.length:Int)-1:=by simp only[D5,hst,hk];simp;omega
   have eS:Bp E σ i k=bR E σ i 9:=by simp[Bp,hst,hk]
   rw[eI,eS];clear eI eS;have hk':((aT E i).kind != k)=true:=by simpa using hk
   clear hk;generalize (aT E i).kind=kd at *;go_enter Tryz.func69,Tryz.ntmps69;go_wp2_with fail;refine(dH _ wb E σ h).mono ?_;rintro e w1 ⟨rfl,hw⟩;obtain rfl:=hw.symm;rw[hst];go_wp2_with fail;refine(iR _ wb E σ i 9 h hi).mono ?_;rintro e w1 ⟨rfl,h1,hb1⟩;go_wp2_with fail;refine(tL _ wb E _ h1).mono ?_;rintro e w2 ⟨rfl,hw⟩;obtain rfl:=hw.symm;go_wp2;go_ret;exact⟨rfl,h1,hb1⟩
  .have eI:(D5 E σ i k:Int)=(i:Int)+1:=by simp only[D5,hst,hk];simp
   have eS:Bp E σ i k=σ:=by simp[Bp,hk]
   rw[eI,eS];clear eI eS;have hk':((aT E i).kind != k)=false:=by simpa using hk
   clear hk;generalize (aT E i).kind=kd at *;go_enter Tryz.func69,Tryz.ntmps69;go_wp2_with fail;refine(dH _ wb E σ h).mono ?_;rintro e w1 ⟨rfl,hw⟩;obtain rfl:=hw.symm;rw[hst];go_wp2;go_ret;exact⟨rfl,h,ax _ _⟩
 .have eI:(D5 E σ i k:Int)=(E.toks.length:Int)-1:=by simp only[D5,hst];simp;omega
  have eS:Bp E σ i k=σ:=by simp[Bp,hst]
  rw[eI,eS];clear eI eS;go_enter Tryz.func69,Tryz.ntmps69;go_wp2_with fail;refine(dH _ wb E σ h).mono ?_;rintro e w1 ⟨rfl,hw⟩;obtain rfl:=hw.symm;rw[hst];go_wp2_with fail;refine(tL _ wb E _ h).mono ?_;rintro e w2 ⟨rfl,hw⟩;obtain rfl:=hw.symm;go_wp2;go_ret;exact⟨rfl,h,ax _ _⟩
variable {HS:List (Nat×Obj)}
def aN (l:List bQ) (s:ByteArray):Int:=match l.findIdx? (λc=>c.name.toList==s.toList) with
 | some k=>k
 | none=>-1
theorem Yl {k:Nat} (hk:k<l.length) (h1:∀j (hj:j<l.length),j<k->((l[j]).name.toList==s.toList)=false) (h2:((l[k]).name.toList==s.toList)=true):aN l s=k:=by
 have:l.findIdx? (λc=>c.name.toList==s.toList)=some k:=by
  rw[Ak];exact⟨hk,h2,λj hj=>by simpa using h1 j (by omega) hj⟩
 rw[aN,this]
theorem Qt (h1:∀j (hj:j<l.length),((l[j]).name.toList==s.toList)=false):aN l s=-1:=by
 have:l.findIdx? (λc=>c.name.toList==s.toList)=none:=by
  rw[List.findIdx?_eq_none_iff];intro x hx;obtain⟨j,hj,rfl⟩:=pV hx;exact h1 j hj
 rw[aN,this]
theorem Qn6 (l:List bQ) (i:Nat) (h:i<l.length):(bG l)[i*4]?=some (.string (l[i]).name)/\(bG l)[i*4+1]?=some (.int .i64 (l[i]).val)/\(bG l)[i*4+2]?=some (.bool (l[i]).hid)/\(bG l)[i*4+3]?=some (.bool (l[i]).free):=by
 induction l generalizing i with
 | nil=>simp at h
 | cons t l ih=>
  cases i with
  | zero=>simp[bG,dF]
  | succ i=>
   have hi:=ih i (by simpa using h);have e:∀k,(bG (t::l))[(i+1)*4+k]?=(bG l)[i*4+k]?:=λk=>by
    have:bG (t::l)=dF t++bG l:=by simp[bG]
    rw[this,vK (by simp[dF];omega)];simp only[dF,kr,mJ];congr 1;omega
   have e0:=e 0;simp only[jA]at e0;rw[e0,e 1,e 2,e 3];simpa using hi
theorem gM.lform (h:gM w wb HS E σ tv lv so sd ov hv rv):∃ao cap,lv=.slice ao σ.cells.length cap/\∀i (hi:i<σ.cells.length),∃g,ao=some ⟨g,0,none⟩/\wb<g/\w.cell? ⟨g,i*4,none⟩=some (.string (σ.cells[i]).name)/\w.cell? ⟨g,i*4+1,none⟩=some (.int .i64 (σ.cells[i]).val)/\w.cell? ⟨g,i*4+2,none⟩=some (.bool (σ.cells[i]).hid)/\w.cell? ⟨g,i*4+3,none⟩=some (.bool (σ.cells[i]).free):=by
 have hr:=h.rowL;rcases hr.2 with⟨rfl,h0⟩|⟨g,cap,cur,rfl,hb,_⟩
 .exact⟨none,0,by rw[h0],λi hi=>by omega⟩
 .refine⟨some ⟨g,0,none⟩,cap,rfl,λi hi=>⟨g,rfl,by omega,?_⟩⟩;obtain⟨a,b,c,d⟩:=Qn6 σ.cells i hi;exact⟨by rw[hr.cellAt _ (by omega)];exact a,by rw[hr.cellAt _ (by omega)];exact b,by rw[hr.cellAt _ (by omega)];exact c,by rw[hr.cellAt _ (by omega)];exact d⟩
theorem vG (w:World) (wb:Nat) (E:bB) (σ:St) (s:ByteArray) (h:Wk w wb HS E σ) (hl:σ.cells.length<=1000) :
  Calls Tryz.prog 97 #[.pointer (some ⟨wb,0,none⟩),.string s] w λe w'=>e=.returned (.int .i64 (aN σ.cells s))/\w'=w:=by
 obtain⟨tv,lv,so,sd,ov,hv,rv,h⟩:=h;obtain⟨ao,cap,rfl,hcell⟩:=h.lform;have c4:=h.cell 4;simp at c4;clear h;generalize hL:σ.cells=L at *;clear hL;have HC:=aj hcell;clear hcell;go_enter Tryz.func97,Tryz.ntmps97;go_wp2
 go_loop [5] (λi=>∃k:Nat,k<=L.length/\i=.int .i64 k/\∀j (hj:j<L.length),j<k->((L[j]).name.toList==s.toList)=false) (λi=>L.length-(intOf i).toNat)
 case atStart=>exact⟨0,bO _,rfl,λj _ hj=>by omega⟩
 case round=>
  obtain⟨k,hk,rfl,hall⟩:=hrel;have HA:=aj hall;clear hall;by_cases hlt:k<L.length
  .obtain⟨g,rfl,hg,x0,_,_,_⟩:=aa HC k hlt;have HT:=aj (λhh=>Yl hlt (aa HA) hh);have HF:Hid (((L[k]).name.toList==s.toList)=false->∀j (hj:j<L.length),j<k+1->((L[j]).name.toList==s.toList)=false):=λhh j hj hjk=>by
    by_cases hj2:j<k
    .exact aa HA j hj hj2
    .have:j=k:=by omega
     subst this;exact hh
   have hki:(k:Int)<(L.length:Int):=by omega
   generalize (L[k]).name=nm at x0 HT HF
   cases he:(nm.toList==s.toList)
   .go_wp2
    go_round
    case rel=>exact⟨k+1,by omega,by go_num,aa HF he⟩
    case measure=>simp[intOf];omega
   .go_wp2;go_ret;exact⟨jJ (aa HT he).symm,rfl⟩
  .have HN:=aj (Qt (l:=L) (s:=s) (λj hj=>aa HA j hj (by omega)));go_wp2;go_ret;exact⟨jJ (aa HN).symm,rfl⟩
def mR (E:bB) (σ:St) (i:Nat):Int:=aN σ.cells (aT E i).text
def fU (E:bB) (σ:St) (i:Nat):St:=if(E.mode==1)&&decide (mR E σ i<0) then bR E σ i 10 else σ
theorem NY (w:World) (wb:Nat) (E:bB) (σ:St) (i:Nat) (h:Wk w wb HS E σ) (hi:i<E.toks.length) (hl:σ.cells.length<=1000) :
  Calls Tryz.prog 98 #[.pointer (some ⟨wb,0,none⟩),.int .i64 (i:Int)] w λe w'=>e=.returned (.int .i64 (mR E σ i))/\Wk w' wb HS E (fU E σ i)/\Below wb w w':=by
 have hh:=h;obtain⟨tv,lv,so,sd,ov,hv,rv,hh⟩:=hh;obtain⟨tb,cap,rfl,htb⟩:=hh.tokv;have c0:=hh.cell 0;have c1:=hh.cell 1;simp at c0 c1;obtain⟨t0,t1,t2,t3⟩:=hh.tokcell i hi;have hf:=hh.tokFew;clear hh t0 t1 t2;have hii:(i:Int)<(E.toks.length:Int):=by omega
 have e1:(E.mode==1)=false->fU E σ i=σ:=λhm=>by simp[fU,hm]
 have e2:¬ mR E σ i<0->fU E σ i=σ:=λhm=>by simp[fU,hm]
 have e3:(E.mode==1)=true->mR E σ i<0->fU E σ i=bR E σ i 10:=λhm hk=>by simp[fU,hm,hk]
 unfold mR at e2 e3 ⊢;generalize (aT E i).text=tx at *
 cases hm:(E.mode==1)
 .rw[e1 hm];clear e1 e2 e3;go_enter Tryz.func98,Tryz.ntmps98;go_wp2_with fail;refine(vG _ wb E σ tx h hl).mono ?_;rintro e w1 ⟨rfl,hw⟩;obtain rfl:=hw.symm;go_wp2;go_ret;exact⟨rfl,h,ax _ _⟩
 .by_cases hk:aN σ.cells tx<0
  .rw[e3 hm hk];clear e1 e2 e3;go_enter Tryz.func98,Tryz.ntmps98;go_wp2_with fail;refine(vG _ wb E σ tx h hl).mono ?_;rintro e w1 ⟨rfl,hw⟩;obtain rfl:=hw.symm;go_wp2_with fail;refine(iR _ wb E σ i 10 h hi).mono ?_;rintro e w1 ⟨rfl,h1,hb1⟩;go_wp2;go_ret;exact⟨rfl,h1,hb1⟩
  .rw[e2 hk];clear e1 e2 e3;have hk':decide (aN σ.cells tx<0)=false:=by simpa using hk
   go_enter Tryz.func98,Tryz.ntmps98;go_wp2_with fail;refine(vG _ wb E σ tx h hl).mono ?_;rintro e w1 ⟨rfl,hw⟩;obtain rfl:=hw.symm;go_wp2;go_ret;exact⟨rfl,h,ax _ _⟩
def aW (E:bB) (σ:St) (live:Bool):Bool:=live&&(E.mode==3) && !σ.dead
theorem eZ (w:World) (wb:Nat) (E:bB) (σ:St) (live:Bool) (h:Wk w wb HS E σ) :
  Calls Tryz.prog 101 #[.pointer (some ⟨wb,0,none⟩),.bool live] w λe w'=>e=.returned (.bool (aW E σ live))/\w'=w:=by
 obtain⟨tv,lv,so,sd,ov,hv,rv,h⟩:=h;have c1:=h.cell 1;have c16:=h.cell 16;simp at c1 c16;clear h
 cases live
 .go_enter Tryz.func101,Tryz.ntmps101;go_wp2;go_ret;exact⟨cO (by simp[aW]),rfl⟩
 .cases hm:(E.mode==3)
  .go_enter Tryz.func101,Tryz.ntmps101;go_wp2;go_ret;exact⟨cO (by simp[aW,hm]),rfl⟩
  .go_enter Tryz.func101,Tryz.ntmps101;go_wp2;go_ret;exact⟨cO (by simp[aW,hm]),rfl⟩
def stepB (E:bB) (σ:St) (live:Bool):Bool:=aW E σ live&&decide (σ.steps<20000)
def aC (E:bB) (σ:St) (live:Bool):St:=if aW E σ live then(if 20000<=σ.steps then { σ with dead:=true } else { σ with steps:=σ.steps+1 }) else σ
theorem iw (w:World) (wb:Nat) (E:bB) (σ:St) (live:Bool) (h:Wk w wb HS E σ) (hs:0<=σ.steps) :
  Calls Tryz.prog 99 #[.pointer (some ⟨wb,0,none⟩),.bool live] w λe w'=>e=.returned (.bool (stepB E σ live))/\Wk w' wb HS E (aC E σ live)/\Below wb w w':=by
 have hwk:=h;obtain⟨tv,lv,so,sd,ov,hv,rv,h⟩:=h;have c12:=h.cell 12;simp at c12;have z12:=h.thaw 12;have z16:=h.thaw 16;have c16:=h.cell 16;simp at c16
 cases hl:aW E σ live
 .have eB:stepB E σ live=false:=by simp[stepB,hl]
  have eS:aC E σ live=σ:=by simp[aC,hl]
  rw[eB,eS];clear eB eS h;go_enter Tryz.func99,Tryz.ntmps99;go_wp2_with fail;refine(eZ _ wb E σ live hwk).mono ?_;rintro e w1 ⟨rfl,hw⟩;obtain rfl:=hw.symm;rw[hl];go_wp2;go_ret;exact⟨rfl,hwk,ax _ _⟩
 .by_cases hst:20000<=σ.steps
  .have eB:stepB E σ live=false:=by simp[stepB,hl];omega
   have eS:aC E σ live = { σ with dead:=true }:=by simp[aC,hl,hst]
   rw[eB,eS];have HR:Hid (Wk (w.setCell ⟨wb,16,none⟩ (.bool true)) wb HS E { σ with dead:=true }):=
    ⟨_,_,_,_,_,_,_,h.turn _ rfl rfl rfl rfl (aM _ wb 16 _ _ _ h.blk) (λk hk=>ay _ _ _ _ hk)⟩
   clear eB eS h;go_enter Tryz.func99,Tryz.ntmps99;go_wp2_with fail;refine(eZ _ wb E σ live hwk).mono ?_;rintro e w1 ⟨rfl,hw⟩;obtain rfl:=hw.symm;rw[hl];go_wp2;go_ret;exact⟨rfl,aa HR,(ax wb _).setCell (af _) _⟩
  .have eB:stepB E σ live=true:=by simp[stepB,hl];omega
   have eS:aC E σ live = { σ with steps:=σ.steps+1 }:=by simp[aC,hl,hst]
   rw[eB,eS];have HR:Hid (Wk (w.setCell ⟨wb,12,none⟩ (.int .i64 (σ.steps+1))) wb HS E { σ with steps:=σ.steps+1 }):=
    ⟨_,_,_,_,_,_,_,h.turn _ rfl rfl rfl rfl (aM _ wb 12 _ _ _ h.blk) (λk hk=>ay _ _ _ _ hk)⟩
   clear eB eS h;have hst2:σ.steps<20000:=by omega
   go_enter Tryz.func99,Tryz.ntmps99;go_wp2_with fail;refine(eZ _ wb E σ live hwk).mono ?_;rintro e w1 ⟨rfl,hw⟩;obtain rfl:=hw.symm;rw[hl];go_wp2;go_ret;exact⟨rfl,aa HR,(ax wb _).setCell (af _) _⟩
def Cj (E:bB) (σ:St) (i:Nat) (l:List ByteArray):ByteArray:=(l.find? (oF E σ i)).getD ⟨#[]⟩
theorem Ah (w:World) (wb:Nat) (E:bB) (σ:St) (i:Nat) (ao:Option Addr) (c:Nat) (l:List ByteArray) (h:Wk w wb HS E σ) (hi:i<E.toks.length) (hst:om w.heap.size w ao l) (hl:l.length<=100) :
  Calls Tryz.prog 126 #[.pointer (some ⟨wb,0,none⟩),.int .i64 (i:Int),.slice ao l.length c] w λe w'=>e=.returned (.string (Cj E σ i l))/\w'=w:=by
 obtain⟨b,off,rfl,hb,hcell⟩:=hst;have HC:=aj hcell;clear hcell;go_enter Tryz.func126,Tryz.ntmps126;go_wp2
 go_loop [7] (λv=>∃k:Nat,k<=l.length/\v=.int .i64 k/\∀j,j<k->oF E σ i (l.getD j ByteArray.empty)=false) (λv=>l.length-(intOf v).toNat)
 case atStart=>exact⟨0,bO _,rfl,λj hj=>by omega⟩
 case round=>
  obtain⟨k,hk,rfl,hall⟩:=hrel;have HA:=aj hall;clear hall;by_cases hlt:k<l.length
  .have hc:=aa HC k hlt;have HT:=aj (λhh=>Rj (oF E σ i) l k hlt (aa HA) hh);have HF:Hid (oF E σ i (l.getD k ByteArray.empty)=false->∀j,j<k+1->oF E σ i (l.getD j ByteArray.empty)=false):=λhh j hj=>by
    by_cases hjk:j<k
    .exact aa HA j hjk
    .have:j=k:=by omega
     subst this;exact hh
   have hki:(k:Int)<(l.length:Int):=by omega
   generalize l.getD k ByteArray.empty=g at hc HT HF
   cases hb:oF E σ i g
   .go_wp2_with fail;refine(fM _ wb E σ i g h hi).mono ?_;rintro e w1 ⟨rfl,hw⟩;obtain rfl:=hw.symm;rw[hb];go_wp2
    go_round
    case rel=>exact⟨k+1,by omega,by go_num,aa HF hb⟩
    case measure=>simp[intOf];omega
   .go_wp2_with fail;refine(fM _ wb E σ i g h hi).mono ?_;rintro e w1 ⟨rfl,hw⟩;obtain rfl:=hw.symm;rw[hb];go_wp2;go_ret;have e:Cj E σ i l=g:=aa HT hb;exact⟨by rw[e];rfl,rfl⟩
  .have HN:=aj (Kk (oF E σ i) l (λj hj=>aa HA j (by omega)));go_wp2;go_ret;have e:Cj E σ i l=⟨#[]⟩:=aa HN;exact⟨by rw[e];rfl,rfl⟩
variable {HS:List (Nat×Obj)}
abbrev dw (x:Int):Prop:=-2147483648<=x/\x<=2147483647
def kG (x:Int):Int:=(x+2147483648) % 4294967296-2147483648
theorem kL (x:Int):dw (kG x):=by unfold dw kG;omega
def lF (b:Bool):Int:=if b then 1 else 0
theorem yl (b:Bool) (w:World):Calls Tryz.prog 139 #[.bool b] w λe w'=>e=.returned (.int .i64 (lF b))/\w'=w:=by
 cases b
 .go_enter Tryz.func139,Tryz.ntmps139;go_wp2;go_ret;exact⟨rfl,rfl⟩
 .go_enter Tryz.func139,Tryz.ntmps139;go_wp2;go_ret;exact⟨rfl,rfl⟩
theorem Aj (n:Int) (w:World) (h0 : -4611686018427387904<=n) (h1:n<=4611686018427387904) :
  Calls Tryz.prog 138 #[.int .i64 n] w λe w'=>e=.returned (.int .i64 (kG n))/\w'=w:=by
 by_cases hn:0<=n
 .by_cases hm:2147483647<n % 4294967296
  .have e1:kG n=n % 4294967296-4294967296:=by unfold kG;omega
   rw[e1];have b1:0<=n % 4294967296:=by omega
   have b2:n % 4294967296<4294967296:=by omega
   clear e1;go_enter Tryz.func138,Tryz.ntmps138;go_wp2;go_ret;exact⟨rfl,rfl⟩
  .have e1:kG n=n % 4294967296:=by unfold kG;omega
   rw[e1];have b1:0<=n % 4294967296:=by omega
   clear e1;go_enter Tryz.func138,Tryz.ntmps138;go_wp2;go_ret;exact⟨rfl,rfl⟩
 .obtain⟨m,rfl⟩:∃m,n=-m:=⟨-n,by omega⟩;have ht:(-m).tmod 4294967296=-(m % 4294967296):=by rw[Int.neg_tmod,Int.tmod_eq_emod_of_nonneg (by omega)]
  have b1:0<=m % 4294967296:=by omega
  have b2:m % 4294967296<4294967296:=by omega
  by_cases hz:m % 4294967296=0
  .have e1:kG (-m)=0:=by unfold kG;omega
   rw[e1];clear e1;rw[hz]at ht;go_enter Tryz.func138,Tryz.ntmps138;go_wp2;go_ret;exact⟨rfl,rfl⟩
  .generalize hr:m % 4294967296=r at *;by_cases hm:2147483647 < -r+4294967296
   .have e1:kG (-m)=-r+4294967296-4294967296:=by unfold kG;omega
    rw[e1];clear e1 hr;go_enter Tryz.func138,Tryz.ntmps138;go_wp2;go_ret;exact⟨jJ (by omega),rfl⟩
   .have e1:kG (-m)=-r+4294967296:=by unfold kG;omega
    rw[e1];clear e1 hr;go_enter Tryz.func138,Tryz.ntmps138;go_wp2;go_ret;exact⟨rfl,rfl⟩
def dR (s:ByteArray) (a b:Int):Int:=
 if s.toList==[43] then kG (a+b) else
 if s.toList==[45] then kG (a-b) else
 if s.toList==[195,151] then kG (a*b) else
 if s.toList==[195,183] then(if b=0 then 0 else kG (a.tdiv b)) else
 if s.toList==[61] then lF (a==b) else
 if s.toList==[226,137,160] then lF (a != b) else
 if s.toList==[60] then lF (decide (a<b)) else
 if s.toList==[226,137,164] then lF (decide (a<=b)) else
 if s.toList==[109,105,110] then min a b else
 max a b
theorem AL (b:Bool):dw (lF b):=by cases b<;>exact⟨by decide,by decide⟩
theorem iG {a:Int} (ha:dw a) (hb:dw b):dw (dR s a b):=by
 unfold dR;split
 .exact kL _
 split
 .exact kL _
 split
 .exact kL _
 split
 .split
  .exact⟨by decide,by decide⟩
  .exact kL _
 split
 .exact AL _
 split
 .exact AL _
 split
 .exact AL _
 split
 .exact AL _
 split
 .unfold dw at *;omega
 .unfold dw at *;omega
theorem Ql6 {a:Int} (ha:dw a) (hb:dw b) : -4611686018427387904<=a*b/\a*b<=4611686018427387904:=by
 obtain⟨a1,a2⟩:=ha;obtain⟨b1,b2⟩:=hb;have h1:a.natAbs<=2147483648:=by omega
 have h2:b.natAbs<=2147483648:=by omega
 have h3:(a*b).natAbs<=2147483648*2147483648:=by rw[Int.natAbs_mul];exact Nat.mul_le_mul h1 h2
 omega
theorem ZB {a:Int} (ha:dw a) : -2147483648<=a.tdiv b/\a.tdiv b<=2147483648:=by
 obtain⟨a1,a2⟩:=ha;have h:(a.tdiv b).natAbs<=a.natAbs:=by rw[Int.natAbs_tdiv];exact Nat.div_le_self _ _
 omega
theorem zV (s:ByteArray) (a b:Int) (w:World) (ha:dw a) (hb:dw b):Calls Tryz.prog 127 #[.string s,.int .i64 a,.int .i64 b] w λe w'=>e=.returned (.int .i64 (dR s a b))/\w'=w:=by
 have hmul:=Ql6 ha hb;have hdiv:=ZB (b:=b) ha;obtain⟨a1,a2⟩:=ha;obtain⟨b1,b2⟩:=hb;obtain⟨m1,m2⟩:=hmul;obtain⟨d1,d2⟩:=hdiv
 cases q0:(s.toList==[43])
 .skip
  cases q1:(s.toList==[45])
  .skip
   cases q2:(s.toList==[195,151])
   .skip
    cases q3:(s.toList==[195,183])
    .skip
     cases q4:(s.toList==[61])
     .skip
      cases q5:(s.toList==[226,137,160])
      .skip
       cases q6:(s.toList==[60])
       .skip
        cases q7:(s.toList==[226,137,164])
        .skip
         cases q8:(s.toList==[109,105,110])
         .skip
          have eV:dR s a b=max a b:=by simp[dR,q0,q1,q2,q3,q4,q5,q6,q7,q8]
          rw[eV];clear eV;go_enter Tryz.func127,Tryz.ntmps127;go_wp2;go_ret;exact⟨rfl,rfl⟩
         .have eV:dR s a b=min a b:=by simp[dR,q0,q1,q2,q3,q4,q5,q6,q7,q8]
          rw[eV];clear eV;go_enter Tryz.func127,Tryz.ntmps127;go_wp2;go_ret;exact⟨rfl,rfl⟩
        .have eV:dR s a b=lF (decide (a<=b)):=by simp[dR,q0,q1,q2,q3,q4,q5,q6,q7]
         rw[eV];clear eV;go_enter Tryz.func127,Tryz.ntmps127;go_wp2_with fail;refine(yl _ _).mono ?_;rintro e w1 ⟨rfl,hw⟩;obtain rfl:=hw.symm;go_wp2;go_ret;exact⟨rfl,rfl⟩
       .have eV:dR s a b=lF (decide (a<b)):=by simp[dR,q0,q1,q2,q3,q4,q5,q6]
        rw[eV];clear eV;go_enter Tryz.func127,Tryz.ntmps127;go_wp2_with fail;refine(yl _ _).mono ?_;rintro e w1 ⟨rfl,hw⟩;obtain rfl:=hw.symm;go_wp2;go_ret;exact⟨rfl,rfl⟩
      .have eV:dR s a b=lF (a != b):=by simp[dR,q0,q1,q2,q3,q4,q5]
       rw[eV];clear eV;go_enter Tryz.func127,Tryz.ntmps127;go_wp2_with fail;refine(yl _ _).mono ?_;rintro e w1 ⟨rfl,hw⟩;obtain rfl:=hw.symm;go_wp2;go_ret;exact⟨rfl,rfl⟩
     .have eV:dR s a b=lF (a==b):=by simp[dR,q0,q1,q2,q3,q4]
      rw[eV];clear eV;go_enter Tryz.func127,Tryz.ntmps127;go_wp2_with fail;refine(yl _ _).mono ?_;rintro e w1 ⟨rfl,hw⟩;obtain rfl:=hw.symm;go_wp2;go_ret;exact⟨rfl,rfl⟩
    .by_cases hb0:b=0
     .have eV:dR s a b=0:=by simp[dR,q0,q1,q2,q3,hb0]
      rw[eV];have hb0':(b==0)=true:=by simp[hb0]
      clear eV hb0;go_enter Tryz.func127,Tryz.ntmps127;go_wp2;go_ret;exact⟨rfl,rfl⟩
     .have eV:dR s a b=kG (a.tdiv b):=by simp[dR,q0,q1,q2,q3,hb0]
      rw[eV];have hb0':(b==0)=false:=by simp[hb0]
      have hneg:wrap64 (a.tdiv b)=a.tdiv b:=IntWalk.wrap64_in _ ⟨by omega,by omega⟩;clear eV;go_enter Tryz.func127,Tryz.ntmps127;go_wp2_with fail;refine(Aj _ _ (by omega) (by omega)).mono ?_;rintro e w1 ⟨rfl,hw⟩;obtain rfl:=hw.symm;go_wp2;go_ret;exact⟨rfl,rfl⟩
   .have eV:dR s a b=kG (a*b):=by simp[dR,q0,q1,q2]
    rw[eV];clear eV;go_enter Tryz.func127,Tryz.ntmps127;go_wp2_with fail;refine(Aj _ _ (by omega) (by omega)).mono ?_;rintro e w1 ⟨rfl,hw⟩;obtain rfl:=hw.symm;go_wp2;go_ret;exact⟨rfl,rfl⟩
  .have eV:dR s a b=kG (a-b):=by simp[dR,q0,q1]
   rw[eV];clear eV;go_enter Tryz.func127,Tryz.ntmps127;go_wp2_with fail;refine(Aj _ _ (by omega) (by omega)).mono ?_;rintro e w1 ⟨rfl,hw⟩;obtain rfl:=hw.symm;go_wp2;go_ret;exact⟨rfl,rfl⟩
 .have eV:dR s a b=kG (a+b):=by simp[dR,q0]
  rw[eV];clear eV;go_enter Tryz.func127,Tryz.ntmps127;go_wp2_with fail;refine(Aj _ _ (by omega) (by omega)).mono ?_;rintro e w1 ⟨rfl,hw⟩;obtain rfl:=hw.symm;go_wp2;go_ret;exact⟨rfl,rfl⟩
variable {HS:List (Nat×Obj)}
theorem UE:(Tryz.prog.info? 61).map (λi=>(i.zero,i.size,i.bytes))=some (some (.agg #[.int .i64 0,.int .i64 0]),2,16):=by kernel_rfl
theorem Xa:(Tryz.prog.info? 91).map (λi=>(i.zero,i.size,i.bytes))=some (some (.agg #[.string ⟨#[]⟩,.int .i64 0,.bool false,.bool false]),4,32):=by kernel_rfl
theorem zD (l:List bQ) (c:bQ):bG (l++[c])=bG l++dF c:=by simp[bG]
theorem Cv (l:List (Int×Int)) (c:Int×Int):mF (l++[c])=mF l++qm c:=by simp[mF]
theorem Df (c:bQ):∀u∈dF c,u.oneCell'=true:=by
 intro u hu;simp[dF]at hu;rcases hu with rfl|rfl|rfl|rfl<;>rfl
theorem UU (t:Int×Int):∀u∈qm t,u.oneCell'=true:=by
 intro u hu;simp[qm]at hu;rcases hu with rfl|rfl<;>rfl
def zb (E:bB) (i:Nat) (hid free:Bool):bQ:=⟨(aT E i).text,0,hid,free⟩
def MB (E:bB) (σ:St) (i:Nat):Bool:=(E.mode==1)&&(decide (0<=aN σ.cells (aT E i).text)||decide (6<(aT E i).text.size))
def oz (E:bB) (σ:St) (i:Nat) (hid free:Bool):St:=
 if E.mode==0 then σ else(if MB E σ i then { bR E σ i 10 with cells:=(bR E σ i 10).cells++[zb E i hid free] } else { σ with cells:=σ.cells++[zb E i hid free] })
theorem gM.grew {w2:World} {v':Value} (h:gM w wb HS E σ tv lv so sd ov hv rv) (U:Obj)
  (hown:w2.ownsRow (wb+1) 91 4 v' (σ.cells.length+1) (bG σ.cells++dF c)) (hg:(w.alloc U).grownBy w2 lv.ownBlock) (hat:v'.ownBlock=lv.ownBlock∨v'.ownBlock=some (w.heap.size+1)) :
  gM (w2.setCell ⟨wb,4,none⟩ v') wb HS E { σ with cells:=σ.cells++[c] } tv v' so sd ov hv rv:=by
 have hlt:=h.lt;have hlv:∀k,lv.ownBlock=some k->wb+1<=k/\k<w.heap.size:=h.rowL.lt;have keep:∀k,k<w.heap.size->some k≠lv.ownBlock->w2.heap[k]?=w.heap[k]?:=λk hk hne=>(hg.block k (by simp;omega) hne).trans (av w U k hk);have keep2:∀k,k<w.heap.size->k≠wb->some k≠lv.ownBlock->(w2.setCell ⟨wb,4,none⟩ v').heap[k]?=w.heap[k]?:=λk hk hw hne=>(ay _ _ _ _ hw).trans (keep k hk hne);have low:∀k,k<wb->(w2.setCell ⟨wb,4,none⟩ v').heap[k]?=w.heap[k]?:=λk hk=>keep2 k (by omega) (by omega) (λe=>by have:=(hlv k e.symm).1;omega);have blk2:w2.heap[wb]?=_:=(keep wb hlt (λe=>by have:=(hlv wb e.symm).1;omega)).trans h.blk;have ap:∀(x:Value),ny lv x->(∀k,x.ownBlock=some k->wb+1<=k/\k<w.heap.size)->ny v' x:=λx hx hxb=>by
  rcases hat with e|e
  .unfold ny;rw[e];exact hx
  .right;rw[e];intro e2;have:=(hxb _ e2.symm).2;omega
 have own2:∀(x:Value) (e size n:Nat) (xs:List Value),w.ownsRow (wb+1) e size x n xs->ny lv x->(w2.setCell ⟨wb,4,none⟩ v').ownsRow (wb+1) e size x n xs:=λx e size n xs hx hap=>bT hx (λk hk=>keep2 k (hx.lt k hk).2 (by have:=(hx.lt k hk).1;omega) (λe2=>by
  rcases hap with h0|h0
  .rw[h0]at e2;cases e2
  .exact h0 (by rw[<-e2,hk])))
 have hold:∀p∈HS,(w2.setCell ⟨wb,4,none⟩ v').heap[p.1]?=some p.2/\p.1≠wb/\v'.ownBlock≠some p.1/\rv.ownBlock≠some p.1/\ov.ownBlock≠some p.1/\hv.ownBlock≠some p.1:=λp hp=>by
  obtain⟨a,b,c,d⟩:=h.held p hp;have hpl:p.1<w.heap.size:=(az.1 a).1;refine⟨(keep2 p.1 hpl b (λe=>c e.symm)).trans a,b,?_,d⟩;rcases hat with e|e
  .rw[e];exact c
  .rw[e];intro e2;simp at e2;omega
 refine⟨aM _ wb 4 _ _ _ blk2,bT h.tokens (λk hk=>low k (h.tokLow k hk)),h.tokLow,h.tokSome,h.tokFew,?_,own2 _ _ _ _ _ h.rowR h.apLR,own2 _ _ _ _ _ h.rowO h.apLO,own2 _ _ _ _ _ h.rowH h.apLH,ap rv h.apLR h.rowR.lt,ap ov h.apLO h.rowO.lt,ap hv h.apLH h.rowH.lt,h.apRO,h.apRH,h.apOH,?_,?_,hold⟩
 .have:w2.ownsRow (wb+1) 91 4 v' (σ.cells++[c]).length (bG (σ.cells++[c])):=by rw[zD,iZ];exact hown
  exact bT this (λk hk=>ay _ _ _ _ (by show k≠wb;have:=(this.lt k hk).1;omega))
 .obtain⟨ao,c,e,hi⟩:=h.ints1;exact⟨ao,c,e,hi.same low⟩
 .obtain⟨ao,c,e,hi⟩:=h.ints2;exact⟨ao,c,e,hi.same low⟩
end Go.Proofs.YthmmgiaobakilaaGreat
