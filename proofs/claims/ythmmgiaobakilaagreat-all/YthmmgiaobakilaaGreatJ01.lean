import Derived.Test.YthmmgiaobakilaaGreatJ00
import Derived.Test.YthmmgiaobakilaaGreatRows
import Derived.WalkKit
import Derived.WalkSpells
import Derived.WalkLawsBesides
import Derived.Lib.AppendStr
import Derived.Lib.SlBytesRow
set_option maxRecDepth 100000
set_option maxHeartbeats 8000000
set_option linter.all false
namespace Go.Proofs.YthmmgiaobakilaaGreat
open Go.RowKit
variable {B B' b n rb:Nat} {H W e f:Int} {L M ns xs:List Int} {T ty:TypeId} {ao:Option Addr} {bs:List Value} {c0 c1 c10 c2 c3 c4 c5 c6 c7 c8 c9 v:Value} {k:IntKind} {p:Prop} {r:Option Nat} {s:ByteArray} {w w':World}
theorem aj (h:p):Hid p:=h
theorem aa (h:Hid p):p:=h
def aF (B:Nat) (w:World) (ao:Option Addr) (xs:List Int):Prop:=
 xs=[]∨∃b off,ao=some ⟨b,off,none⟩/\b<B/\∀j,j<xs.length->w.cell? ⟨b,off+j,none⟩=some (.int .i64 (xs.getD j 0))
theorem aF.later (h:aF B w ao xs) (hb:Below B' w w') (hB:B<=B'):aF B w' ao xs:=by
 rcases h with h|⟨b,off,h1,h2,h3⟩
 .exact .inl h
 .exact .inr ⟨b,off,h1,h2,λj hj=>(hb.cell (p:=⟨b,off+j,none⟩) (by show b<B';omega)).trans (h3 j hj)⟩
theorem aF.mono (h:aF B w ao xs) (hB:B<=B'):aF B' w ao xs:=by
 rcases h with h|⟨b,off,h1,h2,h3⟩
 .exact .inl h
 .exact .inr ⟨b,off,h1,by omega,h3⟩
def dz (n:Int):Bool:=decide (1<=n)&&decide (n<=6)
def bS (x:Int):Bool:=decide (0<=x)&&decide (x<=255)
def kS (xs:List Int) (c:Int):Bool:=decide ((xs.length:Int)=c)&&xs.all bS
def bi (W H:Int) (xs ys:List Int):Int:=
 if dz W&&dz H then(if kS xs (W*H)&&kS ys (W*H) then 0 else 6) else 3
theorem pO (hW:dz W=true) (hH:dz H=true):1<=W/\W<=6/\1<=H/\H<=6/\1<=W*H/\W*H<=36:=by
 simp[dz]at hW hH;obtain⟨a,b⟩:=hW;obtain⟨c,d⟩:=hH;have h1:(W=1∨W=2∨W=3∨W=4∨W=5∨W=6):=by omega
 refine⟨a,b,c,d,?_⟩;rcases h1 with rfl|rfl|rfl|rfl|rfl|rfl<;>omega
theorem I4 {ys:List Int} (h:bi W H xs ys=0) :
  dz W=true/\dz H=true/\(xs.length:Int)=W*H/\(ys.length:Int)=W*H/\xs.all bS=true/\ys.all bS=true:=by
 unfold bi at h;split at h
 .rename_i h1;split at h
  .rename_i h2;simp only[kS,dC,decide_eq_true_eq]at h1 h2;exact⟨h1.1,h1.2,h2.1.1,h2.2.1,h2.1.2,h2.2.2⟩
  .simp at h
 .simp at h
def nums (s:ByteArray):List Int:=s.data.toList.map λb=>(b.toNat:Int)
theorem bU (s:ByteArray):(nums s).length=s.size:=by simp[nums]
theorem Jn (s:ByteArray):Lib.strCells s=(nums s).map (Value.int .u8):=by simp[Lib.strCells,nums]
theorem AC (s:ByteArray):strOfNums (nums s)=s:=by
 cases s with
 | mk d=>
  simp only[strOfNums,nums,List.map_map];congr 1;apply Array.ext';simp[Function.comp_def]
def Jd (W H:Int) (xs ys:List Int) (src:ByteArray):List Int:=[85,W,H]++xs++ys++[(src.size:Int) / 256,(src.size:Int) % 256]++nums src
def Ac (W H:Int) (xs ys:List Int) (src:ByteArray):Int:=if bi W H xs ys=0 then(if 300<src.size then 7 else 0) else bi W H xs ys
def Bq (W H:Int) (xs ys:List Int) (src:ByteArray):ByteArray:=if Ac W H xs ys src=0 then strOfNums (Jd W H xs ys src) else ByteArray.empty
theorem jJ {a b:Int} (h:a=b):Ending.returned (.int k a)=.returned (.int k b):=by rw[h]
theorem cO {a b:Bool} (h:a=b):Ending.returned (.bool a)=.returned (.bool b):=by rw[h]
theorem xw (p:Int->Bool) (xs:List Int) (k:Nat) (h:k<xs.length):(xs.take (k+1)).all p=((xs.take k).all p&&p (xs.getD k 0)):=by
 rw[zZ h,List.all_append];simp only[List.all_cons,List.all_nil,Bool.and_true,List.getD,aU h,rQ]
theorem uW (p:Int->Bool) (xs:List Int) (k:Nat) (h:k<xs.length) (hp:p (xs.getD k 0)=false):xs.all p=false:=by
 rw[gW];intro hall;have:=wC.1 hall (xs[k]) (jW h);simp[List.getD,aU h]at hp;simp[hp]at this
theorem Vx (h:Below (w.alloc (.cells #[c0,c1,c2,c3,c4] T)).heap.size (w.alloc (.cells #[c0,c1,c2,c3,c4] T)) w') :
  w'.cell? ⟨w.heap.size,0,none⟩=some c0/\w'.cell? ⟨w.heap.size,1,none⟩=some c1/\w'.cell? ⟨w.heap.size,2,none⟩=some c2/\w'.cell? ⟨w.heap.size,3,none⟩=some c3/\w'.cell? ⟨w.heap.size,4,none⟩=some c4/\w.heap.size<w'.heap.size:=by
 have hc:∀i,w'.cell? ⟨w.heap.size,i,none⟩=#[c0,c1,c2,c3,c4][i]?:=λi=>
  (h.cell (p:=⟨w.heap.size,i,none⟩) (by simp)).trans (World.cell?_alloc_at _ _ _ _ rfl)
 exact⟨hc 0,hc 1,hc 2,hc 3,hc 4,by have:=h.size;simp at this;omega⟩
theorem Za {a b:ByteArray} (h:a=b):Ending.returned (.tuple #[.string a,.int .i64 e])=.returned (.tuple #[.string b,.int .i64 e]):=by rw[h]
theorem yB (a b:List Int):strOfNums (a++b)=strOfNums a++strOfNums b:=by
 apply ByteArray.ext;simp[strOfNums,ByteArray.data_append]
theorem Q8 (W H:Int) (xs ys:List Int) (src:ByteArray) (s1 s2:List Int) (h1:s1=[85,W,H]++xs++ys) (h2:s2=[(src.size:Int) / 256,(src.size:Int) % 256]) :
  strOfNums s1++strOfNums s2++src=strOfNums (Jd W H xs ys src):=by
 subst h1 h2
 conv=>lhs;rw[<-AC src]
 rw[<-yB,<-yB];simp only[Jd,AC]
theorem jM {i:Nat} (k:w.cell? ⟨n,i,none⟩=some v) (h:Below (n+1) w w'):w'.cell? ⟨n,i,none⟩=some v:=
 (h.cell (p:=⟨n,i,none⟩) (by simp)).trans k
theorem Ho (w:World) (cs:List Value) (T:TypeId):∀j u,cs[j]?=some u->(w.alloc (.cells cs.toArray T)).cell? ((⟨w.heap.size,0,none⟩:Addr).add j)=some u:=by
 intro j u h;have hadd:(⟨w.heap.size,0,none⟩:Addr).add j=⟨w.heap.size,j,none⟩:=by unfold Addr.add;split<;>simp_all
 rw[hadd,World.cell?_alloc_at _ _ _ _ rfl];simpa using h
theorem Hw {base:Nat} (h:w.ownsRow base 5 1 v n (ns.map (Value.int .u8))) :
  (convert 94 9 v).run Tryz.prog w=.ok (.string (strOfNums ns)) w:=by
 have hl:ns.length=n:=by simpa using h.1
 rcases h.2 with⟨rfl,rfl⟩|⟨g,cap,cur,rfl,_⟩
 .have:ns=[]:=Bc hl;subst this;rw[run_convert_bytes_nil w 94 5 Tryz.underlying94 Tryz.underlying5 0 0 9 Tryz.underlying9];rfl
 .refine run_convert_bytes_arg w 94 5 Tryz.underlying94 Tryz.underlying5 g 0 n cap ns hl (λi hi=>?_) 9 Tryz.underlying9;have hc:=h.cellAt i (by omega);rw[pM,hc,lY,aU (by omega)];simp[List.getD,aU (show i<ns.length by omega)]
theorem Oh (b:ByteArray) (i:Nat) (c:Int) (hc:c=(i:Int)) (h:i<b.size) (u:World):(Instr.index 9 (.string b) (.int .i64 c)).run Tryz.prog u=.ok (.int .u8 (b[i].toNat:Int)) u:=by
 subst hc;rw[run_index_string (P:=Tryz.prog) u 9 b .i64 (i:Int) Tryz.underlying9,dif_pos ⟨by omega,by omega⟩];simp
theorem GU (b:ByteArray) (i j:Nat) (c d:Int) (hc:c=(i:Int)) (hd:d=(j:Int)) (h1:i<=j) (h2:j<=b.size) (u:World):(Instr.slice 9 (.string b) (some (.int .i64 c)) (some (.int .i64 d)) none).run Tryz.prog u=.ok (.string (b.extract i j)) u:=by
 subst hc hd;rw[run_slice_string (P:=Tryz.prog) u 9 b .i64 .i64 (i:Int) (j:Int) Tryz.underlying9 (by omega) (by omega) (by omega)];simp
theorem PQ (b:ByteArray) (i:Nat) (c:Int) (hc:c=(i:Int)) (h2:i<=b.size) (u:World):(Instr.slice 9 (.string b) (some (.int .i64 c)) none none).run Tryz.prog u=.ok (.string (b.extract i b.size)) u:=by
 subst hc;have h:=run_slice_string_l (P:=Tryz.prog) (w:=u) (t:=9) (s:=b) (ht:=Tryz.underlying9) .i64 (i:Int) (by omega) (by omega);simpa using h
theorem yM (x:Int) (h0:0<=x) (h1:x<=1000):IntKind.i64.wrap x=x/\wrap64 x=x:=by
 have e:wrap64 x=x:=IntWalk.wrap64_in x ⟨by omega,by omega⟩;refine⟨?_,e⟩;rw[IntKind.wrap_i64];unfold wrap64 at e;exact e
theorem Gv (h:Below w.heap.size w w') (r:Option Nat):w.grownBy w' r:=⟨h.os,h.tape,h.output,h.size,λk hk _=>h.block k hk⟩
theorem ji (w:World) (o1 o2:Obj):Below w.heap.size w ((w.alloc o1).alloc o2):=((ax _ _).alloc (af _) o1).alloc (by simp) o2
theorem jK (s:ByteArray) (a b:Nat):nums (s.extract a b)=((nums s).drop a).take (b-a):=by
 simp only[nums];rw[Lib.extract_data,List.map_take,List.map_drop]
def rC:List Int:=[8592,8230,215,247,8804,8800,43,45,61,60,40,41,123,125,91,93,44,59]
def yF (r:Int):Int:=if r=32∨r=10 then 1 else if r∈rC then 4 else if 97<=r/\r<=122 then 2 else if 48<=r/\r<=57 then 3 else 0
theorem Qb (r:Int) (w:World):Calls Tryz.prog 83 #[.int .i32 r] w λe w'=>e=.returned (.int .i64 (yF r))/\w'=w:=by
 by_cases h1:r=32∨r=10
 .have e:yF r=1:=by unfold yF;rw[ag h1]
  rw[e];rcases h1 with rfl|rfl
  all_goals
   go_enter Tryz.func83,Tryz.ntmps83;go_wp2;go_ret;exact⟨rfl,rfl⟩
 by_cases h2:r∈rC
 .have e:yF r=4:=by unfold yF;rw[ae h1,ag h2]
  rw[e];clear h1 e;simp only[rC,aO,aQ,aR]at h2;rcases h2 with rfl|rfl|rfl|rfl|rfl|rfl|rfl|rfl|rfl|rfl|rfl|rfl|rfl|rfl|rfl|rfl|rfl|rfl
  all_goals
   go_enter Tryz.func83,Tryz.ntmps83;go_wp2;go_ret;exact⟨rfl,rfl⟩
 have n1:¬ r=32:=λe=>h1 (.inl e);have n2:¬ r=10:=λe=>h1 (.inr e);simp only[rC,aO,aQ,aR,not_or]at h2;obtain⟨m1,m2,m3,m4,m5,m6,m7,m8,m9,m10,m11,m12,m13,m14,m15,m16,m17,m18⟩:=h2;have hn:r ∉ rC:=by simp only[rC,aO,aQ,aR,not_or];exact⟨m1,m2,m3,m4,m5,m6,m7,m8,m9,m10,m11,m12,m13,m14,m15,m16,m17,m18⟩
 by_cases h3:97<=r/\r<=122
 .have e:yF r=2:=by unfold yF;rw[ae h1,ae hn,ag h3]
  rw[e];obtain⟨h4,h5⟩:=h3;clear h1 hn e;go_enter Tryz.func83,Tryz.ntmps83;go_wp2;go_ret;exact⟨rfl,rfl⟩
 by_cases h6:48<=r/\r<=57
 .have e:yF r=3:=by unfold yF;rw[ae h1,ae hn,ae h3,ag h6]
  rw[e];obtain⟨h4,h5⟩:=h6;have h7:¬ 97<=r:=by omega
  clear h1 hn e h3;go_enter Tryz.func83,Tryz.ntmps83;go_wp2;go_ret;exact⟨rfl,rfl⟩
 have e:yF r=0:=by unfold yF;rw[ae h1,ae hn,ae h3,ae h6]
 rw[e];clear h1 hn e;by_cases a1:97<=r
 .have a2:¬ r<=122:=λh=>h3 ⟨a1,h⟩;have a3:48<=r:=by omega
  have a4:¬ r<=57:=by omega
  go_enter Tryz.func83,Tryz.ntmps83;go_wp2;go_ret;exact⟨rfl,rfl⟩
 .by_cases a2:48<=r
  .have a3:¬ r<=57:=λh=>h6 ⟨a2,h⟩;go_enter Tryz.func83,Tryz.ntmps83;go_wp2;go_ret;exact⟨rfl,rfl⟩
  .go_enter Tryz.func83,Tryz.ntmps83;go_wp2;go_ret;exact⟨rfl,rfl⟩
theorem Zz (r:Int) (h0:0<=r) (h1:r<128):Utf8.encode r=⟨#[r.toNat.toUInt8]⟩:=by
 have hv:Utf8.valid r=true:=by unfold Utf8.valid;simp;omega
 unfold Utf8.encode;rw[hv];simp only[if_true];rw[ag (by omega)]
theorem Mt (r:Int) (w:World) (b o:Nat) (wd:ByteArray) (hr:97<=r/\r<=122) (c0:w.cell? ⟨b,o,none⟩=some (.int .i64 2)) (c2:w.cell? ⟨b,o+2,none⟩=some (.string wd)) (z2:w.frozen? ⟨b,o+2,none⟩=false) (hl:wd.size<=1000) :
  Calls Tryz.prog 84 #[.pointer (some ⟨b,o,none⟩),.int .i32 r] w λe w'=>e=.returned (.tuple #[])/\w'=w.setCell ⟨b,o+2,none⟩ (.string (wd++⟨#[r.toNat.toUInt8]⟩)):=by
 have he:=Zz r (by omega) (by omega);have hz:(Utf8.encode r).size=1:=by rw[he];rfl
 have HE:=aj he;obtain⟨h4,h5⟩:=hr;clear he;go_enter Tryz.func84,Tryz.ntmps84;go_wp2
 go_end0
 exact⟨rfl,by rw[aa HE]⟩
theorem Gy (r n:Int) (w:World) (b o:Nat) (hr:48<=r/\r<=57) (hn:0<=n/\n<=65535) (c0:w.cell? ⟨b,o,none⟩=some (.int .i64 3)) (c2:w.cell? ⟨b,o+3,none⟩=some (.int .i32 n)) (z2:w.frozen? ⟨b,o+3,none⟩=false) :
  Calls Tryz.prog 84 #[.pointer (some ⟨b,o,none⟩),.int .i32 r] w λe w'=>e=.returned (.tuple #[])/\w'=w.setCell ⟨b,o+3,none⟩ (.int .i32 (10*n+r-48)):=by
 obtain⟨h4,h5⟩:=hr;obtain⟨h6,h7⟩:=hn;go_enter Tryz.func84,Tryz.ntmps84;go_wp2
 go_end0
 exact⟨rfl,rfl⟩
theorem X0 (r s:Int) (w:World) (b o:Nat) (c0:w.cell? ⟨b,o,none⟩=some (.int .i64 4)) (c2:w.cell? ⟨b,o+4,none⟩=some (.int .i32 s)) (z2:w.frozen? ⟨b,o+4,none⟩=false) :
  Calls Tryz.prog 84 #[.pointer (some ⟨b,o,none⟩),.int .i32 r] w λe w'=>e=.returned (.tuple #[])/\w'=w.setCell ⟨b,o+4,none⟩ (.int .i32 r):=by
 go_enter Tryz.func84,Tryz.ntmps84;go_wp2
 go_end0
 exact⟨rfl,rfl⟩
def sJ (x:Int):Bool:=decide (97<=x)&&decide (x<=122)
def oQ (x:Int):Bool:=decide (48<=x)&&decide (x<=57)
def oJ (d:Bool) (L:List Int):Nat:=(L.takeWhile (λx=>if d then oQ x else sJ x)).length
def sO (L:List Int):Int:=L.foldl (λn x=>min (10*n+(x-48)) 65536) 0
theorem Jh (p:Int->Bool) (L:List Int):∀m,m<=L.length->(∀j,j<m->p (L.getD j 0)=true)->(m=L.length∨p (L.getD m 0)=false)->(L.takeWhile p).length=m:=by
 induction L with
 | nil=>intro m hm _ _;simp at hm;simp[hm]
 | cons x L ih=>
  intro m hm h1 h2
  cases m with
  | zero=>
   rcases h2 with h2|h2
   .simp at h2
   .have:p x=false:=by simpa using h2
    simp[this]
  | succ m=>
   have hx:p x=true:=by simpa using h1 0 (by omega)
   have:=ih m (by simpa using hm) (λj hj=>by simpa using h1 (j+1) (by omega)) (by simpa using h2);simp[hx,this]
theorem zO (L:List Int) (k:Nat) (h:k<L.length):sO (L.take (k+1))=min (10*sO (L.take k)+(L.getD k 0-48)) 65536:=by
 have e:L.getD k 0=L[k]:=by simp[List.getD,aU h]
 rw[zZ h,sO,List.foldl_append,e];rfl
theorem zY (L:List Int) (h:∀x∈L,oQ x=true):0<=sO L/\sO L<=65536:=by
 have:∀(L:List Int) (n:Int),(∀x∈L,oQ x=true)->0<=n->n<=65536->0<=L.foldl (λn x=>min (10*n+(x-48)) 65536) n/\L.foldl (λn x=>min (10*n+(x-48)) 65536) n<=65536:=by
  intro L
  induction L with
  | nil=>intro n _ h0 h1;exact⟨h0,h1⟩
  | cons x L ih=>
   intro n hd h0 h1;have hx:=hd x oq;simp[oQ]at hx;exact ih (min (10*n+(x-48)) 65536) (λy hy=>hd y (uA _ hy)) (by omega) (by omega)
 exact this L 0 h (by decide) (by decide)
theorem Md (h:w.heap[b]?=some (.cells #[c0,c1] ty (0,0))) :
  (w.cell? ⟨b,0,none⟩=some c0/\w.cell? ⟨b,1,none⟩=some c1)/\(w.frozen? ⟨b,0,none⟩=false/\w.frozen? ⟨b,1,none⟩=false):=by
 refine⟨⟨?_,?_⟩,?_,?_⟩<;>simp[World.cell?,World.frozen?,h]
theorem yQ (h:w.heap[b]?=some (.cells #[c0,c1,c2] ty (0,0))) :
  (w.cell? ⟨b,0,none⟩=some c0/\w.cell? ⟨b,1,none⟩=some c1/\w.cell? ⟨b,2,none⟩=some c2)/\(w.frozen? ⟨b,0,none⟩=false/\w.frozen? ⟨b,1,none⟩=false/\w.frozen? ⟨b,2,none⟩=false):=by
 refine⟨⟨?_,?_,?_⟩,?_,?_,?_⟩<;>simp[World.cell?,World.frozen?,h]
theorem kE (h:w.heap[b]?=some (.cells #[c0,c1,c2,c3,c4] ty (0,0))) :
  (w.cell? ⟨b,0,none⟩=some c0/\w.cell? ⟨b,1,none⟩=some c1/\w.cell? ⟨b,2,none⟩=some c2/\w.cell? ⟨b,3,none⟩=some c3/\w.cell? ⟨b,4,none⟩=some c4)/\(w.frozen? ⟨b,0,none⟩=false/\w.frozen? ⟨b,1,none⟩=false/\w.frozen? ⟨b,2,none⟩=false/\w.frozen? ⟨b,3,none⟩=false/\w.frozen? ⟨b,4,none⟩=false):=by
 refine⟨⟨?_,?_,?_,?_,?_⟩,?_,?_,?_,?_,?_⟩<;>simp[World.cell?,World.frozen?,h]
theorem zR (h:w.heap[b]?=some (.cells #[c0,c1,c2,c3,c4,c5,c6,c7,c8,c9,c10] ty (0,0))) :
  (w.cell? ⟨b,0,none⟩=some c0/\w.cell? ⟨b,1,none⟩=some c1/\w.cell? ⟨b,2,none⟩=some c2/\w.cell? ⟨b,3,none⟩=some c3/\w.cell? ⟨b,4,none⟩=some c4/\w.cell? ⟨b,5,none⟩=some c5/\w.cell? ⟨b,6,none⟩=some c6/\w.cell? ⟨b,7,none⟩=some c7/\w.cell? ⟨b,8,none⟩=some c8/\w.cell? ⟨b,9,none⟩=some c9/\w.cell? ⟨b,10,none⟩=some c10)/\(w.frozen? ⟨b,0,none⟩=false/\w.frozen? ⟨b,1,none⟩=false/\w.frozen? ⟨b,2,none⟩=false/\w.frozen? ⟨b,3,none⟩=false/\w.frozen? ⟨b,4,none⟩=false/\w.frozen? ⟨b,5,none⟩=false/\w.frozen? ⟨b,6,none⟩=false/\w.frozen? ⟨b,7,none⟩=false/\w.frozen? ⟨b,8,none⟩=false/\w.frozen? ⟨b,9,none⟩=false/\w.frozen? ⟨b,10,none⟩=false):=by
 refine⟨⟨?_,?_,?_,?_,?_,?_,?_,?_,?_,?_,?_⟩,?_,?_,?_,?_,?_,?_,?_,?_,?_,?_,?_⟩<;>simp[World.cell?,World.frozen?,h]
theorem qR {c11 c12:Value} (h:w.heap[b]?=some (.cells #[c0,c1,c2,c3,c4,c5,c6,c7,c8,c9,c10,c11,c12] ty (0,0))) :
  (w.cell? ⟨b,0,none⟩=some c0/\w.cell? ⟨b,1,none⟩=some c1/\w.cell? ⟨b,2,none⟩=some c2/\w.cell? ⟨b,3,none⟩=some c3/\w.cell? ⟨b,4,none⟩=some c4/\w.cell? ⟨b,5,none⟩=some c5/\w.cell? ⟨b,6,none⟩=some c6/\w.cell? ⟨b,7,none⟩=some c7/\w.cell? ⟨b,8,none⟩=some c8/\w.cell? ⟨b,9,none⟩=some c9/\w.cell? ⟨b,10,none⟩=some c10/\w.cell? ⟨b,11,none⟩=some c11/\w.cell? ⟨b,12,none⟩=some c12)/\(w.frozen? ⟨b,0,none⟩=false/\w.frozen? ⟨b,1,none⟩=false/\w.frozen? ⟨b,2,none⟩=false/\w.frozen? ⟨b,3,none⟩=false/\w.frozen? ⟨b,4,none⟩=false/\w.frozen? ⟨b,5,none⟩=false/\w.frozen? ⟨b,6,none⟩=false/\w.frozen? ⟨b,7,none⟩=false/\w.frozen? ⟨b,8,none⟩=false/\w.frozen? ⟨b,9,none⟩=false/\w.frozen? ⟨b,10,none⟩=false/\w.frozen? ⟨b,11,none⟩=false/\w.frozen? ⟨b,12,none⟩=false):=by
 refine⟨⟨?_,?_,?_,?_,?_,?_,?_,?_,?_,?_,?_,?_,?_⟩,?_,?_,?_,?_,?_,?_,?_,?_,?_,?_,?_,?_,?_⟩<;>simp[World.cell?,World.frozen?,h]
theorem zF {c11 c12 c13 c14 c15:Value} (h:w.heap[b]?=some (.cells #[c0,c1,c2,c3,c4,c5,c6,c7,c8,c9,c10,c11,c12,c13,c14,c15] ty (0,0))) :
  (w.cell? ⟨b,0,none⟩=some c0/\w.cell? ⟨b,1,none⟩=some c1/\w.cell? ⟨b,2,none⟩=some c2/\w.cell? ⟨b,3,none⟩=some c3/\w.cell? ⟨b,4,none⟩=some c4/\w.cell? ⟨b,5,none⟩=some c5/\w.cell? ⟨b,6,none⟩=some c6/\w.cell? ⟨b,7,none⟩=some c7/\w.cell? ⟨b,8,none⟩=some c8/\w.cell? ⟨b,9,none⟩=some c9/\w.cell? ⟨b,10,none⟩=some c10/\w.cell? ⟨b,11,none⟩=some c11/\w.cell? ⟨b,12,none⟩=some c12/\w.cell? ⟨b,13,none⟩=some c13/\w.cell? ⟨b,14,none⟩=some c14/\w.cell? ⟨b,15,none⟩=some c15)/\(w.frozen? ⟨b,0,none⟩=false/\w.frozen? ⟨b,1,none⟩=false/\w.frozen? ⟨b,2,none⟩=false/\w.frozen? ⟨b,3,none⟩=false/\w.frozen? ⟨b,4,none⟩=false/\w.frozen? ⟨b,5,none⟩=false/\w.frozen? ⟨b,6,none⟩=false/\w.frozen? ⟨b,7,none⟩=false/\w.frozen? ⟨b,8,none⟩=false/\w.frozen? ⟨b,9,none⟩=false/\w.frozen? ⟨b,10,none⟩=false/\w.frozen? ⟨b,11,none⟩=false/\w.frozen? ⟨b,12,none⟩=false/\w.frozen? ⟨b,13,none⟩=false/\w.frozen? ⟨b,14,none⟩=false/\w.frozen? ⟨b,15,none⟩=false):=by
 refine⟨⟨?_,?_,?_,?_,?_,?_,?_,?_,?_,?_,?_,?_,?_,?_,?_,?_⟩,?_,?_,?_,?_,?_,?_,?_,?_,?_,?_,?_,?_,?_,?_,?_,?_⟩<;>simp[World.cell?,World.frozen?,h]
theorem tC (v:Value) (w:World):(Instr.typeAssert (.iface 121 v) 113 121 true).run Tryz.prog w=.ok (.tuple #[v,.bool true]) w:=by kernel_rfl
theorem yJ (v:Value) (w:World):(Instr.typeAssert (.iface 124 v) 113 121 true).run Tryz.prog w=.ok (.tuple #[.agg #[.int .i64 0,.int .i64 0,.string ⟨#[]⟩,.int .i32 0,.int .i32 0,.int .i64 0,.int .i64 0,.string ⟨#[]⟩,.int .i32 0,.int .i32 0,.slice none 0 0],.bool false]) w:=by kernel_rfl
theorem Ib (v:Value) (w:World):(Instr.typeAssert (.iface 124 v) 113 124 true).run Tryz.prog w=.ok (.tuple #[v,.bool true]) w:=by kernel_rfl
theorem xg (v:Value) (w:World):(Instr.typeAssert (.iface 127 v) 113 121 true).run Tryz.prog w=.ok (.tuple #[.agg #[.int .i64 0,.int .i64 0,.string ⟨#[]⟩,.int .i32 0,.int .i32 0,.int .i64 0,.int .i64 0,.string ⟨#[]⟩,.int .i32 0,.int .i32 0,.slice none 0 0],.bool false]) w:=by kernel_rfl
theorem Ep (v:Value) (w:World):(Instr.typeAssert (.iface 127 v) 113 124 true).run Tryz.prog w=.ok (.tuple #[.agg #[.int .i64 0,.int .i64 0,.string ⟨#[]⟩,.int .i32 0,.int .i32 0,.int .i64 0,.int .i64 0,.string ⟨#[]⟩,.int .i32 0,.int .i32 0,.slice none 0 0,.slice none 0 0,.slice none 0 0],.bool false]) w:=by kernel_rfl
theorem Cb (v:Value) (w:World):(Instr.typeAssert (.iface 127 v) 113 127 true).run Tryz.prog w=.ok (.tuple #[v,.bool true]) w:=by kernel_rfl
theorem xf (v:Value) (w:World):(Instr.typeAssert (.iface 130 v) 113 121 true).run Tryz.prog w=.ok (.tuple #[.agg #[.int .i64 0,.int .i64 0,.string ⟨#[]⟩,.int .i32 0,.int .i32 0,.int .i64 0,.int .i64 0,.string ⟨#[]⟩,.int .i32 0,.int .i32 0,.slice none 0 0],.bool false]) w:=by kernel_rfl
theorem EB (v:Value) (w:World):(Instr.typeAssert (.iface 130 v) 113 124 true).run Tryz.prog w=.ok (.tuple #[.agg #[.int .i64 0,.int .i64 0,.string ⟨#[]⟩,.int .i32 0,.int .i32 0,.int .i64 0,.int .i64 0,.string ⟨#[]⟩,.int .i32 0,.int .i32 0,.slice none 0 0,.slice none 0 0,.slice none 0 0],.bool false]) w:=by kernel_rfl
theorem BL (v:Value) (w:World):(Instr.typeAssert (.iface 130 v) 113 127 true).run Tryz.prog w=.ok (.tuple #[.agg #[.int .i64 0,.int .i64 0,.string ⟨#[]⟩,.int .i32 0,.int .i32 0,.int .i64 0,.int .i64 0,.string ⟨#[]⟩,.int .i32 0,.int .i32 0,.int .i64 0,.int .i64 0,.string ⟨#[]⟩,.int .i32 0,.int .i32 0,.slice none 0 0],.bool false]) w:=by kernel_rfl
theorem Cg (v:Value) (w:World):(Instr.typeAssert (.iface 130 v) 113 130 true).run Tryz.prog w=.ok (.tuple #[v,.bool true]) w:=by kernel_rfl
theorem vU (n:Int) (w:World):Calls Tryz.prog 55 #[.int .i64 n] w λe w'=>e=.returned (.bool (dz n))/\w'=w:=by
 by_cases h1:1<=n
 .go_enter Tryz.func55,Tryz.ntmps55;go_wp2
  all_goals go_ret
  all_goals exact⟨cO (by simp[dz,h1]),rfl⟩
 .have h2:decide (1<=n)=false:=by simpa using h1
  go_enter Tryz.func55,Tryz.ntmps55;go_wp2
  all_goals go_ret
  all_goals exact⟨cO (by simp[dz,h2]),rfl⟩
theorem vF (ao:Option Addr) (c:Nat) (xs:List Int) (count:Int) (w:World) (B:Nat) (h:aF B w ao xs) (hl:xs.length<=maxLen) :
  Calls Tryz.prog 56 #[.slice ao xs.length c,.int .i64 count] w λe w'=>e=.returned (.bool (kS xs count))/\w'=w:=by
 unfold maxLen at hl;by_cases hc:(xs.length:Int)=count
 .have hc':((xs.length:Int) != count)=false:=by simp[hc]
  have HC:Hid ((xs.length:Int)=count):=hc;clear hc;go_enter Tryz.func56,Tryz.ntmps56;go_wp2
  go_loop [13] (λi=>∃k:Nat,k<=xs.length/\i=.int .i64 k/\(xs.take k).all bS=true) (λi=>xs.length-(intOf i).toNat)
  case atStart=>exact⟨0,bO _,rfl,by simp⟩
  case round=>
   obtain⟨k,hk,rfl,hall⟩:=hrel;have HA:Hid ((xs.take k).all bS=true):=hall;clear hall;by_cases hlt:k<xs.length
   .rcases h with h|⟨b,off,rfl,_,hcell⟩
    .simp[h]at hlt
    have hc1:=hcell k hlt;clear hcell;have HS:Hid ((xs.take (k+1)).all bS=((xs.take k).all bS&&bS (xs.getD k 0))):=xw bS xs k hlt;obtain⟨x,hx⟩:∃x,x=xs.getD k 0:=⟨_,rfl⟩;rw[<-hx]at hc1;have HX:Hid (x=xs.getD k 0):=hx;clear hx;by_cases h0:x<0
    .go_wp2
     all_goals go_ret
     all_goals refine⟨cO ?_,rfl⟩
     all_goals (have hf:bS (xs.getD k 0)=false:=by rw[<-HX.out];simp[bS];omega)
     all_goals simp[kS,uW bS xs k hlt hf]
    .have h0':decide (x<0)=false:=by simpa using h0
     by_cases h1:255<x
     .go_wp2
      all_goals go_ret
      all_goals refine⟨cO ?_,rfl⟩
      all_goals (have hf:bS (xs.getD k 0)=false:=by rw[<-HX.out];simp[bS];omega)
      all_goals simp[kS,uW bS xs k hlt hf]
     .go_wp2
      all_goals
       go_round
       case rel=>exact⟨k+1,by omega,by go_num,by rw[HS.out,HA.out,<-HX.out];simp[bS];omega⟩
       case measure=>simp[intOf];omega
   .go_wp2;go_ret;have hk':k=xs.length:=by omega
    have ha:=HA.out;rw[hk',List.take_length]at ha;exact⟨cO (by simp only[kS,ha,HC.out];simp),rfl⟩
 .have hc':((xs.length:Int) != count)=true:=by simp[hc]
  go_enter Tryz.func56,Tryz.ntmps56;go_wp2;go_ret;exact⟨cO (by simp[kS,hc]),rfl⟩
theorem vg (W H:Int) (ao bo:Option Addr) (c d:Nat) (xs ys:List Int) (src:ByteArray) (w:World) (B:Nat) (hB:B<=w.heap.size) (hx:aF B w ao xs) (hy:aF B w bo ys) (hlx:xs.length<=maxLen) (hly:ys.length<=maxLen) :
  Calls Tryz.prog 33 #[.agg #[.int .i64 W,.int .i64 H,.slice ao xs.length c,.slice bo ys.length d,.string src]] w λe w'=>e=.returned (.int .i64 (bi W H xs ys))/\Below w.heap.size w w':=by
 have hb:∀o,Below w.heap.size w (w.alloc o):=λo=>(ax _ _).alloc (af _) o;have hxa:∀o,aF B (w.alloc o) ao xs:=λo=>hx.later (hb o) hB;have hya:∀o,aF B (w.alloc o) bo ys:=λo=>hy.later (hb o) hB;clear hx hy;by_cases hW:dz W=true
 .by_cases hH:dz H=true
  .obtain⟨w1,w2,h1,h2,m1,m2⟩:=pO hW hH;by_cases hX:kS xs (W*H)=true
   .by_cases hY:kS ys (W*H)=true
    .go_enter Tryz.func33,Tryz.ntmps33;go_wp2_with (go_at_call 55;refine(vU _ _).mono ?_;rintro e w' ⟨rfl,rfl⟩);refine(vF ao c xs _ _ B (hxa _) hlx).mono ?_;rintro e w' ⟨rfl,rfl⟩;go_wp2_with fail;refine(vF bo d ys _ _ B (hya _) hly).mono ?_;rintro e w' ⟨rfl,rfl⟩;go_wp2;go_ret;exact⟨jJ (by simp[bi,hW,hH,hX,hY]),hb _⟩
    .go_enter Tryz.func33,Tryz.ntmps33;go_wp2_with (go_at_call 55;refine(vU _ _).mono ?_;rintro e w' ⟨rfl,rfl⟩);refine(vF ao c xs _ _ B (hxa _) hlx).mono ?_;rintro e w' ⟨rfl,rfl⟩;go_wp2_with fail;refine(vF bo d ys _ _ B (hya _) hly).mono ?_;rintro e w' ⟨rfl,rfl⟩;go_wp2;go_ret;exact⟨jJ (by simp[bi,hW,hH,hX,hY]),hb _⟩
   .go_enter Tryz.func33,Tryz.ntmps33;go_wp2_with (first|(go_at_call 55;refine(vU _ _).mono ?_;rintro e w' ⟨rfl,rfl⟩)|(go_at_call 56;refine(vF ao c xs _ _ B (hxa _) hlx).mono ?_;rintro e w' ⟨rfl,rfl⟩));go_ret;exact⟨jJ (by simp[bi,hW,hH,hX]),hb _⟩
  .go_enter Tryz.func33,Tryz.ntmps33;go_wp2_with (go_at_call 55;refine(vU _ _).mono ?_;rintro e w' ⟨rfl,rfl⟩);go_ret;exact⟨jJ (by simp[bi,hW,hH]),hb _⟩
 .go_enter Tryz.func33,Tryz.ntmps33;go_wp2_with (go_at_call 55;refine(vU _ _).mono ?_;rintro e w' ⟨rfl,rfl⟩);go_ret;exact⟨jJ (by simp[bi,hW]),hb _⟩
def iK (f e:Int):Int:=if f=0 then e else f
def uI (L:List Int) (f:Int):Int:=if f=0 then L.headD 0 else 0
def zI (L:List Int) (f:Int):List Int:=if f=0 then L.tail else L
def wG (L:List Int) (f:Int):Int:=if f=0 then(if L=[] then 1 else 0) else f
def rt:Nat->List Int->Int->List Int×List Int×Int
 | 0,L,f=>([],L,f)
 | n+1,L,f=>((rt n L f).1++[uI (rt n L f).2.1 (rt n L f).2.2],zI (rt n L f).2.1 (rt n L f).2.2,wG (rt n L f).2.1 (rt n L f).2.2)
def R9 (n:Nat) (L:List Int) (f:Int):List Int:=(rt n L f).1
def Fj (n:Nat) (L:List Int) (f:Int):List Int:=(rt n L f).2.1
def Cs (n:Nat) (L:List Int) (f:Int):Int:=(rt n L f).2.2
theorem Nq (L:List Int) (f:Int):R9 0 L f=[]:=rfl
theorem WQ (L:List Int) (f:Int):Fj 0 L f=L:=rfl
theorem IV (n:Nat) (L:List Int) (f:Int):R9 (n+1) L f=R9 n L f++[uI (Fj n L f) (Cs n L f)]:=rfl
theorem Ig (n:Nat) (L:List Int) (f:Int):Fj (n+1) L f=zI (Fj n L f) (Cs n L f):=rfl
theorem Ab (n:Nat) (L:List Int) (f:Int):Cs (n+1) L f=wG (Fj n L f) (Cs n L f):=rfl
theorem Gc (n:Nat) (L:List Int) (f:Int):(R9 n L f).length=n:=by
 induction n with
 | zero=>rfl
 | succ n ih=>rw[IV,iZ,ih];rfl
theorem XW (V:List Int) (n j:Nat) (v:Int) (hV:V.length=j) (hj:j<n):(V++List.replicate (n-j) 0).set j v=(V++[v])++List.replicate (n-(j+1)) 0:=by
 rw[yn _ _ (by omega),hV,cZ,gJ];congr 1;obtain⟨m,hm⟩:∃m,n-j=m+1:=⟨n-j-1,by omega⟩;rw[hm,show n-(j+1)=m by omega,List.replicate_succ,List.set_cons_zero];rfl
def Dv (L:List Int) (f:Int):Int:=if uI L f=85 then wG L f else iK (wG L f) 2
def wN (L:List Int) (f:Int):Int:=if dz (uI L f) then uI L f else 0
def vO (L:List Int) (f:Int):Int:=if dz (uI L f) then wG L f else iK (wG L f) 3
def Ha (L:List Int) (f:Int):Int:=if L=[] then f else iK f 5
theorem CP (L:List Int) (f:Int):0<=wN L f/\wN L f<=6:=by
 unfold wN;split
 .rename_i h;simp[dz]at h;omega
 .simp
def J3 (L:List Int) (f:Int):List Int:=zI (zI L f) (wG L f)
def EF (L:List Int) (f:Int):Int:=uI L f*256+uI (zI L f) (wG L f)
def xC (L:List Int) (f:Int):Int:=wG (zI L f) (wG L f)
def Hu (L:List Int) (f:Int):Int:=if 300<EF L f then iK (xC L f) 7 else xC L f
def BX (L:List Int) (f:Int):Int:=if(J3 L f).length<EF L f then iK (Hu L f) 1 else Hu L f
def Tg (L:List Int) (f:Int):List Int:=if BX L f=0 then(J3 L f).take (EF L f).toNat else []
def TR (L:List Int) (f:Int):List Int:=if BX L f=0 then(J3 L f).drop (EF L f).toNat else J3 L f
theorem xR (h:e≠0):iK f e≠0:=by unfold iK;split<;>simp_all
theorem QV {L:List Int} {f:Int} (h:300<EF L f) (h2:(J3 L f).length<EF L f):BX L f=iK (iK (xC L f) 7) 1/\Tg L f=[]/\TR L f=J3 L f:=by
 have e:BX L f=iK (iK (xC L f) 7) 1:=by simp only[BX,Hu,ag h,ag h2]
 have:BX L f≠0:=by rw[e];exact xR (by decide)
 exact⟨e,by simp[Tg,this],by simp[TR,this]⟩
theorem NQ {L:List Int} {f:Int} (h:300<EF L f) (h2:¬ (J3 L f).length<EF L f):BX L f=iK (xC L f) 7/\Tg L f=[]/\TR L f=J3 L f:=by
 have e:BX L f=iK (xC L f) 7:=by simp only[BX,Hu,ag h,ae h2]
 have:BX L f≠0:=by rw[e];exact xR (by decide)
 exact⟨e,by simp[Tg,this],by simp[TR,this]⟩
theorem Nv {L:List Int} {f:Int} (h:¬ 300<EF L f) (h2:(J3 L f).length<EF L f):BX L f=iK (xC L f) 1/\Tg L f=[]/\TR L f=J3 L f:=by
 have e:BX L f=iK (xC L f) 1:=by simp only[BX,Hu,ae h,ag h2]
 have:BX L f≠0:=by rw[e];exact xR (by decide)
 exact⟨e,by simp[Tg,this],by simp[TR,this]⟩
theorem Qf7 {L:List Int} {f:Int} (h:¬ 300<EF L f) (h2:¬ (J3 L f).length<EF L f) (h3:xC L f≠0):BX L f=xC L f/\Tg L f=[]/\TR L f=J3 L f:=by
 have e:BX L f=xC L f:=by simp only[BX,Hu,ae h,ae h2]
 have:BX L f≠0:=by rw[e];exact h3
 exact⟨e,by simp[Tg,this],by simp[TR,this]⟩
theorem Sb {L:List Int} {f:Int} (h:¬ 300<EF L f) (h2:¬ (J3 L f).length<EF L f) (h3:xC L f=0):BX L f=0/\Tg L f=(J3 L f).take (EF L f).toNat/\TR L f=(J3 L f).drop (EF L f).toNat:=by
 have e:BX L f=0:=by simp only[BX,Hu,ae h,ae h2,h3]
 exact⟨e,by simp[Tg,e],by simp[TR,e]⟩
def uQ (L:List Int):Prop:=∀x∈L,0<=x/\x<=255
theorem zk (s:ByteArray):uQ (nums s):=by
 intro x hx;simp only[nums,List.mem_map]at hx;obtain⟨b,_,rfl⟩:=hx;have:=b.toNat_lt;omega
theorem Io (h:uQ L) (f:Int):0<=uI L f/\uI L f<=255:=by
 unfold uI;split
 .cases L with
  | nil=>simp
  | cons a l=>simpa using h a (oq)
 .simp
theorem UL (h:uQ L) (f:Int):uQ (zI L f):=by
 unfold zI;split
 .exact λx hx=>h x (List.mem_of_mem_tail hx)
 .exact h
def BN (L:List Int):Int:=Dv L 0
def J9 (L:List Int):List Int:=zI L 0
def Km (L:List Int):Int:=wN (J9 L) (BN L)
def zG (L:List Int):Int:=vO (J9 L) (BN L)
def Ju (L:List Int):List Int:=zI (J9 L) (BN L)
def J4 (L:List Int):Int:=wN (Ju L) (zG L)
def yR (L:List Int):Int:=vO (Ju L) (zG L)
def LP (L:List Int):List Int:=zI (Ju L) (zG L)
def sN (L:List Int):Nat:=(Km L*J4 L).toNat
def rdX (L:List Int):List Int:=R9 (sN L) (LP L) (yR L)
def KT (L:List Int):Int:=Cs (sN L) (LP L) (yR L)
def NF (L:List Int):List Int:=Fj (sN L) (LP L) (yR L)
def rdY (L:List Int):List Int:=R9 (sN L) (NF L) (KT L)
def KS (L:List Int):Int:=Cs (sN L) (NF L) (KT L)
def Pd (L:List Int):List Int:=Fj (sN L) (NF L) (KT L)
def rdS (L:List Int):List Int:=Tg (Pd L) (KS L)
def TD (L:List Int):Int:=BX (Pd L) (KS L)
def Qa5 (L:List Int):List Int:=TR (Pd L) (KS L)
def QN (L:List Int):Int:=Ha (Qa5 L) (TD L)
theorem PW (L:List Int):0<=Km L/\Km L<=6/\0<=J4 L/\J4 L<=6/\0<=Km L*J4 L/\Km L*J4 L<=36/\Km L*J4 L=(sN L:Int):=by
 obtain⟨a,b⟩:=CP (J9 L) (BN L);obtain⟨c,d⟩:=CP (Ju L) (zG L);have h1:0<=Km L*J4 L:=Int.mul_nonneg a c;have h2:Km L*J4 L<=36:=by
  have:Km L*J4 L<=6*6:=uy b d c (by decide);omega
 exact⟨a,b,c,d,h1,h2,(Int.toNat_of_nonneg h1).symm⟩
structure kv (w:World) (rb:Nat) (s:ByteArray) (f:Int):Prop where
 c0:w.cell? ⟨rb,0,none⟩=some (.string s)
 c1:w.cell? ⟨rb,1,none⟩=some (.int .i64 f)
 z0:w.frozen? ⟨rb,0,none⟩=false
 z1:w.frozen? ⟨rb,1,none⟩=false
theorem dQ {a b c:World} (h:a.grownBy b r) (k:b.grownBy c r):a.grownBy c r:=
 ⟨k.os.trans h.os,k.tape.trans h.tape,k.output.trans h.output,iJ h.size k.size,λi hi hr=>(k.block i (Nat.lt_of_lt_of_le hi h.size) hr).trans (h.block i hi hr)⟩
theorem fK (w:World) (rb i:Nat) (v:Value):w.grownBy (w.setCell ⟨rb,i,none⟩ v) (some rb):=
 ⟨rfl,rfl,rfl,by simp[World.setCell],λk _ hk=>ay _ _ _ _ (λe=>hk (by rw[e]))⟩
theorem Ci (w:World) (r:Option Nat):w.grownBy w r:=⟨rfl,rfl,rfl,af _,λ_ _ _=>rfl⟩
theorem kv.lt (h:kv w rb s f):rb<w.heap.size:=fB w ⟨rb,0,none⟩ h.c0
theorem kv.later (h:kv w rb s f) (hb:Below B w w') (hB:rb<B):kv w' rb s f:=
 ⟨(hb.cell (p:=⟨rb,0,none⟩) hB).trans h.c0,(hb.cell (p:=⟨rb,1,none⟩) hB).trans h.c1,(hb.frozen (p:=⟨rb,0,none⟩) hB).trans h.z0,(hb.frozen (p:=⟨rb,1,none⟩) hB).trans h.z1⟩
theorem kv.set1 (h:kv w rb s f) (e:Int):kv (w.setCell ⟨rb,1,none⟩ (.int .i64 e)) rb s e:=by
 have hs:=h.c0;have hf:=h.c1;have z0:=h.z0;have z1:=h.z1;constructor<;>simp_all[go_sem]
theorem kv.set0 (h:kv w rb s f) (t:ByteArray):kv (w.setCell ⟨rb,0,none⟩ (.string t)) rb t f:=by
 have hs:=h.c0;have hf:=h.c1;have z0:=h.z0;have z1:=h.z1;constructor<;>simp_all[go_sem]
theorem vH (w:World) (rb:Nat) (s:ByteArray) (f e:Int) (h:kv w rb s f) :
  Calls Tryz.prog 80 #[.pointer (some ⟨rb,0,none⟩),.int .i64 e] w λr w'=>r=.returned (.tuple #[])/\kv w' rb s (iK f e)/\w.grownBy w' (some rb):=by
 have hc1:=h.c1;have hz1:=h.z1;by_cases h0:f=0
 .have e1:iK f e=e:=by simp[iK,h0]
  rw[e1];have h0':(f==0)=true:=by simp[h0]
  have HR:=h.set1 e;clear h h0 e1;go_enter Tryz.func80,Tryz.ntmps80;go_wp2
  go_end0
  exact⟨rfl,HR,fK _ _ _ _⟩
 .have e1:iK f e=f:=by simp[iK,h0]
  rw[e1];have h0':(f==0)=false:=by simp[h0]
  clear h0 e1;go_enter Tryz.func80,Tryz.ntmps80;go_wp2
  go_end0
  exact⟨rfl,h,Ci _ _⟩
theorem IG (h:s.size=0):nums s=[]:=Bc (by rw[bU];exact h)
theorem vY (s:ByteArray) (i:Nat) (h:i<s.size):(nums s)[i]?=some (s[i].toNat:Int):=by
 have h':i<s.data.toList.length:=by simpa using h
 simp only[nums,lY,aU h',Option.map_some];rfl
theorem TV (s:ByteArray):nums (s.extract 1 s.size)=(nums s).tail:=by
 rw[jK,oD (by simp[bU]),List.drop_one]
theorem SN (s:ByteArray) (h:0<s.size):(nums s).headD 0=(s[0].toNat:Int):=by
 have:=vY s 0 h
 cases hn:nums s with
 | nil=>rw[hn]at this;simp at this
 | cons a l=>rw[hn]at this;simpa using this
theorem wo (w:World) (rb:Nat) (s:ByteArray) (f:Int) (h:kv w rb s f) (hs:s.size<=maxLen) :
  Calls Tryz.prog 79 #[.pointer (some ⟨rb,0,none⟩)] w λr w'=>∃s',r=.returned (.int .i64 (uI (nums s) f))/\kv w' rb s' (wG (nums s) f)/\nums s'=zI (nums s) f/\w.grownBy w' (some rb)/\s'.size<=s.size:=by
 have hc0:=h.c0;have hc1:=h.c1;have hz0:=h.z0;unfold maxLen at hs;by_cases h0:f=0
 .by_cases hl:s.size=0
  .have hn:=IG hl;have e1:uI (nums s) f=0:=by simp[uI,hn]
   have e2:wG (nums s) f=iK f 1:=by simp[wG,iK,hn,h0]
   have e3:zI (nums s) f=nums s:=by simp[zI,hn]
   rw[e1,e2,e3];have h0':(f != 0)=false:=by simp[h0]
   have hl':((s.size:Int)==0)=true:=by simp[hl]
   clear h0 e1 e2 e3 hl hn;go_enter Tryz.func79,Tryz.ntmps79;go_wp2_with (go_at_call 80;refine(vH _ rb s f _ h).mono ?_;rintro r w1 ⟨rfl,hr,hg⟩);go_ret;exact⟨s,rfl,hr,rfl,hg,af _⟩
  .have hp:0<s.size:=by omega
   have e1:uI (nums s) f=(s[0].toNat:Int):=by simp only[uI,h0,if_true];exact SN s hp
   have hne:nums s≠[]:=by intro hn;have:=bU s;rw[hn]at this;simp at this;omega
   have e2:wG (nums s) f=0:=by simp[wG,h0,hne]
   have e3:zI (nums s) f=nums (s.extract 1 s.size):=by simp only[zI,h0,if_true];exact(TV s).symm
   rw[e1,e2,e3];subst h0;have HR:=h.set0 (s.extract 1 s.size);have hl':((s.size:Int)==0)=false:=beq_eq_false_iff_ne.2 (by omega);have HZ:Hid ((s.extract 1 s.size).size<=s.size):=by show(s.extract 1 s.size).size<=s.size;rw[ug];omega
   have hb0:((s[0]'hp).toNat:Int)<=255:=by have:=(s[0]'hp).toNat_lt;omega
   clear e1 e2 e3 hne h;go_enter Tryz.func79,Tryz.ntmps79;go_wp2;go_ret;exact⟨s.extract 1 s.size,rfl,HR,rfl,fK _ _ _ _,HZ.out⟩
 .have e1:uI (nums s) f=0:=by simp[uI,h0]
  have e2:wG (nums s) f=f:=by simp[wG,h0]
  have e3:zI (nums s) f=nums s:=by simp[zI,h0]
  rw[e1,e2,e3];have h0':(f != 0)=true:=by simp[h0]
  clear h0 e1 e2 e3;go_enter Tryz.func79,Tryz.ntmps79;go_wp2;go_ret;exact⟨s,rfl,h,rfl,Ci _ _,af _⟩
theorem SQ (W H:Int) (vx vy vs:Value) (w:World) (h:(dz W&&dz H)=false) :
  Calls Tryz.prog 22 #[.agg #[.int .i64 W,.int .i64 H,vx,vy,vs]] w λe w'=>e=.returned (.int .i64 3)/\Below w.heap.size w w':=by
 have hb:∀o,Below w.heap.size w (w.alloc o):=λo=>(ax _ _).alloc (af _) o;by_cases h1:W<1
 .go_enter Tryz.func22,Tryz.ntmps22;go_wp2;go_ret;exact⟨rfl,hb _⟩
 .have d1:decide (W<1)=false:=by simpa using h1
  by_cases h2:6<W
  .go_enter Tryz.func22,Tryz.ntmps22;go_wp2;go_ret;exact⟨rfl,hb _⟩
  .have d2:decide (6<W)=false:=by simpa using h2
   by_cases h3:H<1
   .go_enter Tryz.func22,Tryz.ntmps22;go_wp2;go_ret;exact⟨rfl,hb _⟩
   .have d3:decide (H<1)=false:=by simpa using h3
    have h4:6<H:=by simp[dz]at h;omega
    go_enter Tryz.func22,Tryz.ntmps22;go_wp2;go_ret;exact⟨rfl,hb _⟩
theorem Xi (W H:Int) (ao bo:Option Addr) (n c m d:Nat) (vs:Value) (w:World) (hW:dz W=true) (hH:dz H=true) (_hn:n<=maxLen) (_hm:m<=maxLen) (h:¬ ((n:Int)=W*H/\(m:Int)=W*H)) :
  Calls Tryz.prog 22 #[.agg #[.int .i64 W,.int .i64 H,.slice ao n c,.slice bo m d,vs]] w λe w'=>e=.returned (.int .i64 6)/\Below w.heap.size w w':=by
 have hb:∀o,Below w.heap.size w (w.alloc o):=λo=>(ax _ _).alloc (af _) o;obtain⟨b1,b2,b3,b4,b5,b6⟩:=pO hW hH;clear hW hH;have d1:decide (W<1)=false:=by simp;omega
 have d2:decide (6<W)=false:=by simp;omega
 have d3:decide (H<1)=false:=by simp;omega
 have d4:decide (6<H)=false:=by simp;omega
 by_cases h1:(n:Int)=W*H
 .have e1:((n:Int) != W*H)=false:=by simp[h1]
  have e2:((m:Int) != W*H)=true:=by simp;exact λh2=>h ⟨h1,h2⟩
  clear h h1;go_enter Tryz.func22,Tryz.ntmps22;go_wp2;go_ret;exact⟨rfl,hb _⟩
 .have e1:((n:Int) != W*H)=true:=by simp[h1]
  clear h;go_enter Tryz.func22,Tryz.ntmps22;go_wp2;go_ret;exact⟨rfl,hb _⟩
theorem Ud (W H:Int) (ao bo:Option Addr) (c d:Nat) (xs ys:List Int) (vs:Value) (w:World) (hx:aF w.heap.size w ao xs) (hy:aF w.heap.size w bo ys) (hW:dz W=true) (hH:dz H=true) (lx:(xs.length:Int)=W*H) (ly:(ys.length:Int)=W*H) :
  Calls Tryz.prog 22 #[.agg #[.int .i64 W,.int .i64 H,.slice ao xs.length c,.slice bo ys.length d,vs]] w λe w'=>e=.returned (.int .i64 (bi W H xs ys))/\Below w.heap.size w w':=by
 have hb:∀o,Below w.heap.size w (w.alloc o):=λo=>(ax _ _).alloc (af _) o;obtain⟨b1,b2,b3,b4,b5,b6⟩:=pO hW hH;have ES:Hid (bi W H xs ys=if xs.all bS&&ys.all bS then 0 else 6):=by show bi W H xs ys=_;simp only[bi,hW,hH,kS,lx,ly];simp
 clear hW hH;have d1:decide (W<1)=false:=by simp;omega
 have d2:decide (6<W)=false:=by simp;omega
 have d3:decide (H<1)=false:=by simp;omega
 have d4:decide (6<H)=false:=by simp;omega
 have e1:((xs.length:Int) != W*H)=false:=by simp[lx]
 have e2:((ys.length:Int) != W*H)=false:=by simp[ly]
 have LX:Hid ((xs.length:Int)=W*H):=lx;have LY:Hid ((ys.length:Int)=W*H):=ly;clear lx ly;go_enter Tryz.func22,Tryz.ntmps22;go_wp2
 go_loop [3] (λi=>∃k:Nat,(k:Int)<=W*H/\i=.int .i64 k/\(xs.take k).all bS=true/\(ys.take k).all bS=true) (λi=>(W*H-intOf i).toNat)
 case atStart=>exact⟨0,by omega,rfl,by simp,by simp⟩
 case round=>
  obtain⟨k,hk,rfl,hax,hay⟩:=hrel;have HX:Hid ((xs.take k).all bS=true):=hax;have HY:Hid ((ys.take k).all bS=true):=hay;clear hax hay;by_cases hlt:(k:Int)<W*H
  .have hkx:k<xs.length:=by have:=LX.out;omega
   have hky:k<ys.length:=by have:=LY.out;omega
   rcases hx with hx|⟨b,off,rfl,hbB,hcx⟩
   .simp[hx]at hkx
   rcases hy with hy|⟨b',off',rfl,hbB',hcy⟩
   .simp[hy]at hky
   have cx:=hcx k hkx;have cy:=hcy k hky;clear hcx hcy;have SX:Hid ((xs.take (k+1)).all bS=((xs.take k).all bS&&bS (xs.getD k 0))):=xw bS xs k hkx;have SY:Hid ((ys.take (k+1)).all bS=((ys.take k).all bS&&bS (ys.getD k 0))):=xw bS ys k hky;have FX:Hid (bS (xs.getD k 0)=false->bi W H xs ys=6):=λh=>by rw[ES.out];simp[uW bS xs k hkx h]
   have FY:Hid (bS (ys.getD k 0)=false->bi W H xs ys=6):=λh=>by rw[ES.out];simp[uW bS ys k hky h]
   generalize xs.getD k 0=x at cx SX FX;generalize ys.getD k 0=y at cy SY FY;by_cases x0:x<0
   .go_wp2;go_ret;exact⟨jJ (FX.out (by simp[bS];omega)).symm,hb _⟩
   have x0':decide (x<0)=false:=by simpa using x0
   by_cases x1:255<x
   .go_wp2;go_ret;exact⟨jJ (FX.out (by simp[bS];omega)).symm,hb _⟩
   have x1':decide (255<x)=false:=by simpa using x1
   by_cases y0:y<0
   .go_wp2;go_ret;exact⟨jJ (FY.out (by simp[bS];omega)).symm,hb _⟩
   have y0':decide (y<0)=false:=by simpa using y0
   by_cases y1:255<y
   .go_wp2;go_ret;exact⟨jJ (FY.out (by simp[bS];omega)).symm,hb _⟩
   have y1':decide (255<y)=false:=by simpa using y1
   go_wp2
   go_round
   case rel=>exact⟨k+1,by omega,by go_num,by rw[SX.out,HX.out];simp[bS];omega,by rw[SY.out,HY.out];simp[bS];omega⟩
   case measure=>simp[intOf];omega
  .go_wp2;go_ret;have l1:=LX.out;have l2:=LY.out;have a1:=HX.out;have a2:=HY.out;rw[oD (by omega)]at a1 a2;exact⟨jJ (by rw[ES.out];simp[a1,a2]),hb _⟩
theorem CK (W H:Int) (ao bo:Option Addr) (c d:Nat) (xs ys:List Int) (vs:Value) (w:World) (hx:aF w.heap.size w ao xs) (hy:aF w.heap.size w bo ys) (hlx:xs.length<=maxLen) (hly:ys.length<=maxLen) :
  Calls Tryz.prog 22 #[.agg #[.int .i64 W,.int .i64 H,.slice ao xs.length c,.slice bo ys.length d,vs]] w λe w'=>e=.returned (.int .i64 (bi W H xs ys))/\Below w.heap.size w w':=by
 by_cases hs:(dz W&&dz H)=true
 .have hs':=hs;simp only[dC]at hs';by_cases hl:(xs.length:Int)=W*H/\(ys.length:Int)=W*H
  .exact Ud W H ao bo c d xs ys vs w hx hy hs'.1 hs'.2 hl.1 hl.2
  .have e:bi W H xs ys=6:=by
    have hn:¬ (kS xs (W*H)&&kS ys (W*H))=true:=by
     intro h;simp only[kS,dC,decide_eq_true_eq]at h;exact hl ⟨h.1.1,h.2.1⟩
    rw[bi,ag hs,ae hn]
   rw[e];exact Xi W H ao bo _ c _ d vs w hs'.1 hs'.2 hlx hly hl
 .have hs':(dz W&&dz H)=false:=by simpa using hs
  have e:bi W H xs ys=3:=by simp[bi,hs']
  rw[e];exact SQ W H _ _ vs w hs'
theorem Yz (w:World) (rb:Nat) (s:ByteArray) (f:Int) (h:kv w rb s f) (hs:s.size<=maxLen) :
  Calls Tryz.prog 50 #[.pointer (some ⟨rb,0,none⟩)] w λr w'=>∃s',r=.returned (.tuple #[])/\kv w' rb s' (Dv (nums s) f)/\nums s'=zI (nums s) f/\w.grownBy w' (some rb)/\s'.size<=s.size:=by
 by_cases h0:uI (nums s) f=85
 .have e1:Dv (nums s) f=wG (nums s) f:=by simp[Dv,h0]
  rw[e1];have h0':(uI (nums s) f != 85)=false:=by simp[h0]
  clear h0 e1;go_enter Tryz.func50,Tryz.ntmps50;go_wp2_with (go_at_call 79;refine(wo _ rb s f h hs).mono ?_;rintro r w1 ⟨s',rfl,hr,hn,hg,hz⟩)
  go_end0
  exact⟨s',rfl,hr,hn,hg,hz⟩
 .have e1:Dv (nums s) f=iK (wG (nums s) f) 2:=by simp[Dv,h0]
  rw[e1];have h0':(uI (nums s) f != 85)=true:=by simp[h0]
  clear h0 e1;go_enter Tryz.func50,Tryz.ntmps50;go_wp2_with (go_at_call 79;refine(wo _ rb s f h hs).mono ?_;rintro r w1 ⟨s',rfl,hr,hn,hg,hz⟩);refine(vH _ rb s' _ _ hr).mono ?_;rintro r w2 ⟨rfl,hr2,hg2⟩;go_wp2
  go_end0
  exact⟨s',rfl,hr2,hn,dQ hg hg2,hz⟩
theorem JK (w:World) (rb:Nat) (s:ByteArray) (f:Int) (h:kv w rb s f) (hs:s.size<=maxLen) :
  Calls Tryz.prog 51 #[.pointer (some ⟨rb,0,none⟩)] w λr w'=>∃s',r=.returned (.int .i64 (wN (nums s) f))/\kv w' rb s' (vO (nums s) f)/\nums s'=zI (nums s) f/\w.grownBy w' (some rb)/\s'.size<=s.size:=by
 by_cases h0:dz (uI (nums s) f)=true
 .have e1:vO (nums s) f=wG (nums s) f:=by simp[vO,h0]
  have e2:wN (nums s) f=uI (nums s) f:=by simp[wN,h0]
  rw[e1,e2];clear e1 e2;go_enter Tryz.func51,Tryz.ntmps51;go_wp2_with fail;refine(wo _ rb s f h hs).mono ?_;rintro r w1 ⟨s',rfl,hr,hn,hg,hz⟩;have HN:Hid (nums s'=zI (nums s) f):=hn;clear hn;go_wp2_with (go_at_call 55;refine(vU _ _).mono ?_;rintro e w' ⟨rfl,rfl⟩);go_ret;exact⟨s',rfl,hr,HN.out,hg,hz⟩
 .have e1:vO (nums s) f=iK (wG (nums s) f) 3:=by simp[vO,h0]
  have e2:wN (nums s) f=0:=by simp[wN,h0]
  rw[e1,e2];clear e1 e2;go_enter Tryz.func51,Tryz.ntmps51;go_wp2_with fail;refine(wo _ rb s f h hs).mono ?_;rintro r w1 ⟨s',rfl,hr,hn,hg,hz⟩;have HN:Hid (nums s'=zI (nums s) f):=hn;clear hn;go_wp2_with (go_at_call 55;refine(vU _ _).mono ?_;rintro e w' ⟨rfl,rfl⟩);refine(vH _ rb s' _ _ hr).mono ?_;rintro r w2 ⟨rfl,hr2,hg2⟩;go_wp2;go_ret;exact⟨s',rfl,hr2,HN.out,dQ hg hg2,hz⟩
theorem Yc (w:World) (rb:Nat) (s:ByteArray) (f:Int) (h:kv w rb s f) (hs:s.size<=maxLen) :
  Calls Tryz.prog 54 #[.pointer (some ⟨rb,0,none⟩)] w λr w'=>r=.returned (.tuple #[])/\kv w' rb s (Ha (nums s) f)/\w.grownBy w' (some rb):=by
 have hc0:=h.c0;unfold maxLen at hs;by_cases h0:s.size=0
 .have e1:Ha (nums s) f=f:=by simp[Ha,IG h0]
  rw[e1];have h0':¬ (0:Int)<(s.size:Int):=by omega
  clear e1;go_enter Tryz.func54,Tryz.ntmps54;go_wp2
  go_end0
  exact⟨rfl,h,Ci _ _⟩
 .have hne:nums s≠[]:=by intro hn;have:=bU s;rw[hn]at this;simp at this;omega
  have e1:Ha (nums s) f=iK f 5:=by simp[Ha,hne]
  rw[e1];have h0':(0:Int)<(s.size:Int):=by omega
  clear e1 hne;go_enter Tryz.func54,Tryz.ntmps54;go_wp2_with (go_at_call 80;refine(vH _ rb s f _ h).mono ?_;rintro r w1 ⟨rfl,hr,hg⟩)
  go_end0
  exact⟨rfl,hr,hg⟩
def tE (n:Nat) (M:List Int):Int:=
 if M.length<2+2*n then 1
 else if 300<M.getD (2*n) 0*256+M.getD (2*n+1) 0 then 7
 else if((M.length-2-2*n:Nat):Int)<M.getD (2*n) 0*256+M.getD (2*n+1) 0 then 1
 else if M.getD (2*n) 0*256+M.getD (2*n+1) 0<((M.length-2-2*n:Nat):Int) then 5
 else 0
def dE (L:List Int):Int:=
 match L with
 | []=>1
 | a::L1=>if a=85 then(match L1 with
  | []=>1
  | x::L2=>if dz x then(match L2 with
   | []=>1
   | y::M=>if dz y then tE (x*y).toNat M else 3) else 3) else 2
theorem OT (n:Nat) (L:List Int) (f:Int) (h:f≠0):Fj n L f=L/\Cs n L f=f:=by
 induction n with
 | zero=>exact⟨rfl,rfl⟩
 | succ n ih=>rw[Ig,Ab,ih.1,ih.2];simp[zI,wG,h]
theorem L9 (n:Nat) (L:List Int) (h:n<=L.length):R9 n L 0=L.take n/\Fj n L 0=L.drop n/\Cs n L 0=0:=by
 induction n with
 | zero=>exact⟨by simp[Nq],by simp[WQ],rfl⟩
 | succ n ih=>
  obtain⟨a,b,c⟩:=ih (by omega);have hd:L.drop n≠[]:=by intro e;have:=dO List.length e;simp at this;omega
  refine⟨?_,?_,?_⟩
  .rw[IV,a,b,c,zZ (by omega)];congr 1;simp only[uI,if_true];rw[List.headD_eq_head?_getD,List.head?_drop,aU (by omega)];rfl
  .rw[Ig,b,c];simp[zI]
  .rw[Ab,b,c];simp only[wG,if_true,ae hd]
theorem N9 (n:Nat) (L:List Int) (h:L.length<n):Cs n L 0=1:=by
 induction n with
 | zero=>omega
 | succ n ih=>
  by_cases hl:L.length<n
  .rw[Ab,ih hl];rfl
  .have hn:n=L.length:=by omega
   obtain⟨a,b,c⟩:=L9 n L (by omega);rw[Ab,b,c,hn,List.drop_length];rfl
theorem LD (L:List Int) (f:Int) (h:f≠0):BX L f=f:=by
 have e1:wG L f=f:=by simp[wG,h]
 have e2:zI L f=L:=by simp[zI,h]
 have e3:EF L f=0:=by simp[EF,uI,e1,h]
 have e4:xC L f=f:=by simp[xC,e1,e2]
 have h1:¬ 300<EF L f:=by rw[e3];decide
 have h2:¬ ((J3 L f).length:Int)<EF L f:=by rw[e3];omega
 rw[BX,ae h2,Hu,ae h1,e4]
theorem yf (L:List Int) (f:Int) (h:f≠0):Ha L f=f:=by
 unfold Ha iK;split<;>simp_all
theorem XJ (L:List Int) (h:yR L≠0):QN L=yR L:=by
 have a:KT L=yR L:=(OT _ _ _ h).2;have b:KS L=yR L:=by rw[KS,a];exact(OT _ _ _ h).2
 have c:TD L=yR L:=by rw[TD,b];exact LD _ _ h
 rw[QN,c];exact yf _ _ h
theorem JV (L:List Int) (f:Int) (h:f≠0):vO L f=f:=by
 have e1:uI L f=0:=by simp[uI,h]
 have e2:wG L f=f:=by simp[wG,h]
 simp[vO,e1,e2,dz,iK,h]
theorem XN (L:List Int) (h:zG L≠0):QN L=zG L:=by
 have a:yR L=zG L:=JV _ _ h;rw[XJ L (by rw[a];exact h),a]
theorem Qe7 (L:List Int) (h:BN L≠0):QN L=BN L:=by
 have a:zG L=BN L:=JV _ _ h;rw[XN L (by rw[a];exact h),a]
theorem Qh9 (a c:Int) (K:List Int):EF (a::c::K) 0=a*256+c/\J3 (a::c::K) 0=K/\xC (a::c::K) 0=0:=by
 refine⟨?_,?_,?_⟩<;>simp[EF,J3,xC,uI,zI,wG]
theorem Zw (K:List Int) (h:K.length<2):BX K 0=1:=by
 match K,h with
 | [],_=>simp[BX,Hu,xC,EF,J3,uI,zI,wG]
 | [a],_=>
  have e:xC [a] 0=1:=by simp[xC,zI,wG]
  have e3:Hu [a] 0=1:=by unfold Hu;split<;>simp[e,iK]
  unfold BX;split<;>simp[e3,iK]
theorem Rt (n:Nat) (M:List Int) (hb:uQ M) :
  Ha (TR (Fj n (Fj n M 0) (Cs n M 0)) (Cs n (Fj n M 0) (Cs n M 0))) (BX (Fj n (Fj n M 0) (Cs n M 0)) (Cs n (Fj n M 0) (Cs n M 0)))=tE n M /\
  (tE n M=0->R9 n M 0=M.take n/\R9 n (Fj n M 0) (Cs n M 0)=(M.drop n).take n/\Tg (Fj n (Fj n M 0) (Cs n M 0)) (Cs n (Fj n M 0) (Cs n M 0))=M.drop (2+2*n)):=by
 by_cases h1:M.length<n
 .have e1:Cs n M 0=1:=N9 n M h1;have e2:=OT n (Fj n M 0) 1 (by decide);rw[e1,e2.2,LD _ 1 (by decide),yf _ 1 (by decide)];have:tE n M=1:=by rw[tE,ag (by omega)]
  exact⟨this.symm,λh=>by rw[this]at h;cases h⟩
 .obtain⟨a1,a2,a3⟩:=L9 n M (by omega);rw[a2,a3];by_cases h2:M.length<2*n
  .have e1:Cs n (M.drop n) 0=1:=N9 n _ (by rw[jy];omega);rw[e1,LD _ 1 (by decide),yf _ 1 (by decide)];have:tE n M=1:=by rw[tE,ag (by omega)]
   exact⟨this.symm,λh=>by rw[this]at h;cases h⟩
  .obtain⟨b1,b2,b3⟩:=L9 n (M.drop n) (by rw[jy];omega);rw[b2,b3,List.drop_drop,<-Nat.two_mul];by_cases h3:M.length<2+2*n
   .rw[Zw _ (by rw[jy];omega),yf _ 1 (by decide)];have:tE n M=1:=by rw[tE,ag h3]
    exact⟨this.symm,λh=>by rw[this]at h;cases h⟩
   .obtain⟨x,c,K,hK⟩:∃x c K,M.drop (2*n)=x::c::K:=by
     match hM:M.drop (2*n) with
     | []=>have:=dO List.length hM;simp at this;omega
     | [x]=>have:=dO List.length hM;simp at this;omega
     | x::c::K=>exact⟨x,c,K,rfl⟩
    have g0:M.getD (2*n) 0=x:=by
     have:=dO (λl=>l[0]?) hK;simp only[rV,jA,List.getElem?_cons_zero]at this;simp[List.getD,this]
    have g1:M.getD (2*n+1) 0=c:=by
     have:=dO (λl=>l[1]?) hK;simp only[rV,List.getElem?_cons_succ,List.getElem?_cons_zero]at this;simp[List.getD,this]
    have hKl:K.length=M.length-2-2*n:=by have:=dO List.length hK;simp at this;omega
    have hKd:K=M.drop (2+2*n):=by
     have:=dO (λl=>l.drop 2) hK;simp only[List.drop_drop]at this;rw[Nat.add_comm 2 (2*n),this];rfl
    have hx0:0<=x/\x<=255:=hb x (List.mem_of_mem_drop (by rw[hK];exact oq));have hc0:0<=c/\c<=255:=hb c (List.mem_of_mem_drop (by rw[hK];exact uA _ oq));obtain⟨s1,s2,s3⟩:=Qh9 x c K;have hT:tE n M=if 300<x*256+c then 7 else if(K.length:Int)<x*256+c then 1 else if x*256+c<(K.length:Int) then 5 else 0:=by
     rw[tE,ae h3,g0,g1,hKl]
    rw[hK,hT];by_cases h4:300<x*256+c
    .have hF:BX (x::c::K) 0=7:=by
      by_cases h5:((J3 (x::c::K) 0).length:Int)<EF (x::c::K) 0
      .rw[(QV (by rw[s1];exact h4) h5).1,s3];rfl
      .rw[(NQ (by rw[s1];exact h4) h5).1,s3];rfl
     rw[hF,yf _ 7 (by decide),ag h4];exact⟨rfl,λh=>by cases h⟩
    .rw[ae h4];by_cases h5:(K.length:Int)<x*256+c
     .have hF:BX (x::c::K) 0=1:=by rw[(Nv (by rw[s1];exact h4) (by rw[s1,s2];exact h5)).1,s3];rfl
      rw[hF,yf _ 1 (by decide),ag h5];exact⟨rfl,λh=>by cases h⟩
     .obtain⟨t1,t2,t3⟩:=Sb (by rw[s1];exact h4) (by rw[s1,s2];exact h5) s3;rw[t1,t3,t2,s1,s2,ae h5];by_cases h6:x*256+c<(K.length:Int)
      .rw[ag h6];have hne:K.drop (x*256+c).toNat≠[]:=by intro e;have:=dO List.length e;simp at this;omega
       exact⟨by simp[Ha,hne,iK],λh=>by cases h⟩
      .rw[ae h6];have he:K.drop (x*256+c).toNat=[]:=List.drop_eq_nil_of_le (by omega);refine⟨by simp[Ha,he],λ_=>⟨a1,b1,?_⟩⟩;rw[oD (by omega),hKd]
theorem Qh1 (L:List Int) (hb:uQ L):QN L=dE L:=by
 match L with
 | []=>rw[Qe7 [] (by decide)];rfl
 | a::L1=>
  by_cases ha:a=85
  .subst ha;have f1:BN (85::L1)=0:=by simp[BN,Dv,uI,wG]
   have l1:J9 (85::L1)=L1:=by simp[J9,zI]
   match L1 with
   | []=>
    have f2:zG [85]=1:=by rw[zG,f1,l1];decide
    rw[XN _ (by rw[f2];decide),f2];rfl
   | x::L2=>
    by_cases hx:dz x=true
    .have f2:zG (85::x::L2)=0:=by rw[zG,f1,l1];simp[vO,uI,wG,hx]
     have l2:Ju (85::x::L2)=L2:=by rw[Ju,f1,l1];simp[zI]
     have w1:Km (85::x::L2)=x:=by rw[Km,f1,l1];simp[wN,uI,hx]
     match L2 with
     | []=>
      have f3:yR [85,x]=1:=by rw[yR,f2,l2];decide
      rw[XJ _ (by rw[f3];decide),f3];simp[dE,hx]
     | y::M=>
      by_cases hy:dz y=true
      .have f3:yR (85::x::y::M)=0:=by rw[yR,f2,l2];simp[vO,uI,wG,hy]
       have l3:LP (85::x::y::M)=M:=by rw[LP,f2,l2];simp[zI]
       have h1:J4 (85::x::y::M)=y:=by rw[J4,f2,l2];simp[wN,uI,hy]
       have hbM:uQ M:=λz hz=>hb z (by simp[hz]);have ht:=(Rt (sN (85::x::y::M)) M hbM).1;rw[QN,Qa5,TD,Pd,KS,NF,KT,l3,f3,ht,sN,w1,h1];simp[dE,hx,hy]
      .have f3:yR (85::x::y::M)=3:=by rw[yR,f2,l2];simp[vO,uI,wG,hy,iK]
       rw[XJ _ (by rw[f3];decide),f3];simp[dE,hx,hy]
    .have f2:zG (85::x::L2)=3:=by rw[zG,f1,l1];simp[vO,uI,wG,hx,iK]
     rw[XN _ (by rw[f2];decide),f2];simp[dE,hx]
  .have f1:BN (a::L1)=2:=by simp[BN,Dv,uI,wG,ha,iK]
   rw[Qe7 _ (by rw[f1];decide),f1];simp[dE,ha]
theorem Qa6 (h:dE L=0):∃x y M,L=85::x::y::M/\dz x=true/\dz y=true/\tE (x*y).toNat M=0:=by
 match L with
 | []=>simp[dE]at h
 | [a]=>simp only[dE]at h;split at h<;>cases h
 | [a,x]=>
  simp only[dE]at h;split at h
  .split at h<;>cases h
  .cases h
 | a::x::y::M=>
  simp only[dE]at h;split at h
  .rename_i h1;split at h
   .rename_i h2;split at h
    .rename_i h3;exact⟨x,y,M,by rw[h1],h2,h3,h⟩
    .cases h
   .cases h
  .cases h
theorem Qb0 {x y:Int} (hb:uQ (85::x::y::M)) (hx:dz x=true) (hy:dz y=true) (ht:tE (x*y).toNat M=0) :
  Km (85::x::y::M)=x/\J4 (85::x::y::M)=y/\sN (85::x::y::M)=(x*y).toNat/\rdX (85::x::y::M)=M.take (x*y).toNat/\rdY (85::x::y::M)=(M.drop (x*y).toNat).take (x*y).toNat/\rdS (85::x::y::M)=M.drop (2+2*(x*y).toNat):=by
 have f1:BN (85::x::y::M)=0:=by simp[BN,Dv,uI,wG]
 have l1:J9 (85::x::y::M)=x::y::M:=by simp[J9,zI]
 have f2:zG (85::x::y::M)=0:=by rw[zG,f1,l1];simp[vO,uI,wG,hx]
 have l2:Ju (85::x::y::M)=y::M:=by rw[Ju,f1,l1];simp[zI]
 have w1:Km (85::x::y::M)=x:=by rw[Km,f1,l1];simp[wN,uI,hx]
 have f3:yR (85::x::y::M)=0:=by rw[yR,f2,l2];simp[vO,uI,wG,hy]
 have l3:LP (85::x::y::M)=M:=by rw[LP,f2,l2];simp[zI]
 have h1:J4 (85::x::y::M)=y:=by rw[J4,f2,l2];simp[wN,uI,hy]
 have n1:sN (85::x::y::M)=(x*y).toNat:=by rw[sN,w1,h1]
 have hbM:uQ M:=λz hz=>hb z (by simp[hz]);obtain⟨c1,c2,c3⟩:=(Rt (x*y).toNat M hbM).2 ht;refine⟨w1,h1,n1,?_,?_,?_⟩
 .rw[rdX,l3,f3,n1];exact c1
 .rw[rdY,NF,KT,l3,f3,n1];exact c2
 .rw[rdS,Pd,KS,NF,KT,l3,f3,n1];exact c3
theorem Gw:(Tryz.prog.info? 5).map (λi=>(i.zero,i.size,i.bytes))=some (some (.int .u8 0),1,1):=by kernel_rfl
theorem GM {base:Nat} {k j:Nat} (hj:j<xs.length)
  (h:w.ownsRow base 5 1 v (k+j+1) (bs++(xs.take j).map (Value.int .u8)++[.int .u8 (xs.getD j 0)])) :
  w.ownsRow base 5 1 v (k+(j+1)) (bs++(xs.take (j+1)).map (Value.int .u8)):=by
 rw[zZ hj,jc,<-gJ];simpa[List.getD,aU hj,Nat.add_assoc] using h
theorem IC (v:Value) (k:Nat) (bs:List Value) (ao:Option Addr) (c:Nat) (xs:List Int) (w:World) (base:Nat) (hown:w.ownsRow base 5 1 v k bs) (hx:aF base w ao xs)
  (hlx:xs.length<=1000) (hk:k<=1000) (hbase:base<=w.heap.size) (hall:xs.all bS=true) :
  Calls Tryz.prog 78 #[v,.slice ao xs.length c] w λe w'=>∃v',e=.returned v'/\w'.ownsRow base 5 1 v' (k+xs.length) (bs++xs.map (Value.int .u8))/\Below base w w':=by
 obtain⟨i0,hi,hz0,hz1,hz2⟩:=dG Gw;go_enter Tryz.func78,Tryz.ntmps78;go_wp2
 go_loopw [0,9] (λv i wr=>∃j:Nat,j<=xs.length/\i=.int .i64 j/\wr.ownsRow base 5 1 v (k+j) (bs++(xs.take j).map (Value.int .u8))/\Below base w wr) (λ_ i _=>xs.length-(intOf i).toNat)
 case atStart=>exact⟨0,bO _,rfl,by simpa using hown,ax _ _⟩
 case round=>
  obtain⟨j,hj,rfl,hown',hnx⟩:=hrel;by_cases hlt:j<xs.length
  .rcases hx with hx|⟨b,off,rfl,hbB,hcell⟩
   .simp[hx]at hlt
   have hc1:=(hnx.cell (p:=⟨b,off+j,none⟩) hbB).trans (hcell j hlt);clear hcell;have hbnd:bS (xs.getD j 0)=true:=by
    have:=wC.1 hall (xs[j]) (jW hlt);simpa[List.getD,aU hlt] using this
   have HSN:Hid (∀(u:World) (v':Value),u.ownsRow base 5 1 v' (k+j+1) (bs++(xs.take j).map (Value.int .u8)++[.int .u8 (xs.getD j 0)])->u.ownsRow base 5 1 v' (k+(j+1)) (bs++(xs.take (j+1)).map (Value.int .u8))):=λu v' h=>GM hlt h;obtain⟨x,hxe⟩:∃x,x=xs.getD j 0:=⟨_,rfl⟩;rw[<-hxe]at hc1 hbnd HSN;simp[bS]at hbnd;obtain⟨x0,x1⟩:=hbnd;clear hxe;go_wp2_with (at_builtin;refine pX _ rfl _ _ 94 rfl base 5 i0 (.int .u8 0) 1 1 Tryz.underlying94 hi hz0 hz1 hz2 rfl (by decide) _ _ _ rfl (hown'.alloc _) ⟨wr.heap.size,0,none⟩ 1 1 [.int .u8 x] rfl rfl ?c1 ?c2 ?c3 ?c4 ?c5 ?_)
   case c1=>exact cell_one_new _ _ _
   case c2=>intro u hu;simp at hu;subst hu;rfl
   case c3=>unfold maxLen;omega
   case c4=>omega
   case c5=>have:=hnx.size;simp;omega
   intro v' w1 h1 hg _;have R:w1.ownsRow base 5 1 v' (k+(j+1)) (bs++(xs.take (j+1)).map (Value.int .u8)):=HSN.out w1 v' (by simpa using h1);have R2:Below base w w1:=(hnx.alloc (by have:=hnx.size;omega) _).grown hg (by have:=hnx.size;simp;omega) (λq hq=>(hown'.lt q hq).1);clear h1 hg hown' hnx hc1 HSN;go_wp2
   go_roundw
   case rel=>exact⟨j+1,by omega,by go_num,R,R2⟩
   case measure=>simp[intOf];omega
  .go_wp2;go_ret;have hj':j=xs.length:=by omega
   subst hj';exact⟨_,rfl,by simpa using hown',hnx⟩
theorem Mk (ao bo:Option Addr) (c d:Nat) (xs:List Int) (w:World) (hx:aF w.heap.size w ao xs) (hy:aF w.heap.size w bo xs) (hl:xs.length<=1000) :
  Calls Tryz.prog 26 #[.slice ao xs.length c,.slice bo xs.length d] w λe w'=>e=.returned (.bool true)/\Below w.heap.size w w':=by
 go_enter Tryz.func26,Tryz.ntmps26;go_wp2
 go_loopw [5] (λi wr=>∃k:Nat,k<=xs.length/\i=.int .i64 k/\Below w.heap.size w wr) (λi _=>xs.length-(intOf i).toNat)
 case atStart=>exact⟨0,bO _,rfl,ax _ _⟩
 case round=>
  obtain⟨k,hk,rfl,hnx⟩:=hrel;by_cases hlt:k<xs.length
  .rcases hx with hx|⟨b1,off1,rfl,hb1,hc1⟩
   .simp[hx]at hlt
   rcases hy with hy|⟨b2,off2,rfl,hb2,hc2⟩
   .simp[hy]at hlt
   have x1:=(hnx.cell (p:=⟨b1,off1+k,none⟩) hb1).trans (hc1 k hlt);have x2:=(hnx.cell (p:=⟨b2,off2+k,none⟩) hb2).trans (hc2 k hlt);clear hc1 hc2;generalize xs.getD k 0=v at x1 x2;have hi:(k:Int)<(xs.length:Int):=by omega
   have R:=aj hnx.drew;clear hnx;go_wp2
   go_region
   all_goals (try go_wp2)
   all_goals
    go_roundw
    case rel=>exact⟨k+1,by omega,by go_num,aa R⟩
    case measure=>simp[intOf];omega
  .go_wp2;go_ret;exact⟨rfl,hnx⟩
end Go.Proofs.YthmmgiaobakilaaGreat
