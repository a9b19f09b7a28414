import Derived.Test.YthmmgiaobakilaaGreatJ01
import Derived.Test.YthmmgiaobakilaaGreatJ04
set_option maxRecDepth 100000
set_option maxHeartbeats 8000000
set_option linter.all false
namespace Go.Proofs.YthmmgiaobakilaaGreat
open Go.RowKit
variable {l:List ByteArray} {s:ByteArray}
theorem Fq (x:Int) (w:World):Calls Tryz.prog 67 #[.int .u8 x] w λe w'=>e=.returned (.bool (sJ x))/\w'=w:=by
 by_cases h1:97<=x
 .go_enter Tryz.func67,Tryz.ntmps67;go_wp2
  all_goals go_ret
  all_goals exact⟨cO (by simp[sJ,h1]),rfl⟩
 .have h2:decide (97<=x)=false:=by simpa using h1
  go_enter Tryz.func67,Tryz.ntmps67;go_wp2
  all_goals go_ret
  all_goals exact⟨cO (by simp[sJ,h2]),rfl⟩
theorem FD (x:Int) (w:World):Calls Tryz.prog 68 #[.int .u8 x] w λe w'=>e=.returned (.bool (oQ x))/\w'=w:=by
 by_cases h1:48<=x
 .go_enter Tryz.func68,Tryz.ntmps68;go_wp2
  all_goals go_ret
  all_goals exact⟨cO (by simp[oQ,h1]),rfl⟩
 .have h2:decide (48<=x)=false:=by simpa using h1
  go_enter Tryz.func68,Tryz.ntmps68;go_wp2
  all_goals go_ret
  all_goals exact⟨cO (by simp[oQ,h2]),rfl⟩
theorem KV (d:Bool) (s:ByteArray) (a k:Nat) (hak:a<=k) (hk:k<=s.size) (h1:∀j,a<=j->j<k->(if d then oQ ((nums s).getD j 0) else sJ ((nums s).getD j 0))=true)
  (h2:k=s.size∨(if d then oQ ((nums s).getD k 0) else sJ ((nums s).getD k 0))=false):a+oJ d ((nums s).drop a)=k:=by
 have hg:∀j,((nums s).drop a).getD j 0=(nums s).getD (a+j) 0:=λj=>by simp[List.getD,rV]
 have:=Jh (λx=>if d then oQ x else sJ x) ((nums s).drop a) (k-a) (by rw[jy,bU];omega)
  (λj hj=>by rw[hg];exact h1 (a+j) (by omega) (by omega))
  (h2.elim (λh2=>by left;rw[jy,bU];omega) (λh2=>by right;rw[hg,show a+(k-a)=k by omega];exact h2))
 unfold oJ;omega
theorem Eo (s:ByteArray) (j:Nat) (h:j<s.size):(nums s).getD j 0=(s[j].toNat:Int):=by
 simp[List.getD,vY s j h]
theorem Sm (s:ByteArray) (a:Nat) (d:Bool) (w:World) (hs:s.size<=300) (ha:a<=s.size) :
  Calls Tryz.prog 40 #[.string s,.int .i64 a,.bool d] w λe w'=>e=.returned (.string (s.extract a (a+oJ d ((nums s).drop a))))/\w'=w:=by
 go_enter Tryz.func40,Tryz.ntmps40;go_wp2
 go_loop [7] (λi=>∃k:Nat,a<=k/\k<=s.size/\i=.int .i64 k/\∀j,a<=j->j<k->(if d then oQ ((nums s).getD j 0) else sJ ((nums s).getD j 0))=true) (λi=>s.size-(intOf i).toNat)
 case atStart=>exact⟨a,af _,ha,rfl,λj h1 h2=>by omega⟩
 case round=>
  obtain⟨k,hak,hk,rfl,hall⟩:=hrel;have HA:=aj hall;clear hall;by_cases hlt:k<s.size
  .have HG:=aj (Eo s k hlt);have hb0:((s[k]'hlt).toNat:Int)<=255:=by have:=(s[k]'hlt).toNat_lt;omega
   cases d
   .cases hc:sJ (s[k]'hlt).toNat
    .have HR:Hid (a+oJ false ((nums s).drop a)=k):=KV false s a k hak hk (aa HA) (.inr (by rw[aa HG];simpa using hc));go_wp2_with (first|(go_at_call 67;refine(Fq _ _).mono ?_;rintro e w' ⟨rfl,rfl⟩)|(go_at_call 68;refine(FD _ _).mono ?_;rintro e w' ⟨rfl,rfl⟩));go_ret;exact⟨by rw[aa HR];rfl,rfl⟩
    .have HK:Hid (∀j,a<=j->j<k+1->(if false=true then oQ ((nums s).getD j 0) else sJ ((nums s).getD j 0))=true):=λj h1 h2=>by
      by_cases hj:j<k
      .exact aa HA j h1 hj
      .have:j=k:=by omega
       subst this;rw[aa HG];simpa using hc
     go_wp2_with (first|(go_at_call 67;refine(Fq _ _).mono ?_;rintro e w' ⟨rfl,rfl⟩)|(go_at_call 68;refine(FD _ _).mono ?_;rintro e w' ⟨rfl,rfl⟩))
     go_round
     case rel=>exact⟨k+1,by omega,by omega,by go_num,aa HK⟩
     case measure=>simp[intOf];omega
   .cases hc:oQ (s[k]'hlt).toNat
    .have HR:Hid (a+oJ true ((nums s).drop a)=k):=KV true s a k hak hk (aa HA) (.inr (by rw[aa HG];simpa using hc));go_wp2_with (first|(go_at_call 67;refine(Fq _ _).mono ?_;rintro e w' ⟨rfl,rfl⟩)|(go_at_call 68;refine(FD _ _).mono ?_;rintro e w' ⟨rfl,rfl⟩));go_ret;exact⟨by rw[aa HR];rfl,rfl⟩
    .have HK:Hid (∀j,a<=j->j<k+1->(if true=true then oQ ((nums s).getD j 0) else sJ ((nums s).getD j 0))=true):=λj h1 h2=>by
      by_cases hj:j<k
      .exact aa HA j h1 hj
      .have:j=k:=by omega
       subst this;rw[aa HG];simpa using hc
     go_wp2_with (first|(go_at_call 67;refine(Fq _ _).mono ?_;rintro e w' ⟨rfl,rfl⟩)|(go_at_call 68;refine(FD _ _).mono ?_;rintro e w' ⟨rfl,rfl⟩))
     go_round
     case rel=>exact⟨k+1,by omega,by omega,by go_num,aa HK⟩
     case measure=>simp[intOf];omega
  .have HR:Hid (a+oJ d ((nums s).drop a)=k):=KV d s a k hak hk (aa HA) (.inl (by omega));go_wp2;go_ret;exact⟨by rw[aa HR];rfl,rfl⟩
theorem TB (s:ByteArray) (w:World) (hs:s.size<=300) (hd:∀x∈nums s,oQ x=true) :
  Calls Tryz.prog 43 #[.string s] w λe w'=>e=.returned (.int .i64 (sO (nums s)))/\w'=w:=by
 go_enter Tryz.func43,Tryz.ntmps43;go_wp2
 go_loop [3,4] (λn i=>∃k:Nat,k<=s.size/\i=.int .i64 k/\n=.int .i64 (sO ((nums s).take k))) (λ_ i=>s.size-(intOf i).toNat)
 case atStart=>exact⟨0,bO _,rfl,rfl⟩
 case round=>
  obtain⟨k,hk,rfl,rfl⟩:=hrel;obtain⟨nb1,nb2⟩:=zY ((nums s).take k) (λx hx=>hd x (List.mem_of_mem_take hx));by_cases hlt:k<s.size
  .have HS:=aj (zO (nums s) k (by rw[bU];exact hlt));rw[Eo s k hlt]at HS;have hdig:=hd (s[k].toNat:Int) (by have:=List.mem_of_getElem? (vY s k hlt);exact this);simp[oQ]at hdig;obtain⟨d1,d2⟩:=hdig;generalize hnv:sO ((nums s).take k)=nv at *;clear hnv;go_wp2
   go_round
   case rel=>exact⟨k+1,by omega,by go_num,by rw[aa HS]⟩
   case measure=>simp[intOf];omega
  .go_wp2;go_ret;exact⟨jJ (by rw[oD (by rw[bU];omega)]),rfl⟩
theorem V8 {k:Nat} (hk:k<l.length) (h:((l.getD k ByteArray.empty).toList==s.toList)=true):dI s l=true:=by
 rw[dI,dD];exact⟨l[k],jW hk,by simpa[List.getD,aU hk] using h⟩
theorem Pm (h:∀j,j<l.length->((l.getD j ByteArray.empty).toList==s.toList)=false):dI s l=false:=by
 rw[dI,jw];intro t ht;obtain⟨j,hj,rfl⟩:=pV ht;have:=h j hj;simpa[List.getD,aU hj] using this
theorem TZ (s:ByteArray) (ao:Option Addr) (c:Nat) (l:List ByteArray) (w:World) (h:om w.heap.size w ao l) (hl:l.length<=100) :
  Calls Tryz.prog 42 #[.string s,.slice ao l.length c] w λe w'=>e=.returned (.bool (dI s l))/\w'=w:=by
 obtain⟨b,off,rfl,hb,hcell⟩:=h;go_enter Tryz.func42,Tryz.ntmps42;go_wp2
 go_loop [5] (λi=>∃k:Nat,k<=l.length/\i=.int .i64 k/\∀j,j<k->((l.getD j ByteArray.empty).toList==s.toList)=false) (λi=>l.length-(intOf i).toNat)
 case atStart=>exact⟨0,bO _,rfl,λj hj=>by omega⟩
 case round=>
  obtain⟨k,hk,rfl,hall⟩:=hrel;have HA:=aj hall;clear hall;by_cases hlt:k<l.length
  .have hc:=hcell k hlt;clear hcell;have HT:=aj (λh=>V8 (s:=s) hlt h);have HF:Hid (((l.getD k ByteArray.empty).toList==s.toList)=false->∀j,j<k+1->((l.getD j ByteArray.empty).toList==s.toList)=false):=λh j hj=>by
    by_cases hjk:j<k
    .exact aa HA j hjk
    .have:j=k:=by omega
     subst this;exact h
   generalize l.getD k ByteArray.empty=t at hc HT HF
   cases he:(t.toList==s.toList)
   .go_wp2
    go_round
    case rel=>exact⟨k+1,by omega,by go_num,aa HF he⟩
    case measure=>simp[intOf];omega
   .go_wp2;go_ret;exact⟨cO (aa HT he).symm,rfl⟩
  .have HF:=aj (Pm (s:=s) (l:=l) (λj hj=>aa HA j (by omega)));go_wp2;go_ret;exact⟨cO (aa HF).symm,rfl⟩
end Go.Proofs.YthmmgiaobakilaaGreat
