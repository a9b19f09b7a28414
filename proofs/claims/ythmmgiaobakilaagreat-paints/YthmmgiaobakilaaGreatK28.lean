import Derived.Test.YthmmgiaobakilaaGreatK04
import Derived.Test.YthmmgiaobakilaaGreatK27
import Derived.Lib.DecodeN
set_option maxRecDepth 100000
namespace Go.Proofs.YthmmgiaobakilaaGreat
open Go.RowKit Go.Shelf
theorem get_list (s:ByteArray) (i:Nat) (h:i < s.size):s.data.toList[i]?=some (s.get! i):=by
 have h':i < s.data.size:=h
 rw [Array.getElem?_toList,Array.getElem?_eq_getElem h']
 congr 1
 show s.data[i]=s.data[i]!
 rw [getElem!_pos s.data i h']
theorem okS_iff (s:ByteArray) (a:Nat) (g:ByteArray):okS s a g=true↔a+g.size≤s.size∧∀j,j < g.size→s.get! (a+j)=g.get! j:=by
 unfold okS
 rw [Bool.and_eq_true,decide_eq_true_eq,beq_iff_eq,ByteArray.toList_eq,ByteArray.toList_eq]
 refine and_congr_right fun hl=>?_
 have hz:(s.extract a (a+g.size)).data.toList.length=g.size:=by
  have:(s.extract a (a+g.size)).size=g.size:=by rw [ByteArray.size_extract];omega
  rw [Array.length_toList];exact this
 have hx:∀j,j < g.size→(s.extract a (a+g.size)).data.toList[j]?=some (s.get! (a+j)):=by
  intro j hj
  rw [←get_list s (a+j) (by omega),ByteArray.data_extract,Array.toList_extract,List.extract_eq_take_drop,List.getElem?_take,if_pos (by omega),List.getElem?_drop]
 constructor
 ·intro h j hj
  have e:=hx j hj
  rw [h,get_list g j hj] at e
  exact (Option.some.inj e).symm
 ·intro h
  apply List.ext_getElem?
  intro j
  by_cases hj:j < g.size
  ·rw [hx j hj,get_list g j hj,h j hj]
  ·rw [List.getElem?_eq_none (by omega),List.getElem?_eq_none (by rw [Array.length_toList];exact Nat.le_of_not_lt hj)]
open Go.Lib in
theorem dn1 (n b0 b1 b2 b3 r:Nat) (hr:r < 128):b0=r↔decodeN n b0 b1 b2 b3=(r,1):=by
 unfold decodeN
 constructor
 ·rintro rfl;rw [if_pos hr]
 ·intro h
  repeat' split at h
  all_goals (simp only [Prod.mk.injEq] at h;omega)
open Go.Lib in
theorem dn2 (n b0 b1 b2 b3 r:Nat) (h1:b1 < 256) (hr:128≤r∧r < 2048):(2≤n∧b0=192+r / 64∧b1=128+r % 64)↔decodeN n b0 b1 b2 b3=(r,2):=by
 unfold decodeN
 constructor
 ·rintro ⟨hn,rfl,rfl⟩
  rw [if_neg (by omega),if_pos (by omega),if_pos (by omega)]
  refine Prod.ext ?_ rfl
  show _=r
  omega
 ·intro h
  repeat' split at h
  all_goals (simp only [Prod.mk.injEq] at h;omega)
open Go.Lib in
theorem dn3 (n b0 b1 b2 b3 r:Nat) (h1:b1 < 256) (h2:b2 < 256) (hr:2048≤r∧r < 55296):(3≤n∧b0=224+r / 4096∧b1=128+r / 64 % 64∧b2=128+r % 64)↔decodeN n b0 b1 b2 b3=(r,3):=by
 unfold decodeN
 constructor
 ·rintro ⟨hn,rfl,rfl,rfl⟩
  rw [if_neg (by omega),if_neg (by omega),if_pos (by omega),if_pos (by omega)]
  refine Prod.ext ?_ rfl
  show _=r
  omega
 ·intro h
  repeat' split at h
  all_goals (simp only [Prod.mk.injEq] at h;omega)
open Go.Lib in
theorem dnw (n b0 b1 b2 b3 r k:Nat) (h:decodeN n b0 b1 b2 b3=(r,k)) (hr:r < 55296):k=if r < 128 then 1 else if r < 2048 then 2 else 3:=by
 unfold decodeN at h
 repeat' split at h
 all_goals (simp only [Prod.mk.injEq] at h;repeat' split)
 all_goals omega
theorem gb (s:ByteArray) (i:Nat):(s.get! i).toNat < 256:=UInt8.toNat_lt _
theorem u8n {a b:UInt8} : a=b↔a.toNat=b.toNat:=⟨fun h=>by rw [h],fun h=>UInt8.toNat_inj.1 h⟩
theorem ok1 (s:ByteArray) (a:Nat) (x:UInt8) (r:Nat) (ha:a < s.size) (hr:r < 128) (hx:x.toNat=r):okS s a ⟨#[x]⟩=true↔Utf8.decode s a=(r,1):=by
 rw [okS_iff,Lib.decode_at,←dn1 _ _ _ _ _ r hr,←hx,←u8n]
 constructor
 ·rintro ⟨_,h⟩;exact h 0 (Nat.zero_lt_one)
 ·intro h
  refine ⟨ha,fun j hj=>?_⟩
  have:j=0:=by have:j < 1:=hj;omega
  subst this
  exact h
theorem ok2 (s:ByteArray) (a:Nat) (x y:UInt8) (r:Nat) (ha:a < s.size) (hr:128≤r∧r < 2048) (hx:x.toNat=192+r / 64) (hy:y.toNat=128+r % 64):okS s a ⟨#[x,y]⟩=true↔Utf8.decode s a=(r,2):=by
 rw [okS_iff,Lib.decode_at,←dn2 _ _ _ _ _ r (gb _ _) hr,←hx,←hy,←u8n,←u8n]
 constructor
 ·rintro ⟨h0,h⟩
  have h0':a+2≤s.size:=h0
  exact ⟨by omega,h 0 (show 0 < 2 by omega),h 1 (show 1 < 2 by omega)⟩
 ·rintro ⟨h0,h1,h2⟩
  refine ⟨(show a+2≤s.size by omega),fun j hj=>?_⟩
  have hj':j < 2:=hj
  rcases (show j=0∨j=1 by omega) with rfl | rfl
  ·exact h1
  ·exact h2
theorem ok3 (s:ByteArray) (a:Nat) (x y z:UInt8) (r:Nat) (ha:a < s.size) (hr:2048≤r∧r < 55296) (hx:x.toNat=224+r / 4096) (hy:y.toNat=128+r / 64 % 64) (hz:z.toNat=128+r % 64):okS s a ⟨#[x,y,z]⟩=true↔Utf8.decode s a=(r,3):=by
 rw [okS_iff,Lib.decode_at,←dn3 _ _ _ _ _ r (gb _ _) (gb _ _) hr,←hx,←hy,←hz,←u8n,←u8n,←u8n]
 constructor
 ·rintro ⟨h0,h⟩
  have h0':a+3≤s.size:=h0
  exact ⟨by omega,h 0 (show 0 < 3 by omega),h 1 (show 1 < 3 by omega),h 2 (show 2 < 3 by omega)⟩
 ·rintro ⟨h0,h1,h2,h3⟩
  refine ⟨(show a+3≤s.size by omega),fun j hj=>?_⟩
  have hj':j < 3:=hj
  rcases (show j=0∨j=1∨j=2 by omega) with rfl | rfl | rfl
  ·exact h1
  ·exact h2
  ·exact h3
theorem runeOf_at (k:Nat) (hk:k < 18):runeOf (signs.getD k ⟨#[]⟩)=runesL.getD k 0:=by
 have t:=rune_table
 have:(signs.map runeOf)[k]?=runesL[k]?:=by rw [t]
 rw [List.getElem?_map] at this
 simp only [List.getD]
 rw [←this,List.getElem?_eq_getElem (show k < signs.length from hk)]
 rfl
theorem ok_dec (s:ByteArray) (a:Nat) (ha:a < s.size) (g:ByteArray) (hg:g∈signs):okS s a g=true↔Utf8.decode s a=((runeOf g).toNat,g.size):=by
 obtain ⟨k,hk,rfl⟩:=List.getElem_of_mem hg
 have e:signs[k]=signs.getD k ⟨#[]⟩:=by simp [List.getD,List.getElem?_eq_getElem hk]
 rw [e,runeOf_at k hk]
 have hk':k < 18:=hk
 rcases (show k=0∨k=1∨k=2∨k=3∨k=4∨k=5∨k=6∨k=7∨k=8∨k=9∨k=10∨k=11∨k=12∨k=13∨k=14∨k=15∨k=16∨k=17 by omega) with rfl | rfl | rfl | rfl | rfl | rfl | rfl | rfl | rfl | rfl | rfl | rfl | rfl | rfl | rfl | rfl | rfl | rfl
 ·exact ok3 s a 226 134 144 8592 ha (by decide) (by decide) (by decide) (by decide)
 ·exact ok3 s a 226 128 166 8230 ha (by decide) (by decide) (by decide) (by decide)
 ·exact ok2 s a 195 151 215 ha (by decide) (by decide) (by decide)
 ·exact ok2 s a 195 183 247 ha (by decide) (by decide) (by decide)
 ·exact ok3 s a 226 137 164 8804 ha (by decide) (by decide) (by decide) (by decide)
 ·exact ok3 s a 226 137 160 8800 ha (by decide) (by decide) (by decide) (by decide)
 ·exact ok1 s a 43 43 ha (by decide) (by decide)
 ·exact ok1 s a 45 45 ha (by decide) (by decide)
 ·exact ok1 s a 61 61 ha (by decide) (by decide)
 ·exact ok1 s a 60 60 ha (by decide) (by decide)
 ·exact ok1 s a 40 40 ha (by decide) (by decide)
 ·exact ok1 s a 41 41 ha (by decide) (by decide)
 ·exact ok1 s a 123 123 ha (by decide) (by decide)
 ·exact ok1 s a 125 125 ha (by decide) (by decide)
 ·exact ok1 s a 91 91 ha (by decide) (by decide)
 ·exact ok1 s a 93 93 ha (by decide) (by decide)
 ·exact ok1 s a 44 44 ha (by decide) (by decide)
 ·exact ok1 s a 59 59 ha (by decide) (by decide)
theorem sign_none (s:ByteArray) (a:Nat) (ha:a < s.size) (h:¬ 0 < (signF s a).size):((Utf8.decode s a).1:Int) ∉ runesK:=by
 intro hm
 obtain ⟨k,hk,e⟩:=List.getElem_of_mem hm
 have hk':k < 18:=hk
 have hr:runesK[k]=runesL.getD k 0:=by
  have:runesK=runesL:=rfl
  simp only [this,List.getD,List.getElem?_eq_getElem (show k < runesL.length from hk),Option.getD_some]
 have hw:=dnw _ _ _ _ _ (Utf8.decode s a).1 (Utf8.decode s a).2 (Lib.decode_at s a).symm
 have hle:∀k,k < 18→0≤runesL.getD k 0∧runesL.getD k 0 < 55296∧(signs.getD k ⟨#[]⟩).size=(if (runesL.getD k 0).toNat < 128 then 1 else if (runesL.getD k 0).toNat < 2048 then 2 else 3):=by decide
 obtain ⟨l0,l1,l2⟩:=hle k hk'
 have e':(Utf8.decode s a).1=(runesL.getD k 0).toNat:=by omega
 have hk2:k < signs.length:=hk
 have hmem:signs.getD k ⟨#[]⟩∈signs:=by
  have hge:signs.getD k ⟨#[]⟩=signs[k]:=by simp [List.getD,List.getElem?_eq_getElem hk2]
  rw [hge]
  exact List.getElem_mem hk2
 have ok:okS s a (signs.getD k ⟨#[]⟩)=true:=by
  rw [ok_dec s a ha _ hmem,runeOf_at k hk',l2,←e',←hw (by omega)]
 apply h
 unfold signF
 cases hf:signs.find? (okS s a) with
 | none=>
  have:=List.find?_eq_none.1 hf _ hmem
  exact absurd ok this
 | some g=>
  have hg:=List.mem_of_find?_eq_some hf
  have:∀g∈signs,0 < g.size:=by decide
  exact this g hg
theorem sign_some (s:ByteArray) (a:Nat) (ha:a < s.size) (h:0 < (signF s a).size):Utf8.decode s a=((runeOf (signF s a)).toNat,(signF s a).size)∧signF s a∈signs:=by
 unfold signF at h ⊢
 cases hf:signs.find? (okS s a) with
 | none=>rw [hf] at h;exact absurd h (by decide)
 | some g=>exact ⟨(ok_dec s a ha g (List.mem_of_find?_eq_some hf)).1 (List.find?_some hf),List.mem_of_find?_eq_some hf⟩
def isL (d:Bool) (x:Int):Bool:=if d then digB x else letB x
theorem row_in (d:Bool):∀(L:List Int) (j:Nat),j < rowN d L→isL d (L.getD j 0)=true
 | [],j,h=>by simp [rowN] at h
 | x::L,j,h=>by
  unfold rowN at h
  rw [List.takeWhile_cons] at h
  cases hx:isL d x with
  | false=>
   have hx':(if d=true then digB x else letB x)=false:=hx
   rw [hx'] at h
   simp at h
  | true=>
   have hx':(if d=true then digB x else letB x)=true:=hx
   rw [hx'] at h
   cases j with
   | zero=>exact hx
   | succ j=>
    have:=row_in d L j (by unfold rowN;simpa using h)
    simpa using this
theorem row_end (d:Bool):∀(L:List Int),rowN d L < L.length→isL d (L.getD (rowN d L) 0)=false
 | [],h=>by simp at h
 | x::L,h=>by
  cases hx:isL d x with
  | false=>
   have hx':(if d=true then digB x else letB x)=false:=hx
   have:rowN d (x::L)=0:=by unfold rowN;rw [List.takeWhile_cons,hx'];rfl
   rw [this]
   exact hx
  | true=>
   have hx':(if d=true then digB x else letB x)=true:=hx
   have:rowN d (x::L)=rowN d L+1:=by unfold rowN;rw [List.takeWhile_cons,hx'];rfl
   rw [this] at h ⊢
   have:=row_end d L (by simpa using h)
   simpa using this
theorem num_at (s:ByteArray) (a:Nat) (ha:a < s.size):(nums s).getD a 0=((s.get! a).toNat:Int):=by
 unfold nums
 simp only [List.getD,List.getElem?_map,get_list s a ha]
 rfl
theorem dec_low (s:ByteArray) (a:Nat) (h:(s.get! a).toNat < 128):Utf8.decode s a=((s.get! a).toNat,1):=by
 rw [Lib.decode_at]
 exact (dn1 _ _ _ _ _ _ h).1 rfl
theorem dec_hi (s:ByteArray) (a:Nat) (h:¬ (s.get! a).toNat < 128):128≤(Utf8.decode s a).1:=by
 rw [Lib.decode_at]
 unfold Lib.decodeN
 repeat' split
 all_goals first | omega | (exfalso;omega)
theorem fold_one (s:ByteArray) (m a:Nat) (σ:List GT×Int) (hm:s.size≤m+a) (ha:a < s.size):(decs s m a).foldl nextG (.ok σ)=(decs s (m-1) (a+(Utf8.decode s a).2)).foldl nextG (stepG σ ((a:Int),((Utf8.decode s a).1:Int))):=by
 rw [decs_more s m a hm ha]
 rfl
theorem fold_low (s:ByteArray) (m a:Nat) (σ:List GT×Int) (hm:s.size≤m+a) (ha:a < s.size) (h:(s.get! a).toNat < 128):(decs s m a).foldl nextG (.ok σ)=(decs s (m-1) (a+1)).foldl nextG (stepG σ ((a:Int),((s.get! a).toNat:Int))):=by
 rw [fold_one s m a σ hm ha,dec_low s a h]
theorem extract_more (s:ByteArray) (a k:Nat) (h:a+k < s.size):s.extract a (a+(k+1))=s.extract a (a+k)++⟨#[s.get! (a+k)]⟩:=by
 apply ByteArray.ext
 apply Array.toList_inj.1
 rw [ByteArray.data_append,Array.toList_append,ByteArray.data_extract,ByteArray.data_extract,Array.toList_extract,Array.toList_extract,List.extract_eq_take_drop,List.extract_eq_take_drop]
 rw [show a+(k+1)-a=k+1 by omega,show a+k-a=k by omega,List.take_add_one,List.getElem?_drop,get_list s (a+k) h]
 rfl
theorem kOf_let (r:Int) (h:letB r=true):kOf r=2:=by
 unfold letB at h
 simp only [Bool.and_eq_true,decide_eq_true_eq] at h
 unfold kOf
 rw [if_neg (by omega),if_neg ?_,if_pos h]
 unfold runesK
 simp only [List.mem_cons,List.not_mem_nil,or_false,not_or]
 omega
theorem kOf_dig (r:Int) (h:digB r=true):kOf r=3:=by
 unfold digB at h
 simp only [Bool.and_eq_true,decide_eq_true_eq] at h
 unfold kOf
 rw [if_neg (by omega),if_neg ?_,if_neg (by omega),if_pos h]
 unfold runesK
 simp only [List.mem_cons,List.not_mem_nil,or_false,not_or]
 omega
theorem byte_back (x:UInt8):((x.toNat:Int)).toNat.toUInt8=x:=by
 show (x.toNat).toUInt8=x
 exact UInt8.ofNat_toNat
def wordG (s:ByteArray) (a k:Nat):GT:=⟨2,a,s.extract a (a+k),0,0⟩
theorem put_word (l:List GT) (t:GT) (r k:Int) (h:t.k=2) (hn:t.n=0):putG l t r k = .ok (l++[{ t with wd:=t.wd++⟨#[r.toNat.toUInt8]⟩ }],k):=by
 have e:addG t r = { t with wd:=t.wd++⟨#[r.toNat.toUInt8]⟩ }:=by unfold addG;rw [if_pos h]
 unfold putG
 rw [e,if_neg (by show ¬ 65535 < t.n;omega)]
theorem put_num (l:List GT) (t:GT) (r k:Int) (h:t.k=3):putG l t r k=if 65535 < 10*t.n+r-48 then .error t.p else .ok (l++[{ t with n:=10*t.n+r-48 }],k):=by
 have e:addG t r = { t with n:=10*t.n+r-48 }:=by unfold addG;rw [if_neg (by omega),if_pos h]
 unfold putG
 rw [e]
theorem put_sign (l:List GT) (t:GT) (r k:Int) (h:t.k=4) (hn:t.n=0):putG l t r k = .ok (l++[{ t with s:=r }],k):=by
 have e:addG t r = { t with s:=r }:=by unfold addG;rw [if_neg (by omega),if_neg (by omega)]
 unfold putG
 rw [e,if_neg (by show ¬ 65535 < t.n;omega)]
theorem last_put (l:List GT) (t:GT) (r k:Int):lastG (l++[t]) r k=putG l t r k:=by
 unfold lastG
 rw [List.getLast?_concat]
 show putG (l++[t]).dropLast t r k=_
 rw [List.dropLast_concat]
theorem step_new (σ:List GT×Int) (x:Int×Int) (k:Int) (hk:kOf x.2=k) (h0:k≠0) (h1:k≠1) (h:k=4∨k≠σ.2):stepG σ x=putG σ.1 (newG k x.1) x.2 k:=by
 unfold stepG
 rw [hk,if_neg h0,if_neg h1,if_pos h]
theorem step_same (l:List GT) (t:GT) (x:Int×Int) (k:Int) (hk:kOf x.2=k) (h0:k≠0) (h1:k≠1) (h4:k≠4):stepG (l++[t],k) x=putG l t x.2 k:=by
 unfold stepG
 rw [hk,if_neg h0,if_neg h1,if_neg (by intro h;rcases h with h | h;exact h4 h;exact h rfl),last_put]
theorem extract_none (s:ByteArray) (a:Nat):s.extract a (a+0)=⟨#[]⟩:=by
 apply ByteArray.ext
 apply Array.toList_inj.1
 rw [ByteArray.data_extract,Array.toList_extract,List.extract_eq_take_drop,show a+0-a=0 by omega,List.take_zero]
theorem word_go (s:ByteArray) (a m:Nat) (acc:List GT) (b:Int) (hb:b≠2) (hm:s.size≤m+a):∀k,1≤k→a+k≤s.size→(∀j,j < k→letB ((nums s).getD (a+j) 0)=true) →
  (decs s m a).foldl nextG (.ok (acc,b))=(decs s (m-k) (a+k)).foldl nextG (.ok (acc++[wordG s a k],2))
 | 0,h,_,_=>by omega
 | 1,_,hk,hl=>by
  have h0:=hl 0 (by omega)
  rw [Nat.add_zero,num_at s a (by omega)] at h0
  have hk2:=kOf_let _ h0
  have hlow:(s.get! a).toNat < 128:=by unfold letB at h0;simp only [Bool.and_eq_true,decide_eq_true_eq] at h0;omega
  rw [fold_low s m a _ hm (by omega) hlow,step_new _ _ 2 hk2 (by decide) (by decide) (.inr (fun e=>hb e.symm)),put_word _ _ _ _ rfl rfl,byte_back]
  have e1:s.extract a (a+1)=⟨#[]⟩++⟨#[s.get! a]⟩:=by
   have:=extract_more s a 0 (by omega)
   rw [extract_none] at this
   exact this
  unfold wordG
  rw [e1]
  rfl
 | k+2,_,hk,hl=>by
  rw [word_go s a m acc b hb hm (k+1) (by omega) (by omega) (fun j hj=>hl j (by omega))]
  have h0:=hl (k+1) (by omega)
  rw [num_at s (a+(k+1)) (by omega)] at h0
  have hk2:=kOf_let _ h0
  have hlow:(s.get! (a+(k+1))).toNat < 128:=by unfold letB at h0;simp only [Bool.and_eq_true,decide_eq_true_eq] at h0;omega
  rw [fold_low s _ _ _ (by omega) (by omega) hlow,show m-(k+1)-1=m-(k+2) by omega,show a+(k+1)+1=a+(k+2) by omega,step_same _ _ _ 2 hk2 (by decide) (by decide) (by decide),put_word _ _ _ _ rfl rfl,byte_back]
  have e1:=extract_more s a (k+1) (by omega)
  unfold wordG
  rw [e1]
def numG (s:ByteArray) (a k:Nat):GT:=⟨3,a,⟨#[]⟩,numV (((nums s).drop a).take k),0⟩
theorem numV_more (s:ByteArray) (a k:Nat) (h:a+k < s.size):numV (((nums s).drop a).take (k+1))=min (10*numV (((nums s).drop a).take k)+(((s.get! (a+k)).toNat:Int)-48)) 65536:=by
 rw [numV_take_succ _ _ (by rw [List.length_drop,nums_length];omega)]
 congr 3
 rw [←num_at s (a+k) h]
 simp only [List.getD,List.getElem?_drop]
theorem num_go (s:ByteArray) (a m:Nat) (acc:List GT) (b:Int) (hb:b≠3) (hm:s.size≤m+a):∀k,1≤k→a+k≤s.size→(∀j,j < k→digB ((nums s).getD (a+j) 0)=true) →
  (decs s m a).foldl nextG (.ok (acc,b))=if 65535 < numV (((nums s).drop a).take k) then .error (a:Int) else (decs s (m-k) (a+k)).foldl nextG (.ok (acc++[numG s a k],3))
 | 0,h,_,_=>by omega
 | 1,_,hk,hl=>by
  have h0:=hl 0 (by omega)
  rw [Nat.add_zero,num_at s a (by omega)] at h0
  have hk2:=kOf_dig _ h0
  have hd:48≤(s.get! a).toNat∧(s.get! a).toNat≤57:=by unfold digB at h0;simp only [Bool.and_eq_true,decide_eq_true_eq] at h0;omega
  have e1:numV (((nums s).drop a).take 1)=min (10*0+(((s.get! a).toNat:Int)-48)) 65536:=numV_more s a 0 (by omega)
  have e2:numV (((nums s).drop a).take 1)=10*0+((s.get! a).toNat:Int)-48:=by rw [e1];omega
  rw [fold_low s m a _ hm (by omega) (by omega),step_new _ _ 3 hk2 (by decide) (by decide) (.inr (fun e=>hb e.symm)),put_num _ _ _ _ rfl]
  unfold numG
  rw [e2,if_neg (show ¬ 65535 < 10*(newG 3 (a:Int)).n+((s.get! a).toNat:Int)-48 from (by show ¬ 65535 < 10*(0:Int)+((s.get! a).toNat:Int)-48;omega)),if_neg (by omega)]
  rfl
 | k+2,_,hk,hl=>by
  rw [num_go s a m acc b hb hm (k+1) (by omega) (by omega) (fun j hj=>hl j (by omega))]
  have h0:=hl (k+1) (by omega)
  rw [num_at s (a+(k+1)) (by omega)] at h0
  have hk2:=kOf_dig _ h0
  have hd:48≤(s.get! (a+(k+1))).toNat∧(s.get! (a+(k+1))).toNat≤57:=by unfold digB at h0;simp only [Bool.and_eq_true,decide_eq_true_eq] at h0;omega
  have e1:=numV_more s a (k+1) (by omega)
  by_cases hbig:65535 < numV (((nums s).drop a).take (k+1))
  ·rw [if_pos hbig,if_pos (by rw [e1];omega)]
  ·rw [if_neg hbig]
   rw [fold_low s _ _ _ (by omega) (by omega) (by omega),show m-(k+1)-1=m-(k+2) by omega,show a+(k+1)+1=a+(k+2) by omega,step_same _ _ _ 3 hk2 (by decide) (by decide) (by decide),put_num _ _ _ _ rfl]
   by_cases hb2:65535 < 10*numV (((nums s).drop a).take (k+1))+((s.get! (a+(k+1))).toNat:Int)-48
   ·rw [if_pos (show 65535 < numV (((nums s).drop a).take (k+2)) by rw [e1];omega),if_pos (show 65535 < 10*(numG s a (k+1)).n+_-48 from hb2)]
    exact foldl_err _ _
   ·have e2:numV (((nums s).drop a).take (k+2))=10*numV (((nums s).drop a).take (k+1))+((s.get! (a+(k+1))).toNat:Int)-48:=by rw [e1];omega
    rw [if_neg (show ¬ 65535 < numV (((nums s).drop a).take (k+2)) by rw [e2];exact hb2),if_neg (show ¬ 65535 < 10*(numG s a (k+1)).n+_-48 from hb2)]
    unfold numG
    rw [e2]
def gtT (t:Tok):GT:=⟨kP t,t.place,wP t,nP t,sP t⟩
theorem word_tok (s:ByteArray) (a:Nat) (ha:a≤s.size):gtT (wordTok s a)=wordG s a (wordAt s a).size:=by
 have e:s.extract a (a+(wordAt s a).size)=wordAt s a:=by rw [(word_size s a ha).1];rfl
 unfold gtT wordG
 rw [e]
 unfold wordTok
 cases memB (wordAt s a) kws <;> rfl
theorem num_tok (s:ByteArray) (a:Nat) (ha:a≤s.size):gtT (numTok s a)=numG s a (numAt s a).size:=by
 have e:nums (numAt s a)=((nums s).drop a).take (numAt s a).size:=by
  rw [(num_size s a ha).1,numAt,nums_extract,show a+rowN true ((nums s).drop a)-a=rowN true ((nums s).drop a) by omega]
 unfold numG
 rw [←e]
 rfl
def lexIs (s:ByteArray) (x:Except Int (List GT×Int)):Option (List Tok)×Nat→Prop
 | (some l,p)=>p=s.size∧∃b,x = .ok (l.map gtT,b)
 | (none,p)=>x = .error (p:Int)
theorem lex_fold (s:ByteArray):∀(f a m:Nat) (acc:List Tok) (b:Int),s.size≤f+a→s.size≤m+a→a≤s.size→(b=2→a < s.size→letB ((nums s).getD a 0)=false)→(b=3→a < s.size→digB ((nums s).getD a 0)=false) →
  lexIs s ((decs s m a).foldl nextG (.ok (acc.map gtT,b))) (lex s f a acc)
 | 0,a,m,acc,b,hf,hm,ha,_,_=>by
  rw [decs_end s m a (by omega)]
  exact ⟨by omega,b,rfl⟩
 | f+1,a,m,acc,b,hf,hm,ha,h2,h3=>by
  rw [lex]
  by_cases hlt:a < s.size
  ·rw [if_pos hlt]
   have ws:=word_size s a ha
   have ns:=num_size s a ha
   have dl:∀j,((nums s).drop a).getD j 0=(nums s).getD (a+j) 0:=fun j=>by simp only [List.getD,List.getElem?_drop]
   have ll:((nums s).drop a).length=s.size-a:=by rw [List.length_drop,nums_length]
   cases hbl:blankAt s a with
   | true=>
    rw [if_pos rfl]
    unfold blankAt at hbl
    rw [num_at s a hlt] at hbl
    simp only [Bool.or_eq_true,beq_iff_eq] at hbl
    have hk1:kOf ((s.get! a).toNat:Int)=1:=by unfold kOf;rw [if_pos hbl]
    rw [fold_low s m a _ hm hlt (by omega)]
    have hst:stepG (acc.map gtT,b) ((a:Int),((s.get! a).toNat:Int)) = .ok (acc.map gtT,1):=by unfold stepG;rw [hk1];rfl
    rw [hst]
    exact lex_fold s f (a+1) (m-1) acc 1 (by omega) (by omega) (by omega) (fun h=>by omega) (fun h=>by omega)
   | false=>
    rw [if_neg (by simp)]
    by_cases hw:0 < (wordAt s a).size
    ·rw [if_pos hw]
     have hl:∀j,j < (wordAt s a).size→letB ((nums s).getD (a+j) 0)=true:=fun j hj=>by
      rw [←dl j]
      exact row_in false _ j (by rw [←ws.1];exact hj)
     have hb2:b≠2:=fun e=>by
      have:=hl 0 hw
      rw [Nat.add_zero,h2 e hlt] at this
      cases this
     rw [word_go s a m _ b hb2 hm _ hw ws.2 hl,←word_tok s a ha,show acc.map gtT++[gtT (wordTok s a)]=(acc++[wordTok s a]).map gtT by simp]
     refine lex_fold s f _ _ _ 2 (by omega) (by omega) ws.2 (fun _ hx=>?_) (fun h=>by omega)
     have:=row_end false ((nums s).drop a) (by rw [←ws.1,ll];omega)
     rw [←ws.1,dl] at this
     exact this
    ·rw [if_neg hw]
     have hnl:letB ((nums s).getD a 0)=false:=by
      have h0:rowN false ((nums s).drop a)=0:=by rw [←ws.1];omega
      have:=row_end false ((nums s).drop a) (by rw [h0,ll];omega)
      rw [h0,dl,Nat.add_zero] at this
      exact this
     by_cases hn:0 < (numAt s a).size
     ·rw [if_pos hn]
      have hl:∀j,j < (numAt s a).size→digB ((nums s).getD (a+j) 0)=true:=fun j hj=>by
       rw [←dl j]
       exact row_in true _ j (by rw [←ns.1];exact hj)
      have hb3:b≠3:=fun e=>by
       have:=hl 0 hn
       rw [Nat.add_zero,h3 e hlt] at this
       cases this
      have e:nums (numAt s a)=((nums s).drop a).take (numAt s a).size:=by
       rw [ns.1,numAt,nums_extract,show a+rowN true ((nums s).drop a)-a=rowN true ((nums s).drop a) by omega]
      rw [num_go s a m _ b hb3 hm _ hn ns.2 hl,←e]
      by_cases hbig:65535 < numV (nums (numAt s a))
      ·rw [if_pos hbig,if_pos hbig]
       rfl
      ·rw [if_neg hbig,if_neg hbig,←num_tok s a ha,show acc.map gtT++[gtT (numTok s a)]=(acc++[numTok s a]).map gtT by simp]
       refine lex_fold s f _ _ _ 3 (by omega) (by omega) ns.2 (fun h=>by omega) (fun _ hx=>?_)
       have:=row_end true ((nums s).drop a) (by rw [←ns.1,ll];omega)
       rw [←ns.1,dl] at this
       exact this
     ·rw [if_neg hn]
      have hnd:digB ((nums s).getD a 0)=false:=by
       have h0:rowN true ((nums s).drop a)=0:=by rw [←ns.1];omega
       have:=row_end true ((nums s).drop a) (by rw [h0,ll];omega)
       rw [h0,dl,Nat.add_zero] at this
       exact this
      by_cases hs:0 < (signF s a).size
      ·rw [if_pos hs]
       obtain ⟨hd,hmem⟩:=sign_some s a hlt hs
       have sz:=sign_size s a
       have hrp:0≤runeOf (signF s a)∧runeOf (signF s a)∈runesK:=by
        have:∀g∈signs,0≤runeOf g∧runeOf g∈runesK:=by
         intro g hg
         have hm2:runeOf g∈signs.map runeOf:=List.mem_map.2 ⟨g,hg,rfl⟩
         rw [rune_table] at hm2
         have:∀r∈runesL,0≤r:=by decide
         exact ⟨this _ hm2,hm2⟩
        exact this _ hmem
       have hk4:kOf (runeOf (signF s a))=4:=by
        have:∀r∈runesK,kOf r=4:=by decide
        exact this _ hrp.2
       rw [fold_one s m a _ hm hlt,hd]
       have hc:(((runeOf (signF s a)).toNat:Nat):Int)=runeOf (signF s a):=Int.toNat_of_nonneg hrp.1
       show lexIs s ((decs s (m-1) (a+(signF s a).size)).foldl nextG (stepG (acc.map gtT,b) ((a:Int),((runeOf (signF s a)).toNat:Int)))) _
       rw [hc,step_new _ _ 4 hk4 (by decide) (by decide) (.inl rfl),put_sign _ _ _ _ rfl rfl]
       have e:(acc.map gtT++[{ newG 4 (a:Int) with s:=runeOf (signF s a) }])=(acc++[signTok s a]).map gtT:=by rw [List.map_append];rfl
       show lexIs s ((decs s (m-1) (a+(signF s a).size)).foldl nextG (.ok ((acc.map gtT++[{ newG 4 (a:Int) with s:=runeOf (signF s a) }]),4))) _
       rw [e]
       exact lex_fold s f _ _ _ 4 (by omega) (by omega) (sz.2 hs) (fun h=>by omega) (fun h=>by omega)
      ·rw [if_neg hs]
       have hns:=sign_none s a hlt hs
       have hk0:kOf ((Utf8.decode s a).1:Int)=0:=by
        unfold blankAt at hbl
        rw [num_at s a hlt] at hbl hnl hnd
        unfold letB at hnl
        unfold digB at hnd
        simp only [Bool.or_eq_false_iff,beq_eq_false_iff_ne,ne_eq,Bool.and_eq_false_iff,decide_eq_false_iff_not] at hbl hnl hnd
        unfold kOf
        by_cases hlow:(s.get! a).toNat < 128
        ·rw [dec_low s a hlow] at hns ⊢
         simp only at hns ⊢
         rw [if_neg (by omega),if_neg hns,if_neg (by omega),if_neg (by omega)]
        ·have:=dec_hi s a hlow
         rw [if_neg (by omega),if_neg hns,if_neg (by omega),if_neg (by omega)]
       rw [fold_one s m a _ hm hlt]
       have hst:stepG (acc.map gtT,b) ((a:Int),((Utf8.decode s a).1:Int)) = .error (a:Int):=by unfold stepG;rw [hk0];rfl
       rw [hst]
       exact foldl_err _ _
  ·rw [if_neg hlt,decs_end s m a hlt]
   exact ⟨by omega,b,rfl⟩
theorem scan_lex (s:ByteArray):lexIs s (foldG (runesOf s)) (lex s s.size 0 []):=lex_fold s s.size 0 s.size [] 1 (by omega) (by omega) (by omega) (fun h=>by omega) (fun h=>by omega)
theorem gts_at (T:List Tok) (j i:Nat) (hj:j < T.length) (hi:i < 5):(gtsC (T.map gtT))[j*5+i]?=(tokC T[j])[i]?:=by
 induction T generalizing j with
 | nil=>simp at hj
 | cons t T ih=>
  have e:gtsC ((t::T).map gtT)=tokC t++gtsC (T.map gtT):=rfl
  rw [e]
  have h5:(tokC t).length=5:=rfl
  cases j with
  | zero=>rw [List.getElem?_append_left (by omega)];simp
  | succ j=>
   rw [List.getElem?_append_right (by omega),h5,show (j+1)*5+i-5=j*5+i by omega,ih j (by simpa using hj)]
   rfl
theorem toks_of {w:World} {base g c:Nat} {T:List Tok} {m:Nat} (h:w.ownsRow base 116 5 (.slice (some ⟨g,0,none⟩) m c) m (gtsC (T.map gtT))) (hm:m=T.length):PToks w g T:=by
 subst hm
 intro j hj
 have f:∀i (hi:i < 5),w.cell? ⟨g,j*5+i,none⟩=(tokC T[j])[i]?:=fun i hi=>(h.cellAt (j*5+i) (by omega)).trans (gts_at T j i hj hi)
 exact ⟨f 0 (by omega),f 1 (by omega),f 2 (by omega),f 3 (by omega),f 4 (by omega)⟩
def ScTok (w:World) (s:ByteArray) (e:Ending) (w':World):Option (List Tok)×Nat→Prop
 | (none,p)=>e = .returned (.tuple #[.slice none 0 0,.agg #[.int .i64 8,.int .i64 p]])
 | (some l,p)=>p=s.size∧∃g c,(w.heap.size≤g∧g < w'.heap.size)∧((l++[overTok p]).length≤c∧c≤maxLen)∧e = .returned (.tuple #[.slice (some ⟨g,0,none⟩) (l++[overTok p]).length c,.agg #[.int .i64 0,.int .i64 0]])∧PToks w' g (l++[overTok p])
theorem scanT (s:ByteArray) (hs:s.size≤300) (w:World):Calls Tryz.prog 57 #[.string s] w fun e w'=>Below w.heap.size w w'∧ScTok w s e w' (lex s s.size 0 []):=by
 refine (scan_any s hs w).mono ?_
 rintro e w' ⟨hb,hout⟩
 refine ⟨hb,?_⟩
 have hl:=scan_lex s
 cases hx:lex s s.size 0 [] with
 | mk o p=>
  rw [hx] at hl
  cases o with
  | none=>
   have hl':foldG (runesOf s) = .error (p:Int):=hl
   rcases hout with ⟨q,hq,rfl⟩ | ⟨σ,g,c,hq,_⟩
   ·rw [hl'] at hq
    cases hq
    rfl
   ·rw [hl'] at hq
    cases hq
  | some l=>
   obtain ⟨hp,b,hl'⟩:p=s.size∧∃b,foldG (runesOf s) = .ok (l.map gtT,b):=hl
   rcases hout with ⟨q,hq,_⟩ | ⟨σ,g,c,hq,rfl,hown⟩
   ·rw [hl'] at hq
    cases hq
   ·rw [hl'] at hq
    cases hq
    have e1:l.map gtT++[newG 5 (s.size:Int)]=(l++[overTok p]).map gtT:=by rw [List.map_append,hp];rfl
    have e2:(l.map gtT,b).1.length+1=(l++[overTok p]).length:=by simp
    rw [e2] at hown ⊢
    rw [e1] at hown
    refine ⟨hp,g,c,hown.lt g rfl,?_,rfl,toks_of hown rfl⟩
    rcases hown.2 with ⟨h0,_⟩ | ⟨g',cap,cur,h0,_,_,hn,hc,_⟩
    ·cases h0
    ·cases h0
     exact ⟨hn,hc⟩
end Go.Proofs.YthmmgiaobakilaaGreat
