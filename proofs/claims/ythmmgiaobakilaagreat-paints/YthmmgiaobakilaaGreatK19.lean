import Derived.Test.YthmmgiaobakilaaGreatK01
import Derived.Test.YthmmgiaobakilaaGreatK03
set_option maxRecDepth 100000
namespace Go.Proofs.YthmmgiaobakilaaGreat
open Go.RowKit
theorem let_any (x:Int) (w:World):Calls Tryz.prog 67 #[.int .u8 x] w fun e w'=>e = .returned (.bool (letB x))∧w'=w:=by
 by_cases h1:97≤x
 ·go_enter Tryz.func67,Tryz.ntmps67
  go_wp2
  all_goals go_ret
  all_goals exact ⟨ret_bool (by simp [letB,h1]),rfl⟩
 ·have h2:decide (97≤x)=false:=by simpa using h1
  go_enter Tryz.func67,Tryz.ntmps67
  go_wp2
  all_goals go_ret
  all_goals exact ⟨ret_bool (by simp [letB,h2]),rfl⟩
theorem dig_any (x:Int) (w:World):Calls Tryz.prog 68 #[.int .u8 x] w fun e w'=>e = .returned (.bool (digB x))∧w'=w:=by
 by_cases h1:48≤x
 ·go_enter Tryz.func68,Tryz.ntmps68
  go_wp2
  all_goals go_ret
  all_goals exact ⟨ret_bool (by simp [digB,h1]),rfl⟩
 ·have h2:decide (48≤x)=false:=by simpa using h1
  go_enter Tryz.func68,Tryz.ntmps68
  go_wp2
  all_goals go_ret
  all_goals exact ⟨ret_bool (by simp [digB,h2]),rfl⟩
theorem rowN_eq (d:Bool) (s:ByteArray) (a k:Nat) (hak:a≤k) (hk:k≤s.size) (h1:∀j,a≤j→j < k→(if d then digB ((nums s).getD j 0) else letB ((nums s).getD j 0))=true)
  (h2:k=s.size∨(if d then digB ((nums s).getD k 0) else letB ((nums s).getD k 0))=false):a+rowN d ((nums s).drop a)=k:=by
 have hg:∀j,((nums s).drop a).getD j 0=(nums s).getD (a+j) 0:=fun j=>by simp [List.getD,List.getElem?_drop]
 have:=takeWhile_len (fun x=>if d then digB x else letB x) ((nums s).drop a) (k-a) (by rw [List.length_drop,nums_length];omega)
  (fun j hj=>by rw [hg];exact h1 (a+j) (by omega) (by omega))
  (h2.elim (fun h2=>by left;rw [List.length_drop,nums_length];omega) (fun h2=>by right;rw [hg,show a+(k-a)=k by omega];exact h2))
 unfold rowN
 omega
theorem nums_getD (s:ByteArray) (j:Nat) (h:j < s.size):(nums s).getD j 0=(s[j].toNat:Int):=by
 simp [List.getD,nums_get s j h]
set_option maxHeartbeats 1000000 in
theorem row_any (s:ByteArray) (a:Nat) (d:Bool) (w:World) (hs:s.size≤300) (ha:a≤s.size) :
  Calls Tryz.prog 40 #[.string s,.int .i64 a,.bool d] w fun e w'=>e = .returned (.string (s.extract a (a+rowN d ((nums s).drop a))))∧w'=w:=by
 go_enter Tryz.func40,Tryz.ntmps40
 go_wp2
 go_loop [7] (fun i=>∃k:Nat,a≤k∧k≤s.size∧i = .int .i64 k∧∀j,a≤j→j < k→(if d then digB ((nums s).getD j 0) else letB ((nums s).getD j 0))=true) (fun i=>s.size-(intOf i).toNat)
 case atStart=>exact ⟨a,Nat.le_refl _,ha,rfl,fun j h1 h2=>by omega⟩
 case round=>
  obtain ⟨k,hak,hk,rfl,hall⟩:=hrel
  have HA:=hide hall
  clear hall
  by_cases hlt:k < s.size
  ·have HG:=hide (nums_getD s k hlt)
   have hb0:((s[k]'hlt).toNat:Int)≤255:=by have:=(s[k]'hlt).toNat_lt;omega
   cases d
   ·cases hc:letB (s[k]'hlt).toNat
    ·have HR:Hid (a+rowN false ((nums s).drop a)=k):=rowN_eq false s a k hak hk (unhide HA) (.inr (by rw [unhide HG];simpa using hc))
     go_wp2_with (first | (go_at_call 67;refine (let_any _ _).mono ?_;rintro e w' ⟨rfl,rfl⟩) | (go_at_call 68;refine (dig_any _ _).mono ?_;rintro e w' ⟨rfl,rfl⟩))
     go_ret
     exact ⟨by rw [unhide HR];rfl,rfl⟩
    ·have HK:Hid (∀j,a≤j→j < k+1→(if false=true then digB ((nums s).getD j 0) else letB ((nums s).getD j 0))=true):=fun j h1 h2=>by
      by_cases hj:j < k
      ·exact unhide HA j h1 hj
      ·have:j=k:=by omega
       subst this
       rw [unhide HG];simpa using hc
     go_wp2_with (first | (go_at_call 67;refine (let_any _ _).mono ?_;rintro e w' ⟨rfl,rfl⟩) | (go_at_call 68;refine (dig_any _ _).mono ?_;rintro e w' ⟨rfl,rfl⟩))
     go_round
     case rel=>exact ⟨k+1,by omega,by omega,by go_num,unhide HK⟩
     case measure=>simp [intOf];omega
   ·cases hc:digB (s[k]'hlt).toNat
    ·have HR:Hid (a+rowN true ((nums s).drop a)=k):=rowN_eq true s a k hak hk (unhide HA) (.inr (by rw [unhide HG];simpa using hc))
     go_wp2_with (first | (go_at_call 67;refine (let_any _ _).mono ?_;rintro e w' ⟨rfl,rfl⟩) | (go_at_call 68;refine (dig_any _ _).mono ?_;rintro e w' ⟨rfl,rfl⟩))
     go_ret
     exact ⟨by rw [unhide HR];rfl,rfl⟩
    ·have HK:Hid (∀j,a≤j→j < k+1→(if true=true then digB ((nums s).getD j 0) else letB ((nums s).getD j 0))=true):=fun j h1 h2=>by
      by_cases hj:j < k
      ·exact unhide HA j h1 hj
      ·have:j=k:=by omega
       subst this
       rw [unhide HG];simpa using hc
     go_wp2_with (first | (go_at_call 67;refine (let_any _ _).mono ?_;rintro e w' ⟨rfl,rfl⟩) | (go_at_call 68;refine (dig_any _ _).mono ?_;rintro e w' ⟨rfl,rfl⟩))
     go_round
     case rel=>exact ⟨k+1,by omega,by omega,by go_num,unhide HK⟩
     case measure=>simp [intOf];omega
  ·have HR:Hid (a+rowN d ((nums s).drop a)=k):=rowN_eq d s a k hak hk (unhide HA) (.inl (by omega))
   go_wp2
   go_ret
   exact ⟨by rw [unhide HR];rfl,rfl⟩
set_option maxHeartbeats 1000000 in
theorem value_any (s:ByteArray) (w:World) (hs:s.size≤300) (hd:∀x∈nums s,digB x=true) :
  Calls Tryz.prog 43 #[.string s] w fun e w'=>e = .returned (.int .i64 (numV (nums s)))∧w'=w:=by
 go_enter Tryz.func43,Tryz.ntmps43
 go_wp2
 go_loop [3,4] (fun n i=>∃k:Nat,k≤s.size∧i = .int .i64 k∧n = .int .i64 (numV ((nums s).take k))) (fun _ i=>s.size-(intOf i).toNat)
 case atStart=>exact ⟨0,Nat.zero_le _,rfl,rfl⟩
 case round=>
  obtain ⟨k,hk,rfl,rfl⟩:=hrel
  obtain ⟨nb1,nb2⟩:=numV_bounds ((nums s).take k) (fun x hx=>hd x (List.mem_of_mem_take hx))
  by_cases hlt:k < s.size
  ·have HS:=hide (numV_take_succ (nums s) k (by rw [nums_length];exact hlt))
   rw [nums_getD s k hlt] at HS
   have hdig:=hd (s[k].toNat:Int) (by have:=List.mem_of_getElem? (nums_get s k hlt);exact this)
   simp [digB] at hdig
   obtain ⟨d1,d2⟩:=hdig
   generalize hnv:numV ((nums s).take k)=nv at *
   clear hnv
   go_wp2
   go_round
   case rel=>exact ⟨k+1,by omega,by go_num,by rw [unhide HS]⟩
   case measure=>simp [intOf];omega
  ·go_wp2
   go_ret
   exact ⟨ret_int (by rw [List.take_of_length_le (by rw [nums_length];omega)]),rfl⟩
theorem memB_true {s:ByteArray} {l:List ByteArray} {k:Nat} (hk:k < l.length) (h:((l.getD k ByteArray.empty).toList==s.toList)=true):memB s l=true:=by
 rw [memB,List.any_eq_true]
 exact ⟨l[k],List.getElem_mem hk,by simpa [List.getD,List.getElem?_eq_getElem hk] using h⟩
theorem memB_false {s:ByteArray} {l:List ByteArray} (h:∀j,j < l.length→((l.getD j ByteArray.empty).toList==s.toList)=false):memB s l=false:=by
 rw [memB,List.any_eq_false]
 intro t ht
 obtain ⟨j,hj,rfl⟩:=List.getElem_of_mem ht
 have:=h j hj
 simpa [List.getD,List.getElem?_eq_getElem hj] using this
set_option maxHeartbeats 1000000 in
theorem among_any (s:ByteArray) (ao:Option Addr) (c:Nat) (l:List ByteArray) (w:World) (h:StrsAt w.heap.size w ao l) (hl:l.length≤100) :
  Calls Tryz.prog 42 #[.string s,.slice ao l.length c] w fun e w'=>e = .returned (.bool (memB s l))∧w'=w:=by
 obtain ⟨b,off,rfl,hb,hcell⟩:=h
 go_enter Tryz.func42,Tryz.ntmps42
 go_wp2
 go_loop [5] (fun i=>∃k:Nat,k≤l.length∧i = .int .i64 k∧∀j,j < k→((l.getD j ByteArray.empty).toList==s.toList)=false) (fun i=>l.length-(intOf i).toNat)
 case atStart=>exact ⟨0,Nat.zero_le _,rfl,fun j hj=>by omega⟩
 case round=>
  obtain ⟨k,hk,rfl,hall⟩:=hrel
  have HA:=hide hall
  clear hall
  by_cases hlt:k < l.length
  ·have hc:=hcell k hlt
   clear hcell
   have HT:=hide (fun h=>memB_true (s:=s) hlt h)
   have HF:Hid (((l.getD k ByteArray.empty).toList==s.toList)=false→∀j,j < k+1→((l.getD j ByteArray.empty).toList==s.toList)=false):=fun h j hj=>by
    by_cases hjk:j < k
    ·exact unhide HA j hjk
    ·have:j=k:=by omega
     subst this
     exact h
   generalize l.getD k ByteArray.empty=t at hc HT HF
   cases he:(t.toList==s.toList)
   ·go_wp2
    go_round
    case rel=>exact ⟨k+1,by omega,by go_num,unhide HF he⟩
    case measure=>simp [intOf];omega
   ·go_wp2
    go_ret
    exact ⟨ret_bool (unhide HT he).symm,rfl⟩
  ·have HF:=hide (memB_false (s:=s) (l:=l) (fun j hj=>unhide HA j (by omega)))
   go_wp2
   go_ret
   exact ⟨ret_bool (unhide HF).symm,rfl⟩
end Go.Proofs.YthmmgiaobakilaaGreat
