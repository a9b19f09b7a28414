import Derived.Test.YthmmgiaobakilaaGreatRows
import Derived.WalkKit
import Derived.WalkSpells
import Derived.WalkLawsBesides
import Derived.Lib.AppendStr
import Derived.Lib.SlBytesRow
set_option maxRecDepth 100000
namespace Go.Proofs.YthmmgiaobakilaaGreat
open Go.RowKit
theorem hide {p:Prop} (h:p):Hid p:=h
theorem unhide {p:Prop} (h:Hid p):p:=h
def IntsAt (B:Nat) (w:World) (ao:Option Addr) (xs:List Int):Prop:=
 xs=[]∨∃b off,ao=some ⟨b,off,none⟩∧b < B∧∀j,j < xs.length→w.cell? ⟨b,off+j,none⟩=some (.int .i64 (xs.getD j 0))
theorem IntsAt.later {B B':Nat} {w w':World} {ao:Option Addr} {xs:List Int} (h:IntsAt B w ao xs) (hb:Below B' w w') (hB:B≤B'):IntsAt B w' ao xs:=by
 rcases h with h | ⟨b,off,h1,h2,h3⟩
 ·exact .inl h
 ·exact .inr ⟨b,off,h1,h2,fun j hj=>(hb.cell (p:=⟨b,off+j,none⟩) (by show b < B';omega)).trans (h3 j hj)⟩
theorem IntsAt.mono {B B':Nat} {w:World} {ao:Option Addr} {xs:List Int} (h:IntsAt B w ao xs) (hB:B≤B'):IntsAt B' w ao xs:=by
 rcases h with h | ⟨b,off,h1,h2,h3⟩
 ·exact .inl h
 ·exact .inr ⟨b,off,h1,by omega,h3⟩
def sideB (n:Int):Bool:=decide (1≤n)&&decide (n≤6)
def texelB (x:Int):Bool:=decide (0≤x)&&decide (x≤255)
def texelsB (xs:List Int) (c:Int):Bool:=decide ((xs.length:Int)=c)&&xs.all texelB
def shapeE (W H:Int) (xs ys:List Int):Int:=
 if sideB W&&sideB H then (if texelsB xs (W*H)&&texelsB ys (W*H) then 0 else 6) else 3
theorem side_mul {W H:Int} (hW:sideB W=true) (hH:sideB H=true):1≤W∧W≤6∧1≤H∧H≤6∧1≤W*H∧W*H≤36:=by
 simp [sideB] at hW hH
 obtain ⟨a,b⟩:=hW
 obtain ⟨c,d⟩:=hH
 have h1:(W=1∨W=2∨W=3∨W=4∨W=5∨W=6):=by omega
 refine ⟨a,b,c,d,?_⟩
 rcases h1 with rfl | rfl | rfl | rfl | rfl | rfl <;> omega
def nums (s:ByteArray):List Int:=s.data.toList.map fun b=>(b.toNat:Int)
theorem nums_length (s:ByteArray):(nums s).length=s.size:=by simp [nums]
theorem ret_int {k:IntKind} {a b:Int} (h:a=b):Ending.returned (.int k a) = .returned (.int k b):=by rw [h]
theorem ret_bool {a b:Bool} (h:a=b):Ending.returned (.bool a) = .returned (.bool b):=by rw [h]
theorem all_take_succ (p:Int→Bool) (xs:List Int) (k:Nat) (h:k < xs.length):(xs.take (k+1)).all p=((xs.take k).all p&&p (xs.getD k 0)):=by
 rw [List.take_succ_eq_append_getElem h,List.all_append]
 simp only [List.all_cons,List.all_nil,Bool.and_true,List.getD,List.getElem?_eq_getElem h,Option.getD_some]
theorem all_false_of (p:Int→Bool) (xs:List Int) (k:Nat) (h:k < xs.length) (hp:p (xs.getD k 0)=false):xs.all p=false:=by
 rw [Bool.eq_false_iff]
 intro hall
 have:=List.all_eq_true.1 hall (xs[k]) (List.getElem_mem h)
 simp [List.getD,List.getElem?_eq_getElem h] at hp
 simp [hp] at this
theorem cell_new (w:World) (cs:List Value) (T:TypeId):∀j u,cs[j]?=some u→(w.alloc (.cells cs.toArray T)).cell? ((⟨w.heap.size,0,none⟩:Addr).add j)=some u:=by
 intro j u h
 have hadd:(⟨w.heap.size,0,none⟩:Addr).add j=⟨w.heap.size,j,none⟩:=by unfold Addr.add;split <;> simp_all
 rw [hadd,World.cell?_alloc_at _ _ _ _ rfl]
 simpa using h
theorem slice_at (b:ByteArray) (i j:Nat) (c d:Int) (hc:c=(i:Int)) (hd:d=(j:Int)) (h1:i≤j) (h2:j≤b.size) (u:World):(Instr.slice 9 (.string b) (some (.int .i64 c)) (some (.int .i64 d)) none).run Tryz.prog u = .ok (.string (b.extract i j)) u:=by
 subst hc hd
 rw [run_slice_string (P:=Tryz.prog) u 9 b .i64 .i64 (i:Int) (j:Int) Tryz.underlying9 (by omega) (by omega) (by omega)]
 simp
theorem nums_extract (s:ByteArray) (a b:Nat):nums (s.extract a b)=((nums s).drop a).take (b-a):=by
 simp only [nums]
 rw [Lib.extract_data,List.map_take,List.map_drop]
def runesK:List Int:=[8592,8230,215,247,8804,8800,43,45,61,60,40,41,123,125,91,93,44,59]
def kOf (r:Int):Int:=if r=32∨r=10 then 1 else if r∈runesK then 4 else if 97≤r∧r≤122 then 2 else if 48≤r∧r≤57 then 3 else 0
set_option maxHeartbeats 8000000 in
theorem kindOf_any (r:Int) (w:World):Calls Tryz.prog 83 #[.int .i32 r] w fun e w'=>e = .returned (.int .i64 (kOf r))∧w'=w:=by
 by_cases h1:r=32∨r=10
 ·have e:kOf r=1:=by unfold kOf;rw [if_pos h1]
  rw [e]
  rcases h1 with rfl | rfl
  all_goals
   go_enter Tryz.func83,Tryz.ntmps83
   go_wp2
   go_ret
   exact ⟨rfl,rfl⟩
 by_cases h2:r∈runesK
 ·have e:kOf r=4:=by unfold kOf;rw [if_neg h1,if_pos h2]
  rw [e]
  clear h1 e
  simp only [runesK,List.mem_cons,List.not_mem_nil,or_false] at h2
  rcases h2 with rfl | rfl | rfl | rfl | rfl | rfl | rfl | rfl | rfl | rfl | rfl | rfl | rfl | rfl | rfl | rfl | rfl | rfl
  all_goals
   go_enter Tryz.func83,Tryz.ntmps83
   go_wp2
   go_ret
   exact ⟨rfl,rfl⟩
 have n1:¬ r=32:=fun e=>h1 (.inl e)
 have n2:¬ r=10:=fun e=>h1 (.inr e)
 simp only [runesK,List.mem_cons,List.not_mem_nil,or_false,not_or] at h2
 obtain ⟨m1,m2,m3,m4,m5,m6,m7,m8,m9,m10,m11,m12,m13,m14,m15,m16,m17,m18⟩:=h2
 have hn:r ∉ runesK:=by simp only [runesK,List.mem_cons,List.not_mem_nil,or_false,not_or];exact ⟨m1,m2,m3,m4,m5,m6,m7,m8,m9,m10,m11,m12,m13,m14,m15,m16,m17,m18⟩
 by_cases h3:97≤r∧r≤122
 ·have e:kOf r=2:=by unfold kOf;rw [if_neg h1,if_neg hn,if_pos h3]
  rw [e]
  obtain ⟨h4,h5⟩:=h3
  clear h1 hn e
  go_enter Tryz.func83,Tryz.ntmps83
  go_wp2
  go_ret
  exact ⟨rfl,rfl⟩
 by_cases h6:48≤r∧r≤57
 ·have e:kOf r=3:=by unfold kOf;rw [if_neg h1,if_neg hn,if_neg h3,if_pos h6]
  rw [e]
  obtain ⟨h4,h5⟩:=h6
  have h7:¬ 97≤r:=by omega
  clear h1 hn e h3
  go_enter Tryz.func83,Tryz.ntmps83
  go_wp2
  go_ret
  exact ⟨rfl,rfl⟩
 have e:kOf r=0:=by unfold kOf;rw [if_neg h1,if_neg hn,if_neg h3,if_neg h6]
 rw [e]
 clear h1 hn e
 by_cases a1:97≤r
 ·have a2:¬ r≤122:=fun h=>h3 ⟨a1,h⟩
  have a3:48≤r:=by omega
  have a4:¬ r≤57:=by omega
  go_enter Tryz.func83,Tryz.ntmps83
  go_wp2
  go_ret
  exact ⟨rfl,rfl⟩
 ·by_cases a2:48≤r
  ·have a3:¬ r≤57:=fun h=>h6 ⟨a2,h⟩
   go_enter Tryz.func83,Tryz.ntmps83
   go_wp2
   go_ret
   exact ⟨rfl,rfl⟩
  ·go_enter Tryz.func83,Tryz.ntmps83
   go_wp2
   go_ret
   exact ⟨rfl,rfl⟩
theorem enc_low (r:Int) (h0:0≤r) (h1:r < 128):Utf8.encode r=⟨#[r.toNat.toUInt8]⟩:=by
 have hv:Utf8.valid r=true:=by unfold Utf8.valid;simp;omega
 unfold Utf8.encode
 rw [hv]
 simp only [if_true]
 rw [if_pos (by omega)]
set_option maxHeartbeats 4000000 in
theorem add_word (r:Int) (w:World) (b o:Nat) (wd:ByteArray) (hr:97≤r∧r≤122) (c0:w.cell? ⟨b,o,none⟩=some (.int .i64 2)) (c2:w.cell? ⟨b,o+2,none⟩=some (.string wd)) (z2:w.frozen? ⟨b,o+2,none⟩=false) (hl:wd.size≤1000) :
  Calls Tryz.prog 84 #[.pointer (some ⟨b,o,none⟩),.int .i32 r] w fun e w'=>e = .returned (.tuple #[])∧w'=w.setCell ⟨b,o+2,none⟩ (.string (wd++⟨#[r.toNat.toUInt8]⟩)):=by
 have he:=enc_low r (by omega) (by omega)
 have hz:(Utf8.encode r).size=1:=by rw [he];rfl
 have HE:=hide he
 obtain ⟨h4,h5⟩:=hr
 clear he
 go_enter Tryz.func84,Tryz.ntmps84
 go_wp2
 go_end0
 exact ⟨rfl,by rw [unhide HE]⟩
set_option maxHeartbeats 4000000 in
theorem add_number (r n:Int) (w:World) (b o:Nat) (hr:48≤r∧r≤57) (hn:0≤n∧n≤65535) (c0:w.cell? ⟨b,o,none⟩=some (.int .i64 3)) (c2:w.cell? ⟨b,o+3,none⟩=some (.int .i32 n)) (z2:w.frozen? ⟨b,o+3,none⟩=false) :
  Calls Tryz.prog 84 #[.pointer (some ⟨b,o,none⟩),.int .i32 r] w fun e w'=>e = .returned (.tuple #[])∧w'=w.setCell ⟨b,o+3,none⟩ (.int .i32 (10*n+r-48)):=by
 obtain ⟨h4,h5⟩:=hr
 obtain ⟨h6,h7⟩:=hn
 go_enter Tryz.func84,Tryz.ntmps84
 go_wp2
 go_end0
 exact ⟨rfl,rfl⟩
set_option maxHeartbeats 4000000 in
theorem add_sign (r s:Int) (w:World) (b o:Nat) (c0:w.cell? ⟨b,o,none⟩=some (.int .i64 4)) (c2:w.cell? ⟨b,o+4,none⟩=some (.int .i32 s)) (z2:w.frozen? ⟨b,o+4,none⟩=false) :
  Calls Tryz.prog 84 #[.pointer (some ⟨b,o,none⟩),.int .i32 r] w fun e w'=>e = .returned (.tuple #[])∧w'=w.setCell ⟨b,o+4,none⟩ (.int .i32 r):=by
 go_enter Tryz.func84,Tryz.ntmps84
 go_wp2
 go_end0
 exact ⟨rfl,rfl⟩
end Go.Proofs.YthmmgiaobakilaaGreat

set_option maxRecDepth 100000
namespace Go.Proofs.YthmmgiaobakilaaGreat
def letB (x:Int):Bool:=decide (97≤x)&&decide (x≤122)
def digB (x:Int):Bool:=decide (48≤x)&&decide (x≤57)
def rowN (d:Bool) (L:List Int):Nat:=(L.takeWhile (fun x=>if d then digB x else letB x)).length
def numV (L:List Int):Int:=L.foldl (fun n x=>min (10*n+(x-48)) 65536) 0
theorem takeWhile_len (p:Int→Bool) (L:List Int):∀m,m≤L.length→(∀j,j < m→p (L.getD j 0)=true)→(m=L.length∨p (L.getD m 0)=false)→(L.takeWhile p).length=m:=by
 induction L with
 | nil=>intro m hm _ _;simp at hm;simp [hm]
 | cons x L ih=>
  intro m hm h1 h2
  cases m with
  | zero=>
   rcases h2 with h2 | h2
   ·simp at h2
   ·have:p x=false:=by simpa using h2
    simp [this]
  | succ m=>
   have hx:p x=true:=by simpa using h1 0 (by omega)
   have:=ih m (by simpa using hm) (fun j hj=>by simpa using h1 (j+1) (by omega)) (by simpa using h2)
   simp [hx,this]
theorem numV_take_succ (L:List Int) (k:Nat) (h:k < L.length):numV (L.take (k+1))=min (10*numV (L.take k)+(L.getD k 0-48)) 65536:=by
 have e:L.getD k 0=L[k]:=by simp [List.getD,List.getElem?_eq_getElem h]
 rw [List.take_succ_eq_append_getElem h,numV,List.foldl_append,e]
 rfl
theorem numV_bounds (L:List Int) (h:∀x∈L,digB x=true):0≤numV L∧numV L≤65536:=by
 have:∀(L:List Int) (n:Int),(∀x∈L,digB x=true)→0≤n→n≤65536→0≤L.foldl (fun n x=>min (10*n+(x-48)) 65536) n∧L.foldl (fun n x=>min (10*n+(x-48)) 65536) n≤65536:=by
  intro L
  induction L with
  | nil=>intro n _ h0 h1;exact ⟨h0,h1⟩
  | cons x L ih=>
   intro n hd h0 h1
   have hx:=hd x List.mem_cons_self
   simp [digB] at hx
   exact ih (min (10*n+(x-48)) 65536) (fun y hy=>hd y (List.mem_cons_of_mem _ hy)) (by omega) (by omega)
 exact this L 0 h (by decide) (by decide)
end Go.Proofs.YthmmgiaobakilaaGreat

set_option maxRecDepth 100000
namespace Go.Proofs.YthmmgiaobakilaaGreat
open Go.RowKit
theorem bk2 {w:World} {b:Nat} {ty:TypeId} {c0 c1:Value} (h:w.heap[b]?=some (.cells #[c0,c1] ty (0,0))) :
  (w.cell? ⟨b,0,none⟩=some c0∧w.cell? ⟨b,1,none⟩=some c1)∧(w.frozen? ⟨b,0,none⟩=false∧w.frozen? ⟨b,1,none⟩=false):=by
 refine ⟨⟨?_,?_⟩,?_,?_⟩ <;> simp [World.cell?,World.frozen?,h]
theorem bk3 {w:World} {b:Nat} {ty:TypeId} {c0 c1 c2:Value} (h:w.heap[b]?=some (.cells #[c0,c1,c2] ty (0,0))) :
  (w.cell? ⟨b,0,none⟩=some c0∧w.cell? ⟨b,1,none⟩=some c1∧w.cell? ⟨b,2,none⟩=some c2)∧(w.frozen? ⟨b,0,none⟩=false∧w.frozen? ⟨b,1,none⟩=false∧w.frozen? ⟨b,2,none⟩=false):=by
 refine ⟨⟨?_,?_,?_⟩,?_,?_,?_⟩ <;> simp [World.cell?,World.frozen?,h]
theorem bk5 {w:World} {b:Nat} {ty:TypeId} {c0 c1 c2 c3 c4:Value} (h:w.heap[b]?=some (.cells #[c0,c1,c2,c3,c4] ty (0,0))) :
  (w.cell? ⟨b,0,none⟩=some c0∧w.cell? ⟨b,1,none⟩=some c1∧w.cell? ⟨b,2,none⟩=some c2∧w.cell? ⟨b,3,none⟩=some c3∧w.cell? ⟨b,4,none⟩=some c4)∧(w.frozen? ⟨b,0,none⟩=false∧w.frozen? ⟨b,1,none⟩=false∧w.frozen? ⟨b,2,none⟩=false∧w.frozen? ⟨b,3,none⟩=false∧w.frozen? ⟨b,4,none⟩=false):=by
 refine ⟨⟨?_,?_,?_,?_,?_⟩,?_,?_,?_,?_,?_⟩ <;> simp [World.cell?,World.frozen?,h]
theorem bk11 {w:World} {b:Nat} {ty:TypeId} {c0 c1 c2 c3 c4 c5 c6 c7 c8 c9 c10:Value} (h:w.heap[b]?=some (.cells #[c0,c1,c2,c3,c4,c5,c6,c7,c8,c9,c10] ty (0,0))) :
  (w.cell? ⟨b,0,none⟩=some c0∧w.cell? ⟨b,1,none⟩=some c1∧w.cell? ⟨b,2,none⟩=some c2∧w.cell? ⟨b,3,none⟩=some c3∧w.cell? ⟨b,4,none⟩=some c4∧w.cell? ⟨b,5,none⟩=some c5∧w.cell? ⟨b,6,none⟩=some c6∧w.cell? ⟨b,7,none⟩=some c7∧w.cell? ⟨b,8,none⟩=some c8∧w.cell? ⟨b,9,none⟩=some c9∧w.cell? ⟨b,10,none⟩=some c10)∧(w.frozen? ⟨b,0,none⟩=false∧w.frozen? ⟨b,1,none⟩=false∧w.frozen? ⟨b,2,none⟩=false∧w.frozen? ⟨b,3,none⟩=false∧w.frozen? ⟨b,4,none⟩=false∧w.frozen? ⟨b,5,none⟩=false∧w.frozen? ⟨b,6,none⟩=false∧w.frozen? ⟨b,7,none⟩=false∧w.frozen? ⟨b,8,none⟩=false∧w.frozen? ⟨b,9,none⟩=false∧w.frozen? ⟨b,10,none⟩=false):=by
 refine ⟨⟨?_,?_,?_,?_,?_,?_,?_,?_,?_,?_,?_⟩,?_,?_,?_,?_,?_,?_,?_,?_,?_,?_,?_⟩ <;> simp [World.cell?,World.frozen?,h]
theorem bk13 {w:World} {b:Nat} {ty:TypeId} {c0 c1 c2 c3 c4 c5 c6 c7 c8 c9 c10 c11 c12:Value} (h:w.heap[b]?=some (.cells #[c0,c1,c2,c3,c4,c5,c6,c7,c8,c9,c10,c11,c12] ty (0,0))) :
  (w.cell? ⟨b,0,none⟩=some c0∧w.cell? ⟨b,1,none⟩=some c1∧w.cell? ⟨b,2,none⟩=some c2∧w.cell? ⟨b,3,none⟩=some c3∧w.cell? ⟨b,4,none⟩=some c4∧w.cell? ⟨b,5,none⟩=some c5∧w.cell? ⟨b,6,none⟩=some c6∧w.cell? ⟨b,7,none⟩=some c7∧w.cell? ⟨b,8,none⟩=some c8∧w.cell? ⟨b,9,none⟩=some c9∧w.cell? ⟨b,10,none⟩=some c10∧w.cell? ⟨b,11,none⟩=some c11∧w.cell? ⟨b,12,none⟩=some c12)∧(w.frozen? ⟨b,0,none⟩=false∧w.frozen? ⟨b,1,none⟩=false∧w.frozen? ⟨b,2,none⟩=false∧w.frozen? ⟨b,3,none⟩=false∧w.frozen? ⟨b,4,none⟩=false∧w.frozen? ⟨b,5,none⟩=false∧w.frozen? ⟨b,6,none⟩=false∧w.frozen? ⟨b,7,none⟩=false∧w.frozen? ⟨b,8,none⟩=false∧w.frozen? ⟨b,9,none⟩=false∧w.frozen? ⟨b,10,none⟩=false∧w.frozen? ⟨b,11,none⟩=false∧w.frozen? ⟨b,12,none⟩=false):=by
 refine ⟨⟨?_,?_,?_,?_,?_,?_,?_,?_,?_,?_,?_,?_,?_⟩,?_,?_,?_,?_,?_,?_,?_,?_,?_,?_,?_,?_,?_⟩ <;> simp [World.cell?,World.frozen?,h]
theorem bk16 {w:World} {b:Nat} {ty:TypeId} {c0 c1 c2 c3 c4 c5 c6 c7 c8 c9 c10 c11 c12 c13 c14 c15:Value} (h:w.heap[b]?=some (.cells #[c0,c1,c2,c3,c4,c5,c6,c7,c8,c9,c10,c11,c12,c13,c14,c15] ty (0,0))) :
  (w.cell? ⟨b,0,none⟩=some c0∧w.cell? ⟨b,1,none⟩=some c1∧w.cell? ⟨b,2,none⟩=some c2∧w.cell? ⟨b,3,none⟩=some c3∧w.cell? ⟨b,4,none⟩=some c4∧w.cell? ⟨b,5,none⟩=some c5∧w.cell? ⟨b,6,none⟩=some c6∧w.cell? ⟨b,7,none⟩=some c7∧w.cell? ⟨b,8,none⟩=some c8∧w.cell? ⟨b,9,none⟩=some c9∧w.cell? ⟨b,10,none⟩=some c10∧w.cell? ⟨b,11,none⟩=some c11∧w.cell? ⟨b,12,none⟩=some c12∧w.cell? ⟨b,13,none⟩=some c13∧w.cell? ⟨b,14,none⟩=some c14∧w.cell? ⟨b,15,none⟩=some c15)∧(w.frozen? ⟨b,0,none⟩=false∧w.frozen? ⟨b,1,none⟩=false∧w.frozen? ⟨b,2,none⟩=false∧w.frozen? ⟨b,3,none⟩=false∧w.frozen? ⟨b,4,none⟩=false∧w.frozen? ⟨b,5,none⟩=false∧w.frozen? ⟨b,6,none⟩=false∧w.frozen? ⟨b,7,none⟩=false∧w.frozen? ⟨b,8,none⟩=false∧w.frozen? ⟨b,9,none⟩=false∧w.frozen? ⟨b,10,none⟩=false∧w.frozen? ⟨b,11,none⟩=false∧w.frozen? ⟨b,12,none⟩=false∧w.frozen? ⟨b,13,none⟩=false∧w.frozen? ⟨b,14,none⟩=false∧w.frozen? ⟨b,15,none⟩=false):=by
 refine ⟨⟨?_,?_,?_,?_,?_,?_,?_,?_,?_,?_,?_,?_,?_,?_,?_,?_⟩,?_,?_,?_,?_,?_,?_,?_,?_,?_,?_,?_,?_,?_,?_,?_,?_⟩ <;> simp [World.cell?,World.frozen?,h]
theorem ta_Assign_Assign (v:Value) (w:World):(Instr.typeAssert (.iface 121 v) 113 121 true).run Tryz.prog w = .ok (.tuple #[v,.bool true]) w:=by kernel_rfl
theorem ta_If_Assign (v:Value) (w:World):(Instr.typeAssert (.iface 124 v) 113 121 true).run Tryz.prog w = .ok (.tuple #[.agg #[.int .i64 0,.int .i64 0,.string ⟨#[]⟩,.int .i32 0,.int .i32 0,.int .i64 0,.int .i64 0,.string ⟨#[]⟩,.int .i32 0,.int .i32 0,.slice none 0 0],.bool false]) w:=by kernel_rfl
theorem ta_If_If (v:Value) (w:World):(Instr.typeAssert (.iface 124 v) 113 124 true).run Tryz.prog w = .ok (.tuple #[v,.bool true]) w:=by kernel_rfl
theorem ta_For_Assign (v:Value) (w:World):(Instr.typeAssert (.iface 127 v) 113 121 true).run Tryz.prog w = .ok (.tuple #[.agg #[.int .i64 0,.int .i64 0,.string ⟨#[]⟩,.int .i32 0,.int .i32 0,.int .i64 0,.int .i64 0,.string ⟨#[]⟩,.int .i32 0,.int .i32 0,.slice none 0 0],.bool false]) w:=by kernel_rfl
theorem ta_For_If (v:Value) (w:World):(Instr.typeAssert (.iface 127 v) 113 124 true).run Tryz.prog w = .ok (.tuple #[.agg #[.int .i64 0,.int .i64 0,.string ⟨#[]⟩,.int .i32 0,.int .i32 0,.int .i64 0,.int .i64 0,.string ⟨#[]⟩,.int .i32 0,.int .i32 0,.slice none 0 0,.slice none 0 0,.slice none 0 0],.bool false]) w:=by kernel_rfl
theorem ta_For_For (v:Value) (w:World):(Instr.typeAssert (.iface 127 v) 113 127 true).run Tryz.prog w = .ok (.tuple #[v,.bool true]) w:=by kernel_rfl
theorem ta_Put_Assign (v:Value) (w:World):(Instr.typeAssert (.iface 130 v) 113 121 true).run Tryz.prog w = .ok (.tuple #[.agg #[.int .i64 0,.int .i64 0,.string ⟨#[]⟩,.int .i32 0,.int .i32 0,.int .i64 0,.int .i64 0,.string ⟨#[]⟩,.int .i32 0,.int .i32 0,.slice none 0 0],.bool false]) w:=by kernel_rfl
theorem ta_Put_If (v:Value) (w:World):(Instr.typeAssert (.iface 130 v) 113 124 true).run Tryz.prog w = .ok (.tuple #[.agg #[.int .i64 0,.int .i64 0,.string ⟨#[]⟩,.int .i32 0,.int .i32 0,.int .i64 0,.int .i64 0,.string ⟨#[]⟩,.int .i32 0,.int .i32 0,.slice none 0 0,.slice none 0 0,.slice none 0 0],.bool false]) w:=by kernel_rfl
theorem ta_Put_For (v:Value) (w:World):(Instr.typeAssert (.iface 130 v) 113 127 true).run Tryz.prog w = .ok (.tuple #[.agg #[.int .i64 0,.int .i64 0,.string ⟨#[]⟩,.int .i32 0,.int .i32 0,.int .i64 0,.int .i64 0,.string ⟨#[]⟩,.int .i32 0,.int .i32 0,.int .i64 0,.int .i64 0,.string ⟨#[]⟩,.int .i32 0,.int .i32 0,.slice none 0 0],.bool false]) w:=by kernel_rfl
theorem ta_Put_Put (v:Value) (w:World):(Instr.typeAssert (.iface 130 v) 113 130 true).run Tryz.prog w = .ok (.tuple #[v,.bool true]) w:=by kernel_rfl
theorem side_any (n:Int) (w:World):Calls Tryz.prog 55 #[.int .i64 n] w fun e w'=>e = .returned (.bool (sideB n))∧w'=w:=by
 by_cases h1:1≤n
 ·go_enter Tryz.func55,Tryz.ntmps55
  go_wp2
  all_goals go_ret
  all_goals exact ⟨ret_bool (by simp [sideB,h1]),rfl⟩
 ·have h2:decide (1≤n)=false:=by simpa using h1
  go_enter Tryz.func55,Tryz.ntmps55
  go_wp2
  all_goals go_ret
  all_goals exact ⟨ret_bool (by simp [sideB,h2]),rfl⟩
set_option maxHeartbeats 400000 in
theorem texels_any (ao:Option Addr) (c:Nat) (xs:List Int) (count:Int) (w:World) (B:Nat) (h:IntsAt B w ao xs) (hl:xs.length≤maxLen) :
  Calls Tryz.prog 56 #[.slice ao xs.length c,.int .i64 count] w fun e w'=>e = .returned (.bool (texelsB xs count))∧w'=w:=by
 unfold maxLen at hl
 by_cases hc:(xs.length:Int)=count
 ·have hc':((xs.length:Int) != count)=false:=by simp [hc]
  have HC:Hid ((xs.length:Int)=count):=hc
  clear hc
  go_enter Tryz.func56,Tryz.ntmps56
  go_wp2
  go_loop [13] (fun i=>∃k:Nat,k≤xs.length∧i = .int .i64 k∧(xs.take k).all texelB=true) (fun i=>xs.length-(intOf i).toNat)
  case atStart=>exact ⟨0,Nat.zero_le _,rfl,by simp⟩
  case round=>
   obtain ⟨k,hk,rfl,hall⟩:=hrel
   have HA:Hid ((xs.take k).all texelB=true):=hall
   clear hall
   by_cases hlt:k < xs.length
   ·rcases h with h | ⟨b,off,rfl,_,hcell⟩
    ·simp [h] at hlt
    have hc1:=hcell k hlt
    clear hcell
    have HS:Hid ((xs.take (k+1)).all texelB=((xs.take k).all texelB&&texelB (xs.getD k 0))):=all_take_succ texelB xs k hlt
    obtain ⟨x,hx⟩:∃x,x=xs.getD k 0:=⟨_,rfl⟩
    rw [←hx] at hc1
    have HX:Hid (x=xs.getD k 0):=hx
    clear hx
    by_cases h0:x < 0
    ·go_wp2
     all_goals go_ret
     all_goals refine ⟨ret_bool ?_,rfl⟩
     all_goals (have hf:texelB (xs.getD k 0)=false:=by rw [←HX.out];simp [texelB];omega)
     all_goals simp [texelsB,all_false_of texelB xs k hlt hf]
    ·have h0':decide (x < 0)=false:=by simpa using h0
     by_cases h1:255 < x
     ·go_wp2
      all_goals go_ret
      all_goals refine ⟨ret_bool ?_,rfl⟩
      all_goals (have hf:texelB (xs.getD k 0)=false:=by rw [←HX.out];simp [texelB];omega)
      all_goals simp [texelsB,all_false_of texelB xs k hlt hf]
     ·go_wp2
      all_goals
       go_round
       case rel=>exact ⟨k+1,by omega,by go_num,by rw [HS.out,HA.out,←HX.out];simp [texelB];omega⟩
       case measure=>simp [intOf];omega
   ·go_wp2
    go_ret
    have hk':k=xs.length:=by omega
    have ha:=HA.out
    rw [hk',List.take_length] at ha
    exact ⟨ret_bool (by simp only [texelsB,ha,HC.out];simp),rfl⟩
 ·have hc':((xs.length:Int) != count)=true:=by simp [hc]
  go_enter Tryz.func56,Tryz.ntmps56
  go_wp2
  go_ret
  exact ⟨ret_bool (by simp [texelsB,hc]),rfl⟩
set_option maxHeartbeats 1000000 in
theorem shape_any (W H:Int) (ao bo:Option Addr) (c d:Nat) (xs ys:List Int) (src:ByteArray) (w:World) (B:Nat) (hB:B≤w.heap.size) (hx:IntsAt B w ao xs) (hy:IntsAt B w bo ys) (hlx:xs.length≤maxLen) (hly:ys.length≤maxLen) :
  Calls Tryz.prog 33 #[.agg #[.int .i64 W,.int .i64 H,.slice ao xs.length c,.slice bo ys.length d,.string src]] w fun e w'=>e = .returned (.int .i64 (shapeE W H xs ys))∧Below w.heap.size w w':=by
 have hb:∀o,Below w.heap.size w (w.alloc o):=fun o=>(Below.refl _ _).alloc (Nat.le_refl _) o
 have hxa:∀o,IntsAt B (w.alloc o) ao xs:=fun o=>hx.later (hb o) hB
 have hya:∀o,IntsAt B (w.alloc o) bo ys:=fun o=>hy.later (hb o) hB
 clear hx hy
 by_cases hW:sideB W=true
 ·by_cases hH:sideB H=true
  ·obtain ⟨w1,w2,h1,h2,m1,m2⟩:=side_mul hW hH
   by_cases hX:texelsB xs (W*H)=true
   ·by_cases hY:texelsB ys (W*H)=true
    ·go_enter Tryz.func33,Tryz.ntmps33
     go_wp2_with (go_at_call 55;refine (side_any _ _).mono ?_;rintro e w' ⟨rfl,rfl⟩)
     refine (texels_any ao c xs _ _ B (hxa _) hlx).mono ?_
     rintro e w' ⟨rfl,rfl⟩
     go_wp2_with fail
     refine (texels_any bo d ys _ _ B (hya _) hly).mono ?_
     rintro e w' ⟨rfl,rfl⟩
     go_wp2
     go_ret
     exact ⟨ret_int (by simp [shapeE,hW,hH,hX,hY]),hb _⟩
    ·go_enter Tryz.func33,Tryz.ntmps33
     go_wp2_with (go_at_call 55;refine (side_any _ _).mono ?_;rintro e w' ⟨rfl,rfl⟩)
     refine (texels_any ao c xs _ _ B (hxa _) hlx).mono ?_
     rintro e w' ⟨rfl,rfl⟩
     go_wp2_with fail
     refine (texels_any bo d ys _ _ B (hya _) hly).mono ?_
     rintro e w' ⟨rfl,rfl⟩
     go_wp2
     go_ret
     exact ⟨ret_int (by simp [shapeE,hW,hH,hX,hY]),hb _⟩
   ·go_enter Tryz.func33,Tryz.ntmps33
    go_wp2_with (first | (go_at_call 55;refine (side_any _ _).mono ?_;rintro e w' ⟨rfl,rfl⟩) | (go_at_call 56;refine (texels_any ao c xs _ _ B (hxa _) hlx).mono ?_;rintro e w' ⟨rfl,rfl⟩))
    go_ret
    exact ⟨ret_int (by simp [shapeE,hW,hH,hX]),hb _⟩
  ·go_enter Tryz.func33,Tryz.ntmps33
   go_wp2_with (go_at_call 55;refine (side_any _ _).mono ?_;rintro e w' ⟨rfl,rfl⟩)
   go_ret
   exact ⟨ret_int (by simp [shapeE,hW,hH]),hb _⟩
 ·go_enter Tryz.func33,Tryz.ntmps33
  go_wp2_with (go_at_call 55;refine (side_any _ _).mono ?_;rintro e w' ⟨rfl,rfl⟩)
  go_ret
  exact ⟨ret_int (by simp [shapeE,hW]),hb _⟩
end Go.Proofs.YthmmgiaobakilaaGreat

set_option maxRecDepth 100000
namespace Go.Proofs.YthmmgiaobakilaaGreat
end Go.Proofs.YthmmgiaobakilaaGreat

set_option maxRecDepth 100000
namespace Go.Proofs.YthmmgiaobakilaaGreat
open Go.RowKit
theorem nums_get (s:ByteArray) (i:Nat) (h:i < s.size):(nums s)[i]?=some (s[i].toNat:Int):=by
 have h':i < s.data.toList.length:=by simpa using h
 simp only [nums,List.getElem?_map,List.getElem?_eq_getElem h',Option.map_some]
 rfl
set_option maxHeartbeats 1000000 in
theorem fits_side (W H:Int) (vx vy vs:Value) (w:World) (h:(sideB W&&sideB H)=false) :
  Calls Tryz.prog 22 #[.agg #[.int .i64 W,.int .i64 H,vx,vy,vs]] w fun e w'=>e = .returned (.int .i64 3)∧Below w.heap.size w w':=by
 have hb:∀o,Below w.heap.size w (w.alloc o):=fun o=>(Below.refl _ _).alloc (Nat.le_refl _) o
 by_cases h1:W < 1
 ·go_enter Tryz.func22,Tryz.ntmps22
  go_wp2
  go_ret
  exact ⟨rfl,hb _⟩
 ·have d1:decide (W < 1)=false:=by simpa using h1
  by_cases h2:6 < W
  ·go_enter Tryz.func22,Tryz.ntmps22
   go_wp2
   go_ret
   exact ⟨rfl,hb _⟩
  ·have d2:decide (6 < W)=false:=by simpa using h2
   by_cases h3:H < 1
   ·go_enter Tryz.func22,Tryz.ntmps22
    go_wp2
    go_ret
    exact ⟨rfl,hb _⟩
   ·have d3:decide (H < 1)=false:=by simpa using h3
    have h4:6 < H:=by simp [sideB] at h;omega
    go_enter Tryz.func22,Tryz.ntmps22
    go_wp2
    go_ret
    exact ⟨rfl,hb _⟩
set_option maxHeartbeats 1000000 in
theorem fits_len (W H:Int) (ao bo:Option Addr) (n c m d:Nat) (vs:Value) (w:World) (hW:sideB W=true) (hH:sideB H=true) (_hn:n≤maxLen) (_hm:m≤maxLen) (h:¬ ((n:Int)=W*H∧(m:Int)=W*H)) :
  Calls Tryz.prog 22 #[.agg #[.int .i64 W,.int .i64 H,.slice ao n c,.slice bo m d,vs]] w fun e w'=>e = .returned (.int .i64 6)∧Below w.heap.size w w':=by
 have hb:∀o,Below w.heap.size w (w.alloc o):=fun o=>(Below.refl _ _).alloc (Nat.le_refl _) o
 obtain ⟨b1,b2,b3,b4,b5,b6⟩:=side_mul hW hH
 clear hW hH
 have d1:decide (W < 1)=false:=by simp;omega
 have d2:decide (6 < W)=false:=by simp;omega
 have d3:decide (H < 1)=false:=by simp;omega
 have d4:decide (6 < H)=false:=by simp;omega
 by_cases h1:(n:Int)=W*H
 ·have e1:((n:Int) != W*H)=false:=by simp [h1]
  have e2:((m:Int) != W*H)=true:=by simp;exact fun h2=>h ⟨h1,h2⟩
  clear h h1
  go_enter Tryz.func22,Tryz.ntmps22
  go_wp2
  go_ret
  exact ⟨rfl,hb _⟩
 ·have e1:((n:Int) != W*H)=true:=by simp [h1]
  clear h
  go_enter Tryz.func22,Tryz.ntmps22
  go_wp2
  go_ret
  exact ⟨rfl,hb _⟩
set_option maxHeartbeats 2000000 in
theorem fits_loop (W H:Int) (ao bo:Option Addr) (c d:Nat) (xs ys:List Int) (vs:Value) (w:World) (hx:IntsAt w.heap.size w ao xs) (hy:IntsAt w.heap.size w bo ys) (hW:sideB W=true) (hH:sideB H=true) (lx:(xs.length:Int)=W*H) (ly:(ys.length:Int)=W*H) :
  Calls Tryz.prog 22 #[.agg #[.int .i64 W,.int .i64 H,.slice ao xs.length c,.slice bo ys.length d,vs]] w fun e w'=>e = .returned (.int .i64 (shapeE W H xs ys))∧Below w.heap.size w w':=by
 have hb:∀o,Below w.heap.size w (w.alloc o):=fun o=>(Below.refl _ _).alloc (Nat.le_refl _) o
 obtain ⟨b1,b2,b3,b4,b5,b6⟩:=side_mul hW hH
 have ES:Hid (shapeE W H xs ys=if xs.all texelB&&ys.all texelB then 0 else 6):=by show shapeE W H xs ys=_;simp only [shapeE,hW,hH,texelsB,lx,ly];simp
 clear hW hH
 have d1:decide (W < 1)=false:=by simp;omega
 have d2:decide (6 < W)=false:=by simp;omega
 have d3:decide (H < 1)=false:=by simp;omega
 have d4:decide (6 < H)=false:=by simp;omega
 have e1:((xs.length:Int) != W*H)=false:=by simp [lx]
 have e2:((ys.length:Int) != W*H)=false:=by simp [ly]
 have LX:Hid ((xs.length:Int)=W*H):=lx
 have LY:Hid ((ys.length:Int)=W*H):=ly
 clear lx ly
 go_enter Tryz.func22,Tryz.ntmps22
 go_wp2
 go_loop [3] (fun i=>∃k:Nat,(k:Int)≤W*H∧i = .int .i64 k∧(xs.take k).all texelB=true∧(ys.take k).all texelB=true) (fun i=>(W*H-intOf i).toNat)
 case atStart=>exact ⟨0,by omega,rfl,by simp,by simp⟩
 case round=>
  obtain ⟨k,hk,rfl,hax,hay⟩:=hrel
  have HX:Hid ((xs.take k).all texelB=true):=hax
  have HY:Hid ((ys.take k).all texelB=true):=hay
  clear hax hay
  by_cases hlt:(k:Int) < W*H
  ·have hkx:k < xs.length:=by have:=LX.out;omega
   have hky:k < ys.length:=by have:=LY.out;omega
   rcases hx with hx | ⟨b,off,rfl,hbB,hcx⟩
   ·simp [hx] at hkx
   rcases hy with hy | ⟨b',off',rfl,hbB',hcy⟩
   ·simp [hy] at hky
   have cx:=hcx k hkx
   have cy:=hcy k hky
   clear hcx hcy
   have SX:Hid ((xs.take (k+1)).all texelB=((xs.take k).all texelB&&texelB (xs.getD k 0))):=all_take_succ texelB xs k hkx
   have SY:Hid ((ys.take (k+1)).all texelB=((ys.take k).all texelB&&texelB (ys.getD k 0))):=all_take_succ texelB ys k hky
   have FX:Hid (texelB (xs.getD k 0)=false→shapeE W H xs ys=6):=fun h=>by rw [ES.out];simp [all_false_of texelB xs k hkx h]
   have FY:Hid (texelB (ys.getD k 0)=false→shapeE W H xs ys=6):=fun h=>by rw [ES.out];simp [all_false_of texelB ys k hky h]
   generalize xs.getD k 0=x at cx SX FX
   generalize ys.getD k 0=y at cy SY FY
   by_cases x0:x < 0
   ·go_wp2
    go_ret
    exact ⟨ret_int (FX.out (by simp [texelB];omega)).symm,hb _⟩
   have x0':decide (x < 0)=false:=by simpa using x0
   by_cases x1:255 < x
   ·go_wp2
    go_ret
    exact ⟨ret_int (FX.out (by simp [texelB];omega)).symm,hb _⟩
   have x1':decide (255 < x)=false:=by simpa using x1
   by_cases y0:y < 0
   ·go_wp2
    go_ret
    exact ⟨ret_int (FY.out (by simp [texelB];omega)).symm,hb _⟩
   have y0':decide (y < 0)=false:=by simpa using y0
   by_cases y1:255 < y
   ·go_wp2
    go_ret
    exact ⟨ret_int (FY.out (by simp [texelB];omega)).symm,hb _⟩
   have y1':decide (255 < y)=false:=by simpa using y1
   go_wp2
   go_round
   case rel=>exact ⟨k+1,by omega,by go_num,by rw [SX.out,HX.out];simp [texelB];omega,by rw [SY.out,HY.out];simp [texelB];omega⟩
   case measure=>simp [intOf];omega
  ·go_wp2
   go_ret
   have l1:=LX.out
   have l2:=LY.out
   have a1:=HX.out
   have a2:=HY.out
   rw [List.take_of_length_le (by omega)] at a1 a2
   exact ⟨ret_int (by rw [ES.out];simp [a1,a2]),hb _⟩
theorem fits_any (W H:Int) (ao bo:Option Addr) (c d:Nat) (xs ys:List Int) (vs:Value) (w:World) (hx:IntsAt w.heap.size w ao xs) (hy:IntsAt w.heap.size w bo ys) (hlx:xs.length≤maxLen) (hly:ys.length≤maxLen) :
  Calls Tryz.prog 22 #[.agg #[.int .i64 W,.int .i64 H,.slice ao xs.length c,.slice bo ys.length d,vs]] w fun e w'=>e = .returned (.int .i64 (shapeE W H xs ys))∧Below w.heap.size w w':=by
 by_cases hs:(sideB W&&sideB H)=true
 ·have hs':=hs
  simp only [Bool.and_eq_true] at hs'
  by_cases hl:(xs.length:Int)=W*H∧(ys.length:Int)=W*H
  ·exact fits_loop W H ao bo c d xs ys vs w hx hy hs'.1 hs'.2 hl.1 hl.2
  ·have e:shapeE W H xs ys=6:=by
    have hn:¬ (texelsB xs (W*H)&&texelsB ys (W*H))=true:=by
     intro h
     simp only [texelsB,Bool.and_eq_true,decide_eq_true_eq] at h
     exact hl ⟨h.1.1,h.2.1⟩
    rw [shapeE,if_pos hs,if_neg hn]
   rw [e]
   exact fits_len W H ao bo _ c _ d vs w hs'.1 hs'.2 hlx hly hl
 ·have hs':(sideB W&&sideB H)=false:=by simpa using hs
  have e:shapeE W H xs ys=3:=by simp [shapeE,hs']
  rw [e]
  exact fits_side W H _ _ vs w hs'
end Go.Proofs.YthmmgiaobakilaaGreat
