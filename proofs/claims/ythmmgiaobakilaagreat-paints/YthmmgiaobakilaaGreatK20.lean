import Derived.Test.YthmmgiaobakilaaGreatK19
import Derived.Deep.QuietTactic
import Derived.BigQuiet
set_option maxRecDepth 100000
namespace Go.Proofs.YthmmgiaobakilaaGreat
open Go.RowKit
theorem find_at (p:ByteArray→Bool):∀(l:List ByteArray) (k:Nat),k < l.length→(∀j,j < k→p (l.getD j ByteArray.empty)=false)→p (l.getD k ByteArray.empty)=true→(l.find? p).getD ⟨#[]⟩=l.getD k ByteArray.empty:=by
 intro l
 induction l with
 | nil=>intro k hk;simp at hk
 | cons x l ih=>
  intro k hk h1 h2
  cases k with
  | zero=>
   have:p x=true:=by simpa using h2
   simp [this]
  | succ k=>
   have hx:p x=false:=by simpa using h1 0 (by omega)
   have:=ih k (by simpa using hk) (fun j hj=>by simpa using h1 (j+1) (by omega)) (by simpa using h2)
   simp only [List.find?_cons,hx]
   simpa using this
theorem find_none (p:ByteArray→Bool) (l:List ByteArray) (h:∀j,j < l.length→p (l.getD j ByteArray.empty)=false):(l.find? p).getD ⟨#[]⟩=⟨#[]⟩:=by
 have:l.find? p=none:=by
  rw [List.find?_eq_none]
  intro x hx
  obtain ⟨j,hj,rfl⟩:=List.getElem_of_mem hx
  have:=h j hj
  simpa [List.getD,List.getElem?_eq_getElem hj] using this
 rw [this];rfl
theorem below_dr {B:Nat} {a w:World} (h:Below B a w) (n:Nat):Below B a (w.drewN n):=⟨h.os,h.tape,h.output,h.size,h.block⟩
set_option maxHeartbeats 2000000 in
theorem sign_any (s:ByteArray) (a:Nat) (w:World) (hs:s.size≤300) (ha:a≤s.size) :
  Calls Tryz.prog 41 #[.string s,.int .i64 a] w fun e w'=>e = .returned (.string (signF s a))∧Below w.heap.size w w':=by
 obtain ⟨bb,off,he,_,hcell⟩:=StrsAt.new w signs (w.heap.size+1) (by omega)
 simp only [Option.some.injEq,Addr.mk.injEq,and_true] at he
 obtain ⟨rfl,rfl⟩:=he
 have hcell':∀j,j < 18→(w.alloc (.cells (signs.map Value.string).toArray 9)).cell? ⟨w.heap.size,j,none⟩=some (.string (signs.getD j ByteArray.empty)):=fun j hj=>by
  have:=hcell j hj
  simpa using this
 have HC:=hide hcell'
 clear hcell hcell'
 go_enter Tryz.func41,Tryz.ntmps41
 go_wp2
 go_loopw [6] (fun i wr=>∃k:Nat,k≤18∧i = .int .i64 k∧(∀j,j < k→okS s a (signs.getD j ByteArray.empty)=false)∧Below (w.heap.size+1) (w.alloc (.cells (signs.map Value.string).toArray 9)) wr) (fun i _=>18-(intOf i).toNat)
 case atStart=>exact ⟨0,by omega,rfl,fun j hj=>by omega,Below.refl _ _⟩
 case round=>
  obtain ⟨k,hk,rfl,hall,hnx⟩:=hrel
  have HA:=hide hall
  clear hall
  have HB:Hid (Below w.heap.size w wr):=((Below.refl w.heap.size w).alloc (Nat.le_refl _) _).trans (hnx.mono (by omega))
  by_cases hlt:k < 18
  ·have hc:=(hnx.cell (p:=⟨w.heap.size,k,none⟩) (by simp)).trans (unhide HC k hlt)
   have hz:=signs_small k hlt
   have HT:=hide (fun h=>find_at (okS s a) signs k hlt (unhide HA) h)
   have HF:Hid (okS s a (signs.getD k ByteArray.empty)=false→∀j,j < k+1→okS s a (signs.getD j ByteArray.empty)=false):=fun h j hj=>by
    by_cases hjk:j < k
    ·exact unhide HA j hjk
    ·have:j=k:=by omega
     subst this
     exact h
   have HN:=hide hnx
   clear hnx
   have hk18:(k:Int) < 18:=by omega
   generalize signs.getD k ByteArray.empty=g at hc hz HT HF
   by_cases hfit:(a:Int)+(g.size:Int)≤(s.size:Int)
   ·have hsl:=fun u=>slice_at s a (a+g.size) (a:Int) ((a:Int)+(g.size:Int)) rfl (by omega) (by omega) (by omega) u
    have HO:Hid (okS s a g=((s.extract a (a+g.size)).toList==g.toList)):=by show okS s a g=_;rw [okS,show decide (a+g.size≤s.size)=true by simp;omega];rfl
    generalize s.extract a (a+g.size)=piece at hsl HO
    cases he:(piece.toList==g.toList)
    ·go_wp2
     go_quiet (fail)
     go_wp2
     go_roundw
     case rel=>exact ⟨k+1,by omega,by go_num,unhide HF (by rw [unhide HO];exact he),below_dr (unhide HN) _⟩
     case measure=>simp [intOf];omega
    ·go_wp2
     go_quiet (fail)
     go_wp2
     go_ret
     refine ⟨?_,below_dr (unhide HB) _⟩
     have e:signF s a=g:=unhide HT (by rw [unhide HO];exact he)
     rw [e];rfl
   ·have hfit':decide ((a:Int)+(g.size:Int)≤(s.size:Int))=false:=by simpa using hfit
    have HO:Hid (okS s a g=false):=by show okS s a g=false;rw [okS,show decide (a+g.size≤s.size)=false by simp;omega];rfl
    go_wp2
    go_quiet (fail)
    go_wp2
    go_roundw
    case rel=>exact ⟨k+1,by omega,by go_num,unhide HF (unhide HO),below_dr (unhide HN) _⟩
    case measure=>simp [intOf];omega
  ·have HT:=hide (find_none (okS s a) signs (fun j hj=>unhide HA j (by have:j < 18:=hj;omega)))
   go_wp2
   go_ret
   refine ⟨?_,unhide HB⟩
   have e:signF s a=⟨#[]⟩:=unhide HT
   rw [e];rfl
def tokCells (t:Tok):List Value:=[.int .i64 t.kind,.int .i64 t.num,.int .i64 t.place,.string t.text]
def toksCells (l:List Tok):List Value:=l.flatMap tokCells
theorem toksCells_snoc (l:List Tok) (t:Tok):toksCells (l++[t])=toksCells l++tokCells t:=by simp [toksCells]
theorem infoTokR:(Tryz.prog.info? 86).map (fun i=>(i.zero,i.size,i.bytes))=some (some (.agg #[.int .i64 0,.int .i64 0,.int .i64 0,.string ⟨#[]⟩]),4,40):=by kernel_rfl
theorem lex_blank {s:ByteArray} {f a:Nat} {acc:List Tok} (ha:a < s.size) (h:blankAt s a=true):lex s (f+1) a acc=lex s f (a+1) acc:=by rw [lex,if_pos ha,if_pos h]
theorem lex_word {s:ByteArray} {f a:Nat} {acc:List Tok} (ha:a < s.size) (h:blankAt s a=false) (h1:0 < (wordAt s a).size):lex s (f+1) a acc=lex s f (a+(wordAt s a).size) (acc++[wordTok s a]):=by rw [lex,if_pos ha,if_neg (by simp [h]),if_pos h1]
theorem lex_big {s:ByteArray} {f a:Nat} {acc:List Tok} (ha:a < s.size) (h:blankAt s a=false) (h1:¬ 0 < (wordAt s a).size) (h2:0 < (numAt s a).size) (h3:65535 < numV (nums (numAt s a))):lex s (f+1) a acc=(none,a):=by rw [lex,if_pos ha,if_neg (by simp [h]),if_neg h1,if_pos h2,if_pos h3]
theorem lex_num {s:ByteArray} {f a:Nat} {acc:List Tok} (ha:a < s.size) (h:blankAt s a=false) (h1:¬ 0 < (wordAt s a).size) (h2:0 < (numAt s a).size) (h3:¬ 65535 < numV (nums (numAt s a))):lex s (f+1) a acc=lex s f (a+(numAt s a).size) (acc++[numTok s a]):=by rw [lex,if_pos ha,if_neg (by simp [h]),if_neg h1,if_pos h2,if_neg h3]
theorem lex_sign {s:ByteArray} {f a:Nat} {acc:List Tok} (ha:a < s.size) (h:blankAt s a=false) (h1:¬ 0 < (wordAt s a).size) (h2:¬ 0 < (numAt s a).size) (h3:0 < (signF s a).size):lex s (f+1) a acc=lex s f (a+(signF s a).size) (acc++[signTok s a]):=by rw [lex,if_pos ha,if_neg (by simp [h]),if_neg h1,if_neg h2,if_pos h3]
theorem lex_none {s:ByteArray} {f a:Nat} {acc:List Tok} (ha:a < s.size) (h:blankAt s a=false) (h1:¬ 0 < (wordAt s a).size) (h2:¬ 0 < (numAt s a).size) (h3:¬ 0 < (signF s a).size):lex s (f+1) a acc=(none,a):=by rw [lex,if_pos ha,if_neg (by simp [h]),if_neg h1,if_neg h2,if_neg h3]
theorem lex_end {s:ByteArray} {f a:Nat} {acc:List Tok} (ha:¬ a < s.size):lex s f a acc=(some acc,a):=by
 cases f with
 | zero=>rfl
 | succ f=>rw [lex,if_neg ha]
theorem cell_newAt (w:World) (n:Nat) (hn:n=w.heap.size) (cs:List Value) (T:TypeId):∀j u,cs[j]?=some u→(w.alloc (.cells cs.toArray T)).cell? ((⟨n,0,none⟩:Addr).add j)=some u:=by
 subst hn
 exact cell_new w cs T
theorem tok_one (t:Tok):∀u∈tokCells t,u.oneCell'=true:=by
 intro u hu
 simp [tokCells] at hu
 rcases hu with rfl | rfl | rfl | rfl <;> rfl
theorem own_tok {w:World} {base:Nat} {v:Value} {l:List Tok} {t:Tok} (h:w.ownsRow base 86 4 v (l.length+1) (toksCells l++tokCells t)):w.ownsRow base 86 4 v (l++[t]).length (toksCells (l++[t])):=by
 rw [toksCells_snoc,List.length_append]
 exact h
theorem blank_eq (s:ByteArray) (a:Nat) (h:a < s.size):blankAt s a=((s[a].toNat:Int)==32||(s[a].toNat:Int)==10):=by rw [blankAt,nums_getD s a h]
def TokOut (base:Nat) (s:ByteArray) (e:Ending) (w':World):Prop:=
 match lex s s.size 0 [] with
 | (none,p)=>e = .returned (.tuple #[.slice none 0 0,.int .i64 8,.int .i64 p])
 | (some l,p)=>∃v,e = .returned (.tuple #[v,.int .i64 0,.int .i64 0])∧w'.ownsRow base 86 4 v (l.length+1) (toksCells (l++[overTok p]))
theorem TokOut.none {base:Nat} {s:ByteArray} {p:Nat} {w':World} (h:lex s s.size 0 []=(Option.none,p)):TokOut base s (.returned (.tuple #[.slice Option.none 0 0,.int .i64 8,.int .i64 (p:Int)])) w':=by
 unfold TokOut
 rw [h]
theorem TokOut.some {base:Nat} {s:ByteArray} {p:Nat} {l:List Tok} {v:Value} {w':World} (h:lex s s.size 0 []=(Option.some l,p)) (ho:w'.ownsRow base 86 4 v (l.length+1) (toksCells (l++[overTok p]))):TokOut base s (.returned (.tuple #[v,.int .i64 0,.int .i64 0])) w':=by
 unfold TokOut
 rw [h]
 exact ⟨v,rfl,ho⟩
set_option maxRecDepth 100000 in
set_option maxHeartbeats 4000000 in
theorem tokens_any (s:ByteArray) (w:World) (hs:s.size≤300) :
  Calls Tryz.prog 24 #[.string s] w fun e w'=>TokOut w.heap.size s e w'∧Below w.heap.size w w':=by
 obtain ⟨i0,hi,hz0,hz1,hz2⟩:=info_parts infoTokR
 go_enter Tryz.func24,Tryz.ntmps24
 go_wp2
 go_loopw [5,6] (fun v i wr=>∃a f acc,a≤s.size∧s.size-a≤f∧i = .int .i64 (a:Int)∧acc.length≤a∧lex s f a acc=lex s s.size 0 []∧wr.ownsRow w.heap.size 86 4 v acc.length (toksCells acc)∧Below w.heap.size w wr) (fun _ i _=>s.size-(intOf i).toNat)
 case atStart=>exact ⟨0,s.size,[],by omega,by omega,rfl,by simp,rfl,World.ownsRow_nil w w.heap.size 86 4,Below.refl _ _⟩
 case round=>
  obtain ⟨a,f,acc,ha,hf,rfl,hacc,hlex,own,hnx⟩:=hrel
  have HL:=hide hlex
  clear hlex
  have hwz:=hnx.size
  by_cases hlt:a < s.size
  ·obtain ⟨f',rfl⟩:∃f',f=f'+1:=⟨f-1,by omega⟩
   have hws:=word_size s a ha
   have hns:=num_size s a ha
   have hss:=sign_size s a
   have hb0:((s[a]'hlt).toNat:Int)≤255:=by have:=(s[a]'hlt).toNat_lt;omega
   go_wp2_with fail
   refine (row_any s a false _ hs ha).mono ?_
   rintro e w1 ⟨rfl,hw1⟩
   obtain rfl:=hw1.symm
   go_wp2_with fail
   refine (row_any s a true _ hs ha).mono ?_
   rintro e w1 ⟨rfl,hw1⟩
   obtain rfl:=hw1.symm
   go_wp2_with fail
   refine (sign_any s a _ hs ha).mono ?_
   rintro e w1 ⟨rfl,hb1⟩
   have own1:=own.kept ⟨hb1.os,hb1.tape,hb1.output,hb1.size,fun k hk _=>hb1.block k hk⟩ (row:=none) (by cases u5.ownBlock <;> simp)
   have hnx1:=hnx.trans (hb1.mono hwz)
   have hwz1:w.heap.size≤w1.heap.size:=by have:=hb1.size;omega
   clear own hnx hb1 hwz
   have HB:=hide (blank_eq s a hlt)
   have eW:s.extract a (a+rowN false ((nums s).drop a))=wordAt s a:=rfl
   have eN:s.extract a (a+rowN true ((nums s).drop a))=numAt s a:=rfl
   rw [eW,eN]
   have X1:=hide (@lex_blank s f' a acc hlt)
   have X2:=hide (@lex_word s f' a acc hlt)
   have X3:=hide (@lex_big s f' a acc hlt)
   have X4:=hide (@lex_num s f' a acc hlt)
   have X5:=hide (@lex_sign s f' a acc hlt)
   have X6:=hide (@lex_none s f' a acc hlt)
   have DG:=hide (num_digits s a)
   have VB:=numV_bounds (nums (numAt s a)) (num_digits s a)
   have eWT:Hid (wordTok s a=⟨if memB (wordAt s a) kws then 0 else 1,0,a,wordAt s a⟩):=rfl
   have eNT:Hid (numTok s a=⟨2,numV (nums (numAt s a)),a,numAt s a⟩):=rfl
   have eST:Hid (signTok s a=⟨3,0,a,signF s a⟩):=rfl
   generalize wordAt s a=wd at *
   generalize numAt s a=nm at *
   generalize signF s a=sg at *
   clear eW eN
   have hemp:∀t:ByteArray,t.toList.isEmpty=decide (t.size=0):=fun t=>by
    rw [ByteArray.toList_eq]
    cases h:t.data.toList with
    | nil=>
     have e:t.size=0:=by
      have:=congrArg List.length h
      simpa using this
     simp [e]
    | cons x l=>
     have e:t.size≠0:=by
      have:=congrArg List.length h
      simp at this
      omega
     simp [e]
   have ew:=hemp wd
   have en:=hemp nm
   have es:=hemp sg
   clear hemp
   by_cases hbl:blankAt s a=true
   ·have HL1:=hide ((unhide X1 hbl).symm.trans (unhide HL))
    rw [unhide HB] at hbl
    have HR:Hid _:=And.intro own1 hnx1
    clear own1 hnx1 ew en es
    cases h32:((s[a]'hlt).toNat:Int)==32
    ·have h10:(((s[a]'hlt).toNat:Int)==10)=true:=by simpa [h32] using hbl
     clear hbl
     go_wp2
     go_roundw
     case rel=>exact ⟨a+1,f',acc,by omega,by omega,by go_num,by omega,unhide HL1,(unhide HR).1,(unhide HR).2⟩
     case measure=>simp [intOf];omega
    ·clear hbl
     go_wp2
     go_roundw
     case rel=>exact ⟨a+1,f',acc,by omega,by omega,by go_num,by omega,unhide HL1,(unhide HR).1,(unhide HR).2⟩
     case measure=>simp [intOf];omega
   ·have hbl':blankAt s a=false:=by simpa using hbl
    clear hbl
    have h32:(((s[a]'hlt).toNat:Int)==32)=false:=by
     have:=hbl'
     rw [unhide HB] at this
     cases h:(((s[a]'hlt).toNat:Int)==32)
     ·rfl
     ·rw [h] at this;cases this
    have h10:(((s[a]'hlt).toNat:Int)==10)=false:=by
     have:=hbl'
     rw [unhide HB,h32] at this
     simpa using this
    by_cases hw0:0 < wd.size
    ·have ew':wd.toList.isEmpty=false:=by rw [ew];exact decide_eq_false (by omega)
     clear ew en es
     have HL1:=hide ((unhide X2 hbl' hw0).symm.trans (unhide HL))
     rw [unhide eWT] at HL1
     go_wp2_with fail
     refine (among_any wd (some ⟨w1.heap.size+1,0,none⟩) 12 kws _ (StrsAt.newAt _ kws _ _ (by simp) (by simp)) (by decide)).mono ?_
     rintro e w2 ⟨rfl,rfl⟩
     cases hm:memB wd kws
     ·rw [hm] at HL1
      go_wp2_with (at_builtin;refine wpList_append_own _ rfl (.tmp 51) (.tmp 53) 53 rfl w.heap.size 86 i0 (.agg #[.int .i64 0,.int .i64 0,.int .i64 0,.string ⟨#[]⟩]) 4 40 Tryz.underlying53 hi hz0 hz1 hz2 rfl (by decide) _ _ _ rfl (((own1.alloc _).alloc _).alloc _) ⟨w1.heap.size+1+1,0,none⟩ 1 1 (tokCells (⟨1,0,(a:Int),wd⟩:Tok)) rfl rfl ?c1 ?c2 ?c3 ?c4 ?c5 ?_)
      case c1=>exact cell_newAt _ _ (by simp) (tokCells (⟨1,0,(a:Int),wd⟩:Tok)) _
      case c2=>exact tok_one _
      case c3=>unfold maxLen;omega
      case c4=>omega
      case c5=>simp;omega
      intro v' w2 h1 hg _
      have R:w2.ownsRow w.heap.size 86 4 v' (acc++[(⟨1,0,(a:Int),wd⟩:Tok)]).length (toksCells (acc++[(⟨1,0,(a:Int),wd⟩:Tok)])):=own_tok h1
      have R2:Below w.heap.size w w2:=(((hnx1.alloc hwz1 _).alloc (by simp;omega) _).alloc (by simp;omega) _).grown hg (by simp;omega) (fun q hq=>(own1.lt q hq).1)
      clear h1 hg own1 hnx1
      go_wp2
      go_roundw
      case rel=>exact ⟨a+wd.size,f',acc++[(⟨1,0,(a:Int),wd⟩:Tok)],by omega,by omega,by go_num,by simp;omega,unhide HL1,R,R2⟩
      case measure=>simp [intOf];omega
     ·rw [hm] at HL1
      go_wp2_with (at_builtin;refine wpList_append_own _ rfl (.tmp 51) (.tmp 53) 53 rfl w.heap.size 86 i0 (.agg #[.int .i64 0,.int .i64 0,.int .i64 0,.string ⟨#[]⟩]) 4 40 Tryz.underlying53 hi hz0 hz1 hz2 rfl (by decide) _ _ _ rfl (((own1.alloc _).alloc _).alloc _) ⟨w1.heap.size+1+1,0,none⟩ 1 1 (tokCells (⟨0,0,(a:Int),wd⟩:Tok)) rfl rfl ?c1 ?c2 ?c3 ?c4 ?c5 ?_)
      case c1=>exact cell_newAt _ _ (by simp) (tokCells (⟨0,0,(a:Int),wd⟩:Tok)) _
      case c2=>exact tok_one _
      case c3=>unfold maxLen;omega
      case c4=>omega
      case c5=>simp;omega
      intro v' w2 h1 hg _
      have R:w2.ownsRow w.heap.size 86 4 v' (acc++[(⟨0,0,(a:Int),wd⟩:Tok)]).length (toksCells (acc++[(⟨0,0,(a:Int),wd⟩:Tok)])):=own_tok h1
      have R2:Below w.heap.size w w2:=(((hnx1.alloc hwz1 _).alloc (by simp;omega) _).alloc (by simp;omega) _).grown hg (by simp;omega) (fun q hq=>(own1.lt q hq).1)
      clear h1 hg own1 hnx1
      go_wp2
      go_roundw
      case rel=>exact ⟨a+wd.size,f',acc++[(⟨0,0,(a:Int),wd⟩:Tok)],by omega,by omega,by go_num,by simp;omega,unhide HL1,R,R2⟩
      case measure=>simp [intOf];omega
    ·have ew':wd.toList.isEmpty=true:=by rw [ew];exact decide_eq_true (by omega)
     clear ew
     by_cases hn0:0 < nm.size
     ·have en':nm.toList.isEmpty=false:=by rw [en];exact decide_eq_false (by omega)
      clear en es
      rw [unhide eNT] at X4
      go_wp2_with fail
      refine (value_any nm _ (by omega) (unhide DG)).mono ?_
      rintro e w2 ⟨rfl,rfl⟩
      generalize numV (nums nm)=nv at *
      obtain ⟨vb1,vb2⟩:=VB
      by_cases hbig:65535 < nv
      ·have HE:=hide ((unhide HL).symm.trans (unhide X3 hbl' hw0 hn0 hbig))
       go_wp2
       go_ret3
       exact ⟨TokOut.none (unhide HE),hnx1.alloc hwz1 _⟩
      ·have HL1:=hide ((unhide X4 hbl' hw0 hn0 (by omega)).symm.trans (unhide HL))
       go_wp2_with (at_builtin;refine wpList_append_own _ rfl (.tmp 72) (.tmp 74) 53 rfl w.heap.size 86 i0 (.agg #[.int .i64 0,.int .i64 0,.int .i64 0,.string ⟨#[]⟩]) 4 40 Tryz.underlying53 hi hz0 hz1 hz2 rfl (by decide) _ _ _ rfl ((own1.alloc _).alloc _) ⟨w1.heap.size+1,0,none⟩ 1 1 (tokCells (⟨2,nv,(a:Int),nm⟩:Tok)) rfl rfl ?c1 ?c2 ?c3 ?c4 ?c5 ?_)
       case c1=>exact cell_newAt _ _ (by simp) (tokCells (⟨2,nv,(a:Int),nm⟩:Tok)) _
       case c2=>exact tok_one _
       case c3=>unfold maxLen;omega
       case c4=>omega
       case c5=>simp;omega
       intro v' w2 h1 hg _
       have R:w2.ownsRow w.heap.size 86 4 v' (acc++[(⟨2,nv,(a:Int),nm⟩:Tok)]).length (toksCells (acc++[(⟨2,nv,(a:Int),nm⟩:Tok)])):=own_tok h1
       have R2:Below w.heap.size w w2:=((hnx1.alloc hwz1 _).alloc (by simp;omega) _).grown hg (by simp;omega) (fun q hq=>(own1.lt q hq).1)
       clear h1 hg own1 hnx1
       go_wp2
       go_roundw
       case rel=>exact ⟨a+nm.size,f',acc++[(⟨2,nv,(a:Int),nm⟩:Tok)],by omega,by omega,by go_num,by simp;omega,unhide HL1,R,R2⟩
       case measure=>simp [intOf];omega
     ·have en':nm.toList.isEmpty=true:=by rw [en];exact decide_eq_true (by omega)
      clear en
      by_cases hs0:0 < sg.size
      ·have es':sg.toList.isEmpty=false:=by rw [es];exact decide_eq_false (by omega)
       have HL1:=hide ((unhide X5 hbl' hw0 hn0 hs0).symm.trans (unhide HL))
       rw [unhide eST] at HL1
       have hsl:a+sg.size≤s.size:=hss.2 hs0
       clear es
       go_wp2_with (at_builtin;refine wpList_append_own _ rfl (.tmp 83) (.tmp 87) 53 rfl w.heap.size 86 i0 (.agg #[.int .i64 0,.int .i64 0,.int .i64 0,.string ⟨#[]⟩]) 4 40 Tryz.underlying53 hi hz0 hz1 hz2 rfl (by decide) _ _ _ rfl (own1.alloc _) ⟨w1.heap.size,0,none⟩ 1 1 (tokCells (⟨3,0,(a:Int),sg⟩:Tok)) rfl rfl ?c1 ?c2 ?c3 ?c4 ?c5 ?_)
       case c1=>exact cell_newAt _ _ (by simp) (tokCells (⟨3,0,(a:Int),sg⟩:Tok)) _
       case c2=>exact tok_one _
       case c3=>unfold maxLen;omega
       case c4=>omega
       case c5=>simp;omega
       intro v' w2 h1 hg _
       have R:w2.ownsRow w.heap.size 86 4 v' (acc++[(⟨3,0,(a:Int),sg⟩:Tok)]).length (toksCells (acc++[(⟨3,0,(a:Int),sg⟩:Tok)])):=own_tok h1
       have R2:Below w.heap.size w w2:=(hnx1.alloc hwz1 _).grown hg (by simp;omega) (fun q hq=>(own1.lt q hq).1)
       clear h1 hg own1 hnx1
       go_wp2
       go_roundw
       case rel=>exact ⟨a+sg.size,f',acc++[(⟨3,0,(a:Int),sg⟩:Tok)],by omega,by omega,by go_num,by simp;omega,unhide HL1,R,R2⟩
       case measure=>simp [intOf];omega
      ·have es':sg.toList.isEmpty=true:=by rw [es];exact decide_eq_true (by omega)
       have HE:=hide ((unhide HL).symm.trans (unhide X6 hbl' hw0 hn0 hs0))
       clear es
       go_wp2
       go_ret3
       exact ⟨TokOut.none (unhide HE),hnx1⟩
  ·have HE:=hide ((unhide HL).symm.trans (lex_end hlt))
   have own1:=own
   have hnx1:=hnx
   clear own hnx
   go_wp2_with (at_builtin;refine wpList_append_own _ rfl (.tmp 93) (.tmp 96) 53 rfl w.heap.size 86 i0 (.agg #[.int .i64 0,.int .i64 0,.int .i64 0,.string ⟨#[]⟩]) 4 40 Tryz.underlying53 hi hz0 hz1 hz2 rfl (by decide) _ _ _ rfl (own1.alloc _) ⟨wr.heap.size,0,none⟩ 1 1 (tokCells (overTok a)) rfl rfl ?c1 ?c2 ?c3 ?c4 ?c5 ?_)
   case c1=>exact cell_newAt _ _ (by simp) (tokCells (overTok a)) _
   case c2=>exact tok_one _
   case c3=>unfold maxLen;omega
   case c4=>omega
   case c5=>simp;omega
   intro v' w2 h1 hg _
   have R:w2.ownsRow w.heap.size 86 4 v' (acc++[(overTok a)]).length (toksCells (acc++[(overTok a)])):=own_tok h1
   have R2:Below w.heap.size w w2:=(hnx1.alloc hwz _).grown hg (by simp;omega) (fun q hq=>(own1.lt q hq).1)
   clear h1 hg own1 hnx1
   go_wp2
   go_ret3
   exact ⟨TokOut.some (unhide HE) (by simpa using R),R2⟩
structure CellR where
 name:ByteArray
 val:Int
 hid:Bool
 free:Bool
def cellCells (c:CellR):List Value:=[.string c.name,.int .i64 c.val,.bool c.hid,.bool c.free]
def cellsCells (l:List CellR):List Value:=l.flatMap cellCells
def touchCells (t:Int×Int):List Value:=[.int .i64 t.1,.int .i64 t.2]
def touchesCells (l:List (Int×Int)):List Value:=l.flatMap touchCells
structure Env where
 toks:List Tok
 mode:Int
 sw:Int
 sh:Int
 opens:List Int
 hids:List Int
 src:ByteArray
 point:Int
structure St where
 fault:Int
 place:Int
 cells:List CellR
 steps:Int
 touched:Int
 trace:List (Int×Int)
 opn:List Int
 hid:List Int
 dead:Bool
def apartV (a b:Value):Prop:=a.ownBlock=none∨a.ownBlock≠b.ownBlock
structure WkAt (w:World) (wb:Nat) (HS:List (Nat×Obj)) (E:Env) (σ:St) (tv lv so sd ov hv rv:Value):Prop where
 blk:w.heap[wb]?=some (.cells #[tv,.int .i64 E.mode,.int .i64 σ.fault,.int .i64 σ.place,lv,.int .i64 E.sw,.int .i64 E.sh,so,sd,.string E.src,ov,hv,.int .i64 σ.steps,.int .i64 σ.touched,rv,.int .i64 E.point,.bool σ.dead] 59 (0,0))
 tokens:w.ownsRow 0 86 4 tv E.toks.length (toksCells E.toks)
 tokLow:∀k,tv.ownBlock=some k→k < wb
 tokSome:0 < E.toks.length
 tokFew:E.toks.length≤1000
 rowL:w.ownsRow (wb+1) 91 4 lv σ.cells.length (cellsCells σ.cells)
 rowR:w.ownsRow (wb+1) 61 2 rv σ.trace.length (touchesCells σ.trace)
 rowO:w.ownsRow (wb+1) 3 1 ov σ.opn.length (σ.opn.map (Value.int .i64))
 rowH:w.ownsRow (wb+1) 3 1 hv σ.hid.length (σ.hid.map (Value.int .i64))
 apLR:apartV lv rv
 apLO:apartV lv ov
 apLH:apartV lv hv
 apRO:apartV rv ov
 apRH:apartV rv hv
 apOH:apartV ov hv
 ints1:∃ao c,so = .slice ao E.opens.length c∧IntsAt wb w ao E.opens
 ints2:∃ao c,sd = .slice ao E.hids.length c∧IntsAt wb w ao E.hids
 held:∀p∈HS,w.heap[p.1]?=some p.2∧p.1≠wb∧lv.ownBlock≠some p.1∧rv.ownBlock≠some p.1∧ov.ownBlock≠some p.1∧hv.ownBlock≠some p.1
def Wk (w:World) (wb:Nat) (HS:List (Nat×Obj)) (E:Env) (σ:St):Prop:=∃tv lv so sd ov hv rv,WkAt w wb HS E σ tv lv so sd ov hv rv
section
variable {w:World} {wb:Nat} {HS:List (Nat×Obj)} {E:Env} {σ:St} {tv lv so sd ov hv rv:Value}
theorem WkAt.cell (h:WkAt w wb HS E σ tv lv so sd ov hv rv) (i:Nat):w.cell? ⟨wb,i,none⟩ = #[tv,.int .i64 E.mode,.int .i64 σ.fault,.int .i64 σ.place,lv,.int .i64 E.sw,.int .i64 E.sh,so,sd,.string E.src,ov,hv,.int .i64 σ.steps,.int .i64 σ.touched,rv,.int .i64 E.point,.bool σ.dead][i]?:=by
 simp only [World.cell?]
 rw [h.blk]
 simp
theorem WkAt.thaw (h:WkAt w wb HS E σ tv lv so sd ov hv rv) (i:Nat):w.frozen? ⟨wb,i,none⟩=false:=by
 simp only [World.frozen?]
 rw [h.blk]
 simp
theorem WkAt.lt (h:WkAt w wb HS E σ tv lv so sd ov hv rv):wb < w.heap.size:=(Array.getElem?_eq_some_iff.1 h.blk).1
theorem WkAt.tokv (h:WkAt w wb HS E σ tv lv so sd ov hv rv):∃tb cap,tv = .slice (some ⟨tb,0,none⟩) E.toks.length cap∧tb < wb:=by
 rcases h.tokens.2 with ⟨_,h0⟩ | ⟨g,cap,cur,rfl,_⟩
 ·have:=h.tokSome;omega
 ·exact ⟨g,cap,rfl,h.tokLow g rfl⟩
end
theorem flat4 (l:List Tok) (i:Nat) (h:i < l.length):(toksCells l)[i*4]?=some (.int .i64 (l[i]).kind)∧(toksCells l)[i*4+1]?=some (.int .i64 (l[i]).num)∧(toksCells l)[i*4+2]?=some (.int .i64 (l[i]).place)∧(toksCells l)[i*4+3]?=some (.string (l[i]).text):=by
 induction l generalizing i with
 | nil=>simp at h
 | cons t l ih=>
  cases i with
  | zero=>simp [toksCells,tokCells]
  | succ i=>
   have hi:=ih i (by simpa using h)
   have e:∀k,(toksCells (t::l))[(i+1)*4+k]?=(toksCells l)[i*4+k]?:=fun k=>by
    have:toksCells (t::l)=tokCells t++toksCells l:=by simp [toksCells]
    rw [this,List.getElem?_append_right (by simp [tokCells];omega)]
    simp only [tokCells,List.length_cons,List.length_nil]
    congr 1
    omega
   have e0:=e 0
   simp only [Nat.add_zero] at e0
   rw [e0,e 1,e 2,e 3]
   simpa using hi
def tokAt (E:Env) (i:Nat):Tok:=E.toks.getD i ⟨4,0,0,⟨#[]⟩⟩
theorem WkAt.tokcell {w:World} {wb:Nat} {HS:List (Nat×Obj)} {E:Env} {σ:St} {lv so sd ov hv rv:Value} {tb cap:Nat} (h:WkAt w wb HS E σ (.slice (some ⟨tb,0,none⟩) E.toks.length cap) lv so sd ov hv rv) (i:Nat) (hi:i < E.toks.length) :
  w.cell? ⟨tb,i*4,none⟩=some (.int .i64 (tokAt E i).kind)∧w.cell? ⟨tb,i*4+1,none⟩=some (.int .i64 (tokAt E i).num)∧w.cell? ⟨tb,i*4+2,none⟩=some (.int .i64 (tokAt E i).place)∧w.cell? ⟨tb,i*4+3,none⟩=some (.string (tokAt E i).text):=by
 obtain ⟨a,b,c,d⟩:=flat4 E.toks i hi
 have e:tokAt E i=E.toks[i]:=by simp [tokAt,List.getD,List.getElem?_eq_getElem hi]
 rw [e]
 refine ⟨?_,?_,?_,?_⟩
 ·rw [h.tokens.cellAt _ (by omega)];exact a
 ·rw [h.tokens.cellAt _ (by omega)];exact b
 ·rw [h.tokens.cellAt _ (by omega)];exact c
 ·rw [h.tokens.cellAt _ (by omega)];exact d
end Go.Proofs.YthmmgiaobakilaaGreat

set_option maxRecDepth 100000
namespace Go.Proofs.YthmmgiaobakilaaGreat
open Go.RowKit
variable {HS:List (Nat×Obj)}
set_option maxHeartbeats 400000 in
theorem end_any (w:World) (wb:Nat) (E:Env) (σ:St) (h:Wk w wb HS E σ) :
  Calls Tryz.prog 70 #[.pointer (some ⟨wb,0,none⟩)] w fun e w'=>e = .returned (.int .i64 ((E.toks.length:Int)-1))∧w'=w:=by
 obtain ⟨tv,lv,so,sd,ov,hv,rv,h⟩:=h
 obtain ⟨tb,cap,rfl,htb⟩:=h.tokv
 have c0:=h.cell 0
 have hl:=h.tokFew
 simp at c0
 clear h
 go_enter Tryz.func70,Tryz.ntmps70
 go_wp2
 go_ret
 exact ⟨rfl,rfl⟩
def stopB (E:Env) (σ:St):Bool:=(E.mode==0)&&(σ.fault != 0)
set_option maxHeartbeats 400000 in
theorem stopped_any (w:World) (wb:Nat) (E:Env) (σ:St) (h:Wk w wb HS E σ) :
  Calls Tryz.prog 46 #[.pointer (some ⟨wb,0,none⟩)] w fun e w'=>e = .returned (.bool (stopB E σ))∧w'=w:=by
 obtain ⟨tv,lv,so,sd,ov,hv,rv,h⟩:=h
 have c1:=h.cell 1
 have c2:=h.cell 2
 simp at c1 c2
 clear h
 cases hm:(E.mode==0)
 ·go_enter Tryz.func46,Tryz.ntmps46
  go_wp2
  go_ret
  exact ⟨ret_bool (by simp [stopB,hm]),rfl⟩
 ·go_enter Tryz.func46,Tryz.ntmps46
  go_wp2
  go_ret
  exact ⟨ret_bool (by simp [stopB,hm]),rfl⟩
def isB (E:Env) (σ:St) (i:Nat) (s:ByteArray):Bool:=!stopB E σ&&(((tokAt E i).kind==3)||((tokAt E i).kind==0))&&((tokAt E i).text.toList==s.toList)
set_option maxHeartbeats 1000000 in
theorem is_any (w:World) (wb:Nat) (E:Env) (σ:St) (i:Nat) (s:ByteArray) (h:Wk w wb HS E σ) (hi:i < E.toks.length) :
  Calls Tryz.prog 44 #[.pointer (some ⟨wb,0,none⟩),.int .i64 (i:Int),.string s] w fun e w'=>e = .returned (.bool (isB E σ i s))∧w'=w:=by
 have h':=h
 obtain ⟨tv,lv,so,sd,ov,hv,rv,h⟩:=h
 obtain ⟨tb,cap,rfl,htb⟩:=h.tokv
 have c0:=h.cell 0
 simp at c0
 obtain ⟨t0,t1,t2,t3⟩:=h.tokcell i hi
 have hl:=h.tokFew
 clear h t1 t2
 unfold isB
 generalize (tokAt E i).kind=k at *
 generalize (tokAt E i).text=tx at *
 cases hst:stopB E σ
 ·cases hk3:(k==3)
  ·cases hk0:(k==0)
   ·go_enter Tryz.func44,Tryz.ntmps44
    go_wp2_with fail
    refine (stopped_any _ wb E σ h').mono ?_
    rintro e w1 ⟨rfl,rfl⟩
    rw [hst]
    go_wp2
    go_ret
    exact ⟨ret_bool (by simp),rfl⟩
   ·go_enter Tryz.func44,Tryz.ntmps44
    go_wp2_with fail
    refine (stopped_any _ wb E σ h').mono ?_
    rintro e w1 ⟨rfl,rfl⟩
    rw [hst]
    go_wp2
    go_ret
    exact ⟨ret_bool (by simp),rfl⟩
  ·go_enter Tryz.func44,Tryz.ntmps44
   go_wp2_with fail
   refine (stopped_any _ wb E σ h').mono ?_
   rintro e w1 ⟨rfl,rfl⟩
   rw [hst]
   go_wp2
   go_ret
   exact ⟨ret_bool (by simp),rfl⟩
 ·go_enter Tryz.func44,Tryz.ntmps44
  go_wp2_with fail
  refine (stopped_any _ wb E σ h').mono ?_
  rintro e w1 ⟨rfl,rfl⟩
  rw [hst]
  go_wp2
  go_ret
  exact ⟨ret_bool (by simp),rfl⟩
end Go.Proofs.YthmmgiaobakilaaGreat

set_option maxRecDepth 100000
namespace Go.Proofs.YthmmgiaobakilaaGreat
open Go.RowKit
variable {HS:List (Nat×Obj)}
theorem own_same {w w':World} {base e size n:Nat} {v:Value} {xs:List Value} (h:w.ownsRow base e size v n xs) (hs:∀k,v.ownBlock=some k→w'.heap[k]?=w.heap[k]?):w'.ownsRow base e size v n xs:=by
 refine ⟨h.1,?_⟩
 rcases h.2 with hn | ⟨g,cap,cur,rfl,hb,hgg,rest⟩
 ·exact .inl hn
 ·exact .inr ⟨g,cap,cur,rfl,hb,(hs g rfl).trans hgg,rest⟩
theorem IntsAt.same {B:Nat} {w w':World} {ao:Option Addr} {xs:List Int} (h:IntsAt B w ao xs) (hs:∀k,k < B→w'.heap[k]?=w.heap[k]?):IntsAt B w' ao xs:=by
 rcases h with h | ⟨b,off,h1,h2,h3⟩
 ·exact .inl h
 ·exact .inr ⟨b,off,h1,h2,fun j hj=>(World.cell?_of_block (w:=w) (hs b h2)).trans (h3 j hj)⟩
theorem WkAt.turn {w w':World} {wb:Nat} {E:Env} {σ:St} {tv lv so sd ov hv rv:Value} (h:WkAt w wb HS E σ tv lv so sd ov hv rv) (σ':St) (hc:σ'.cells=σ.cells) (ht:σ'.trace=σ.trace) (ho:σ'.opn=σ.opn) (hh:σ'.hid=σ.hid)
  (hblk:w'.heap[wb]?=some (.cells #[tv,.int .i64 E.mode,.int .i64 σ'.fault,.int .i64 σ'.place,lv,.int .i64 E.sw,.int .i64 E.sh,so,sd,.string E.src,ov,hv,.int .i64 σ'.steps,.int .i64 σ'.touched,rv,.int .i64 E.point,.bool σ'.dead] 59 (0,0)))
  (hoth:∀k,k≠wb→w'.heap[k]?=w.heap[k]?):WkAt w' wb HS E σ' tv lv so sd ov hv rv:=by
 have low:∀k,k < wb→w'.heap[k]?=w.heap[k]?:=fun k hk=>hoth k (by omega)
 refine ⟨hblk,own_same h.tokens (fun k hk=>low k (h.tokLow k hk)),h.tokLow,h.tokSome,h.tokFew,?_,?_,?_,?_,h.apLR,h.apLO,h.apLH,h.apRO,h.apRH,h.apOH,?_,?_,fun p hp=>⟨(hoth p.1 (h.held p hp).2.1).trans (h.held p hp).1,(h.held p hp).2⟩⟩
 ·rw [hc];exact own_same h.rowL (fun k hk=>hoth k (by have:=(h.rowL.lt k hk).1;omega))
 ·rw [ht];exact own_same h.rowR (fun k hk=>hoth k (by have:=(h.rowR.lt k hk).1;omega))
 ·rw [ho];exact own_same h.rowO (fun k hk=>hoth k (by have:=(h.rowO.lt k hk).1;omega))
 ·rw [hh];exact own_same h.rowH (fun k hk=>hoth k (by have:=(h.rowH.lt k hk).1;omega))
 ·obtain ⟨ao,c,e,hi⟩:=h.ints1;exact ⟨ao,c,e,hi.same low⟩
 ·obtain ⟨ao,c,e,hi⟩:=h.ints2;exact ⟨ao,c,e,hi.same low⟩
theorem Wk.drewN {w:World} {wb:Nat} {E:Env} {σ:St} (h:Wk w wb HS E σ) (n:Nat):Wk (w.drewN n) wb HS E σ:=by
 obtain ⟨tv,lv,so,sd,ov,hv,rv,h⟩:=h
 exact ⟨tv,lv,so,sd,ov,hv,rv,h.turn σ rfl rfl rfl rfl h.blk (fun _ _=>rfl)⟩
def wrongS (E:Env) (σ:St) (i:Nat) (e:Int):St:=if σ.fault=0∨(tokAt E i).place < σ.place then { σ with fault:=e,place:=(tokAt E i).place } else σ
set_option maxHeartbeats 2000000 in
theorem wrong_any (w:World) (wb:Nat) (E:Env) (σ:St) (i:Nat) (er:Int) (h:Wk w wb HS E σ) (hi:i < E.toks.length) :
  Calls Tryz.prog 77 #[.pointer (some ⟨wb,0,none⟩),.int .i64 (i:Int),.int .i64 er] w fun e w'=>e = .returned (.tuple #[])∧Wk w' wb HS E (wrongS E σ i er)∧Below wb w w':=by
 have hwk:=h
 obtain ⟨tv,lv,so,sd,ov,hv,rv,h⟩:=h
 obtain ⟨tb,cap,rfl,htb⟩:=h.tokv
 have c0:=h.cell 0
 have c2:=h.cell 2
 have c3:=h.cell 3
 simp at c0 c2 c3
 have z2:=h.thaw 2
 have z3:=h.thaw 3
 obtain ⟨t0,t1,t2,t3⟩:=h.tokcell i hi
 have hl:=h.tokFew
 have htw:tb≠wb:=by omega
 have hii:(i:Int) < (E.toks.length:Int):=by omega
 clear t0 t1 t3
 have hyes:σ.fault=0∨(tokAt E i).place < σ.place→wrongS E σ i er = { σ with fault:=er,place:=(tokAt E i).place }:=fun hh=>by rw [wrongS,if_pos hh]
 have hno:¬ (σ.fault=0∨(tokAt E i).place < σ.place)→wrongS E σ i er=σ:=fun hh=>by rw [wrongS,if_neg hh]
 have HR:Hid (Wk (((w.setCell ⟨wb,2,none⟩ (.int .i64 er)).setCell ⟨wb,3,none⟩ (.int .i64 (tokAt E i).place))) wb HS E { σ with fault:=er,place:=(tokAt E i).place }):=
  ⟨_,_,_,_,_,_,_,h.turn _ rfl rfl rfl rfl (heap_setCell_same _ wb 3 _ _ _ (heap_setCell_same _ wb 2 _ _ _ h.blk)) (fun k hk=>(Below.heap_setCell _ _ _ _ hk).trans (Below.heap_setCell _ _ _ _ hk))⟩
 have HB:Hid (Below wb w ((w.setCell ⟨wb,2,none⟩ (.int .i64 er)).setCell ⟨wb,3,none⟩ (.int .i64 (tokAt E i).place))):=((Below.refl wb w).setCell (Nat.le_refl _) _).setCell (Nat.le_refl _) _
 replace HR:Hid (σ.fault=0∨(tokAt E i).place < σ.place→∀n,Wk (((w.setCell ⟨wb,2,none⟩ (.int .i64 er)).setCell ⟨wb,3,none⟩ (.int .i64 (tokAt E i).place)).drewN n) wb HS E (wrongS E σ i er)∧Below wb w (((w.setCell ⟨wb,2,none⟩ (.int .i64 er)).setCell ⟨wb,3,none⟩ (.int .i64 (tokAt E i).place)).drewN n)):=fun hh n=>by
  rw [hyes hh]
  exact ⟨(unhide HR).drewN n,below_dr (unhide HB) n⟩
 have HN:Hid (¬ (σ.fault=0∨(tokAt E i).place < σ.place)→∀n,Wk (w.drewN n) wb HS E (wrongS E σ i er)∧Below wb w (w.drewN n)):=fun hh n=>by
  rw [hno hh]
  exact ⟨hwk.drewN n,below_dr (Below.refl _ _) n⟩
 clear hyes hno HB hwk h
 generalize (tokAt E i).place=pl at *
 cases hf:(σ.fault==0)
 ·have hf0:¬ σ.fault=0:=by simpa using hf
  have HF:=hide hf0
  clear hf0
  by_cases hp:pl < σ.place
  ·go_enter Tryz.func77,Tryz.ntmps77
   go_wp2
   go_quiet (fail)
   go_wp2
   go_end0
   exact ⟨rfl,unhide HR (.inr hp) _⟩
  ·have hp':decide (pl < σ.place)=false:=by simpa using hp
   go_enter Tryz.func77,Tryz.ntmps77
   go_wp2
   go_quiet (fail)
   go_wp2
   go_end0
   exact ⟨rfl,unhide HN (fun hh=>hh.elim (unhide HF) (fun h2=>absurd h2 (by omega))) _⟩
 ·have hf0:Hid (σ.fault=0):=by show _=_;simpa using hf
  go_enter Tryz.func77,Tryz.ntmps77
  go_wp2
  go_quiet (fail)
  go_wp2
  go_end0
  exact ⟨rfl,unhide HR (.inl (unhide hf0)) _⟩
theorem Wk.some {w:World} {wb:Nat} {E:Env} {σ:St} (h:Wk w wb HS E σ):0 < E.toks.length∧E.toks.length≤1000:=by
 obtain ⟨_,_,_,_,_,_,_,h⟩:=h
 exact ⟨h.tokSome,h.tokFew⟩
def needS (E:Env) (σ:St) (i:Nat) (s:ByteArray):St:=if isB E σ i s||stopB E σ then σ else wrongS E σ i 9
def needI (E:Env) (σ:St) (i:Nat) (s:ByteArray):Nat:=if isB E σ i s then i+1 else E.toks.length-1
set_option maxHeartbeats 1000000 in
theorem need_any (w:World) (wb:Nat) (E:Env) (σ:St) (i:Nat) (s:ByteArray) (h:Wk w wb HS E σ) (hi:i < E.toks.length) :
  Calls Tryz.prog 72 #[.pointer (some ⟨wb,0,none⟩),.int .i64 (i:Int),.string s] w fun e w'=>e = .returned (.int .i64 (needI E σ i s:Int))∧Wk w' wb HS E (needS E σ i s)∧Below wb w w':=by
 obtain ⟨ts,tf⟩:=h.some
 cases his:isB E σ i s
 ·have eI:(needI E σ i s:Int)=(E.toks.length:Int)-1:=by simp only [needI,his];simp;omega
  cases hst:stopB E σ
  ·have eS:needS E σ i s=wrongS E σ i 9:=by simp [needS,his,hst]
   rw [eI,eS]
   clear eI eS
   go_enter Tryz.func72,Tryz.ntmps72
   go_wp2_with fail
   refine (is_any _ wb E σ i s h hi).mono ?_
   rintro e w1 ⟨rfl,hw⟩
   obtain rfl:=hw.symm
   rw [his]
   go_wp2_with fail
   refine (stopped_any _ wb E σ h).mono ?_
   rintro e w1 ⟨rfl,hw⟩
   obtain rfl:=hw.symm
   rw [hst]
   go_wp2_with fail
   refine (wrong_any _ wb E σ i 9 h hi).mono ?_
   rintro e w1 ⟨rfl,h1,hb1⟩
   go_wp2_with fail
   refine (end_any _ wb E _ h1).mono ?_
   rintro e w2 ⟨rfl,hw⟩
   obtain rfl:=hw.symm
   go_wp2
   go_ret
   exact ⟨rfl,h1,hb1⟩
  ·have eS:needS E σ i s=σ:=by simp [needS,hst]
   rw [eI,eS]
   clear eI eS
   go_enter Tryz.func72,Tryz.ntmps72
   go_wp2_with fail
   refine (is_any _ wb E σ i s h hi).mono ?_
   rintro e w1 ⟨rfl,hw⟩
   obtain rfl:=hw.symm
   rw [his]
   go_wp2_with fail
   refine (stopped_any _ wb E σ h).mono ?_
   rintro e w1 ⟨rfl,hw⟩
   obtain rfl:=hw.symm
   rw [hst]
   go_wp2_with fail
   refine (end_any _ wb E _ h).mono ?_
   rintro e w2 ⟨rfl,hw⟩
   obtain rfl:=hw.symm
   go_wp2
   go_ret
   exact ⟨rfl,h,Below.refl _ _⟩
 ·have eI:(needI E σ i s:Int)=(i:Int)+1:=by simp only [needI,his];simp
  have eS:needS E σ i s=σ:=by simp [needS,his]
  rw [eI,eS]
  clear eI eS
  go_enter Tryz.func72,Tryz.ntmps72
  go_wp2_with fail
  refine (is_any _ wb E σ i s h hi).mono ?_
  rintro e w1 ⟨rfl,hw⟩
  obtain rfl:=hw.symm
  rw [his]
  go_wp2_with fail
  refine (stopped_any _ wb E σ h).mono ?_
  rintro e w1 ⟨rfl,hw⟩
  obtain rfl:=hw.symm
  go_wp2
  go_ret
  exact ⟨rfl,h,Below.refl _ _⟩
def ofS (E:Env) (σ:St) (i:Nat) (k:Int):St:=if stopB E σ||((tokAt E i).kind==k) then σ else wrongS E σ i 9
def ofI (E:Env) (σ:St) (i:Nat) (k:Int):Nat:=if !stopB E σ&&((tokAt E i).kind==k) then i+1 else E.toks.length-1
set_option maxHeartbeats 1000000 in
theorem of_any (w:World) (wb:Nat) (E:Env) (σ:St) (i:Nat) (k:Int) (h:Wk w wb HS E σ) (hi:i < E.toks.length) :
  Calls Tryz.prog 69 #[.pointer (some ⟨wb,0,none⟩),.int .i64 (i:Int),.int .i64 k] w fun e w'=>e = .returned (.int .i64 (ofI E σ i k:Int))∧Wk w' wb HS E (ofS E σ i k)∧Below wb w w':=by
 obtain ⟨ts,tf⟩:=h.some
 cases hst:stopB E σ
 ·have hh:=h
  obtain ⟨tv,lv,so,sd,ov,hv,rv,hh⟩:=hh
  obtain ⟨tb,cap,rfl,htb⟩:=hh.tokv
  have c0:=hh.cell 0
  simp at c0
  obtain ⟨t0,t1,t2,t3⟩:=hh.tokcell i hi
  clear hh t1 t2 t3
  cases hk:((tokAt E i).kind==k)
  ·have eI:(ofI E σ i k:Int)=(E.toks.length:Int)-1:=by simp only [ofI,hst,hk];simp;omega
   have eS:ofS E σ i k=wrongS E σ i 9:=by simp [ofS,hst,hk]
   rw [eI,eS]
   clear eI eS
   have hk':((tokAt E i).kind != k)=true:=by simpa using hk
   clear hk
   generalize (tokAt E i).kind=kd at *
   go_enter Tryz.func69,Tryz.ntmps69
   go_wp2_with fail
   refine (stopped_any _ wb E σ h).mono ?_
   rintro e w1 ⟨rfl,hw⟩
   obtain rfl:=hw.symm
   rw [hst]
   go_wp2_with fail
   refine (wrong_any _ wb E σ i 9 h hi).mono ?_
   rintro e w1 ⟨rfl,h1,hb1⟩
   go_wp2_with fail
   refine (end_any _ wb E _ h1).mono ?_
   rintro e w2 ⟨rfl,hw⟩
   obtain rfl:=hw.symm
   go_wp2
   go_ret
   exact ⟨rfl,h1,hb1⟩
  ·have eI:(ofI E σ i k:Int)=(i:Int)+1:=by simp only [ofI,hst,hk];simp
   have eS:ofS E σ i k=σ:=by simp [ofS,hk]
   rw [eI,eS]
   clear eI eS
   have hk':((tokAt E i).kind != k)=false:=by simpa using hk
   clear hk
   generalize (tokAt E i).kind=kd at *
   go_enter Tryz.func69,Tryz.ntmps69
   go_wp2_with fail
   refine (stopped_any _ wb E σ h).mono ?_
   rintro e w1 ⟨rfl,hw⟩
   obtain rfl:=hw.symm
   rw [hst]
   go_wp2
   go_ret
   exact ⟨rfl,h,Below.refl _ _⟩
 ·have eI:(ofI E σ i k:Int)=(E.toks.length:Int)-1:=by simp only [ofI,hst];simp;omega
  have eS:ofS E σ i k=σ:=by simp [ofS,hst]
  rw [eI,eS]
  clear eI eS
  go_enter Tryz.func69,Tryz.ntmps69
  go_wp2_with fail
  refine (stopped_any _ wb E σ h).mono ?_
  rintro e w1 ⟨rfl,hw⟩
  obtain rfl:=hw.symm
  rw [hst]
  go_wp2_with fail
  refine (end_any _ wb E _ h).mono ?_
  rintro e w2 ⟨rfl,hw⟩
  obtain rfl:=hw.symm
  go_wp2
  go_ret
  exact ⟨rfl,h,Below.refl _ _⟩
end Go.Proofs.YthmmgiaobakilaaGreat

set_option maxRecDepth 100000
namespace Go.Proofs.YthmmgiaobakilaaGreat
open Go.RowKit
variable {HS:List (Nat×Obj)}
def findN (l:List CellR) (s:ByteArray):Int:=match l.findIdx? (fun c=>c.name.toList==s.toList) with
 | some k=>k
 | none=>-1
theorem findN_at {l:List CellR} {s:ByteArray} {k:Nat} (hk:k < l.length) (h1:∀j (hj:j < l.length),j < k→((l[j]).name.toList==s.toList)=false) (h2:((l[k]).name.toList==s.toList)=true):findN l s=k:=by
 have:l.findIdx? (fun c=>c.name.toList==s.toList)=some k:=by
  rw [List.findIdx?_eq_some_iff_getElem]
  exact ⟨hk,h2,fun j hj=>by simpa using h1 j (by omega) hj⟩
 rw [findN,this]
theorem findN_none {l:List CellR} {s:ByteArray} (h1:∀j (hj:j < l.length),((l[j]).name.toList==s.toList)=false):findN l s = -1:=by
 have:l.findIdx? (fun c=>c.name.toList==s.toList)=none:=by
  rw [List.findIdx?_eq_none_iff]
  intro x hx
  obtain ⟨j,hj,rfl⟩:=List.getElem_of_mem hx
  exact h1 j hj
 rw [findN,this]
theorem flatC (l:List CellR) (i:Nat) (h:i < l.length):(cellsCells l)[i*4]?=some (.string (l[i]).name)∧(cellsCells l)[i*4+1]?=some (.int .i64 (l[i]).val)∧(cellsCells l)[i*4+2]?=some (.bool (l[i]).hid)∧(cellsCells l)[i*4+3]?=some (.bool (l[i]).free):=by
 induction l generalizing i with
 | nil=>simp at h
 | cons t l ih=>
  cases i with
  | zero=>simp [cellsCells,cellCells]
  | succ i=>
   have hi:=ih i (by simpa using h)
   have e:∀k,(cellsCells (t::l))[(i+1)*4+k]?=(cellsCells l)[i*4+k]?:=fun k=>by
    have:cellsCells (t::l)=cellCells t++cellsCells l:=by simp [cellsCells]
    rw [this,List.getElem?_append_right (by simp [cellCells];omega)]
    simp only [cellCells,List.length_cons,List.length_nil]
    congr 1
    omega
   have e0:=e 0
   simp only [Nat.add_zero] at e0
   rw [e0,e 1,e 2,e 3]
   simpa using hi
theorem WkAt.lform {w:World} {wb:Nat} {E:Env} {σ:St} {tv lv so sd ov hv rv:Value} (h:WkAt w wb HS E σ tv lv so sd ov hv rv):∃ao cap,lv = .slice ao σ.cells.length cap∧∀i (hi:i < σ.cells.length),∃g,ao=some ⟨g,0,none⟩∧wb < g∧w.cell? ⟨g,i*4,none⟩=some (.string (σ.cells[i]).name)∧w.cell? ⟨g,i*4+1,none⟩=some (.int .i64 (σ.cells[i]).val)∧w.cell? ⟨g,i*4+2,none⟩=some (.bool (σ.cells[i]).hid)∧w.cell? ⟨g,i*4+3,none⟩=some (.bool (σ.cells[i]).free):=by
 have hr:=h.rowL
 rcases hr.2 with ⟨rfl,h0⟩ | ⟨g,cap,cur,rfl,hb,_⟩
 ·exact ⟨none,0,by rw [h0],fun i hi=>by omega⟩
 ·refine ⟨some ⟨g,0,none⟩,cap,rfl,fun i hi=>⟨g,rfl,by omega,?_⟩⟩
  obtain ⟨a,b,c,d⟩:=flatC σ.cells i hi
  exact ⟨by rw [hr.cellAt _ (by omega)];exact a,by rw [hr.cellAt _ (by omega)];exact b,by rw [hr.cellAt _ (by omega)];exact c,by rw [hr.cellAt _ (by omega)];exact d⟩
set_option maxHeartbeats 1000000 in
theorem find_any (w:World) (wb:Nat) (E:Env) (σ:St) (s:ByteArray) (h:Wk w wb HS E σ) (hl:σ.cells.length≤1000) :
  Calls Tryz.prog 97 #[.pointer (some ⟨wb,0,none⟩),.string s] w fun e w'=>e = .returned (.int .i64 (findN σ.cells s))∧w'=w:=by
 obtain ⟨tv,lv,so,sd,ov,hv,rv,h⟩:=h
 obtain ⟨ao,cap,rfl,hcell⟩:=h.lform
 have c4:=h.cell 4
 simp at c4
 clear h
 generalize hL:σ.cells=L at *
 clear hL
 have HC:=hide hcell
 clear hcell
 go_enter Tryz.func97,Tryz.ntmps97
 go_wp2
 go_loop [5] (fun i=>∃k:Nat,k≤L.length∧i = .int .i64 k∧∀j (hj:j < L.length),j < k→((L[j]).name.toList==s.toList)=false) (fun i=>L.length-(intOf i).toNat)
 case atStart=>exact ⟨0,Nat.zero_le _,rfl,fun j _ hj=>by omega⟩
 case round=>
  obtain ⟨k,hk,rfl,hall⟩:=hrel
  have HA:=hide hall
  clear hall
  by_cases hlt:k < L.length
  ·obtain ⟨g,rfl,hg,x0,_,_,_⟩:=unhide HC k hlt
   have HT:=hide (fun hh=>findN_at hlt (unhide HA) hh)
   have HF:Hid (((L[k]).name.toList==s.toList)=false→∀j (hj:j < L.length),j < k+1→((L[j]).name.toList==s.toList)=false):=fun hh j hj hjk=>by
    by_cases hj2:j < k
    ·exact unhide HA j hj hj2
    ·have:j=k:=by omega
     subst this
     exact hh
   have hki:(k:Int) < (L.length:Int):=by omega
   generalize (L[k]).name=nm at x0 HT HF
   cases he:(nm.toList==s.toList)
   ·go_wp2
    go_round
    case rel=>exact ⟨k+1,by omega,by go_num,unhide HF he⟩
    case measure=>simp [intOf];omega
   ·go_wp2
    go_ret
    exact ⟨ret_int (unhide HT he).symm,rfl⟩
  ·have HN:=hide (findN_none (l:=L) (s:=s) (fun j hj=>unhide HA j hj (by omega)))
   go_wp2
   go_ret
   exact ⟨ret_int (unhide HN).symm,rfl⟩
def usedK (E:Env) (σ:St) (i:Nat):Int:=findN σ.cells (tokAt E i).text
def usedS (E:Env) (σ:St) (i:Nat):St:=if (E.mode==1)&&decide (usedK E σ i < 0) then wrongS E σ i 10 else σ
set_option maxHeartbeats 1000000 in
theorem used_any (w:World) (wb:Nat) (E:Env) (σ:St) (i:Nat) (h:Wk w wb HS E σ) (hi:i < E.toks.length) (hl:σ.cells.length≤1000) :
  Calls Tryz.prog 98 #[.pointer (some ⟨wb,0,none⟩),.int .i64 (i:Int)] w fun e w'=>e = .returned (.int .i64 (usedK E σ i))∧Wk w' wb HS E (usedS E σ i)∧Below wb w w':=by
 have hh:=h
 obtain ⟨tv,lv,so,sd,ov,hv,rv,hh⟩:=hh
 obtain ⟨tb,cap,rfl,htb⟩:=hh.tokv
 have c0:=hh.cell 0
 have c1:=hh.cell 1
 simp at c0 c1
 obtain ⟨t0,t1,t2,t3⟩:=hh.tokcell i hi
 have hf:=hh.tokFew
 clear hh t0 t1 t2
 have hii:(i:Int) < (E.toks.length:Int):=by omega
 have e1:(E.mode==1)=false→usedS E σ i=σ:=fun hm=>by simp [usedS,hm]
 have e2:¬ usedK E σ i < 0→usedS E σ i=σ:=fun hm=>by simp [usedS,hm]
 have e3:(E.mode==1)=true→usedK E σ i < 0→usedS E σ i=wrongS E σ i 10:=fun hm hk=>by simp [usedS,hm,hk]
 unfold usedK at e2 e3 ⊢
 generalize (tokAt E i).text=tx at *
 cases hm:(E.mode==1)
 ·rw [e1 hm]
  clear e1 e2 e3
  go_enter Tryz.func98,Tryz.ntmps98
  go_wp2_with fail
  refine (find_any _ wb E σ tx h hl).mono ?_
  rintro e w1 ⟨rfl,hw⟩
  obtain rfl:=hw.symm
  go_wp2
  go_ret
  exact ⟨rfl,h,Below.refl _ _⟩
 ·by_cases hk:findN σ.cells tx < 0
  ·rw [e3 hm hk]
   clear e1 e2 e3
   go_enter Tryz.func98,Tryz.ntmps98
   go_wp2_with fail
   refine (find_any _ wb E σ tx h hl).mono ?_
   rintro e w1 ⟨rfl,hw⟩
   obtain rfl:=hw.symm
   go_wp2_with fail
   refine (wrong_any _ wb E σ i 10 h hi).mono ?_
   rintro e w1 ⟨rfl,h1,hb1⟩
   go_wp2
   go_ret
   exact ⟨rfl,h1,hb1⟩
  ·rw [e2 hk]
   clear e1 e2 e3
   have hk':decide (findN σ.cells tx < 0)=false:=by simpa using hk
   go_enter Tryz.func98,Tryz.ntmps98
   go_wp2_with fail
   refine (find_any _ wb E σ tx h hl).mono ?_
   rintro e w1 ⟨rfl,hw⟩
   obtain rfl:=hw.symm
   go_wp2
   go_ret
   exact ⟨rfl,h,Below.refl _ _⟩
def livesB (E:Env) (σ:St) (live:Bool):Bool:=live&&(E.mode==3) && !σ.dead
set_option maxHeartbeats 1000000 in
theorem lives_any (w:World) (wb:Nat) (E:Env) (σ:St) (live:Bool) (h:Wk w wb HS E σ) :
  Calls Tryz.prog 101 #[.pointer (some ⟨wb,0,none⟩),.bool live] w fun e w'=>e = .returned (.bool (livesB E σ live))∧w'=w:=by
 obtain ⟨tv,lv,so,sd,ov,hv,rv,h⟩:=h
 have c1:=h.cell 1
 have c16:=h.cell 16
 simp at c1 c16
 clear h
 cases live
 ·go_enter Tryz.func101,Tryz.ntmps101
  go_wp2
  go_ret
  exact ⟨ret_bool (by simp [livesB]),rfl⟩
 ·cases hm:(E.mode==3)
  ·go_enter Tryz.func101,Tryz.ntmps101
   go_wp2
   go_ret
   exact ⟨ret_bool (by simp [livesB,hm]),rfl⟩
  ·go_enter Tryz.func101,Tryz.ntmps101
   go_wp2
   go_ret
   exact ⟨ret_bool (by simp [livesB,hm]),rfl⟩
def stepB (E:Env) (σ:St) (live:Bool):Bool:=livesB E σ live&&decide (σ.steps < 20000)
def stepS (E:Env) (σ:St) (live:Bool):St:=if livesB E σ live then (if 20000≤σ.steps then { σ with dead:=true } else { σ with steps:=σ.steps+1 }) else σ
set_option maxHeartbeats 1000000 in
theorem rstep_any (w:World) (wb:Nat) (E:Env) (σ:St) (live:Bool) (h:Wk w wb HS E σ) (hs:0≤σ.steps) :
  Calls Tryz.prog 99 #[.pointer (some ⟨wb,0,none⟩),.bool live] w fun e w'=>e = .returned (.bool (stepB E σ live))∧Wk w' wb HS E (stepS E σ live)∧Below wb w w':=by
 have hwk:=h
 obtain ⟨tv,lv,so,sd,ov,hv,rv,h⟩:=h
 have c12:=h.cell 12
 simp at c12
 have z12:=h.thaw 12
 have z16:=h.thaw 16
 have c16:=h.cell 16
 simp at c16
 cases hl:livesB E σ live
 ·have eB:stepB E σ live=false:=by simp [stepB,hl]
  have eS:stepS E σ live=σ:=by simp [stepS,hl]
  rw [eB,eS]
  clear eB eS h
  go_enter Tryz.func99,Tryz.ntmps99
  go_wp2_with fail
  refine (lives_any _ wb E σ live hwk).mono ?_
  rintro e w1 ⟨rfl,hw⟩
  obtain rfl:=hw.symm
  rw [hl]
  go_wp2
  go_ret
  exact ⟨rfl,hwk,Below.refl _ _⟩
 ·by_cases hst:20000≤σ.steps
  ·have eB:stepB E σ live=false:=by simp [stepB,hl];omega
   have eS:stepS E σ live = { σ with dead:=true }:=by simp [stepS,hl,hst]
   rw [eB,eS]
   have HR:Hid (Wk (w.setCell ⟨wb,16,none⟩ (.bool true)) wb HS E { σ with dead:=true }):=
    ⟨_,_,_,_,_,_,_,h.turn _ rfl rfl rfl rfl (heap_setCell_same _ wb 16 _ _ _ h.blk) (fun k hk=>Below.heap_setCell _ _ _ _ hk)⟩
   clear eB eS h
   go_enter Tryz.func99,Tryz.ntmps99
   go_wp2_with fail
   refine (lives_any _ wb E σ live hwk).mono ?_
   rintro e w1 ⟨rfl,hw⟩
   obtain rfl:=hw.symm
   rw [hl]
   go_wp2
   go_ret
   exact ⟨rfl,unhide HR,(Below.refl wb _).setCell (Nat.le_refl _) _⟩
  ·have eB:stepB E σ live=true:=by simp [stepB,hl];omega
   have eS:stepS E σ live = { σ with steps:=σ.steps+1 }:=by simp [stepS,hl,hst]
   rw [eB,eS]
   have HR:Hid (Wk (w.setCell ⟨wb,12,none⟩ (.int .i64 (σ.steps+1))) wb HS E { σ with steps:=σ.steps+1 }):=
    ⟨_,_,_,_,_,_,_,h.turn _ rfl rfl rfl rfl (heap_setCell_same _ wb 12 _ _ _ h.blk) (fun k hk=>Below.heap_setCell _ _ _ _ hk)⟩
   clear eB eS h
   have hst2:σ.steps < 20000:=by omega
   go_enter Tryz.func99,Tryz.ntmps99
   go_wp2_with fail
   refine (lives_any _ wb E σ live hwk).mono ?_
   rintro e w1 ⟨rfl,hw⟩
   obtain rfl:=hw.symm
   rw [hl]
   go_wp2
   go_ret
   exact ⟨rfl,unhide HR,(Below.refl wb _).setCell (Nat.le_refl _) _⟩
def opF (E:Env) (σ:St) (i:Nat) (l:List ByteArray):ByteArray:=(l.find? (isB E σ i)).getD ⟨#[]⟩
set_option maxHeartbeats 1000000 in
theorem op_any (w:World) (wb:Nat) (E:Env) (σ:St) (i:Nat) (ao:Option Addr) (c:Nat) (l:List ByteArray) (h:Wk w wb HS E σ) (hi:i < E.toks.length) (hst:StrsAt w.heap.size w ao l) (hl:l.length≤100) :
  Calls Tryz.prog 126 #[.pointer (some ⟨wb,0,none⟩),.int .i64 (i:Int),.slice ao l.length c] w fun e w'=>e = .returned (.string (opF E σ i l))∧w'=w:=by
 obtain ⟨b,off,rfl,hb,hcell⟩:=hst
 have HC:=hide hcell
 clear hcell
 go_enter Tryz.func126,Tryz.ntmps126
 go_wp2
 go_loop [7] (fun v=>∃k:Nat,k≤l.length∧v = .int .i64 k∧∀j,j < k→isB E σ i (l.getD j ByteArray.empty)=false) (fun v=>l.length-(intOf v).toNat)
 case atStart=>exact ⟨0,Nat.zero_le _,rfl,fun j hj=>by omega⟩
 case round=>
  obtain ⟨k,hk,rfl,hall⟩:=hrel
  have HA:=hide hall
  clear hall
  by_cases hlt:k < l.length
  ·have hc:=unhide HC k hlt
   have HT:=hide (fun hh=>find_at (isB E σ i) l k hlt (unhide HA) hh)
   have HF:Hid (isB E σ i (l.getD k ByteArray.empty)=false→∀j,j < k+1→isB E σ i (l.getD j ByteArray.empty)=false):=fun hh j hj=>by
    by_cases hjk:j < k
    ·exact unhide HA j hjk
    ·have:j=k:=by omega
     subst this
     exact hh
   have hki:(k:Int) < (l.length:Int):=by omega
   generalize l.getD k ByteArray.empty=g at hc HT HF
   cases hb:isB E σ i g
   ·go_wp2_with fail
    refine (is_any _ wb E σ i g h hi).mono ?_
    rintro e w1 ⟨rfl,hw⟩
    obtain rfl:=hw.symm
    rw [hb]
    go_wp2
    go_round
    case rel=>exact ⟨k+1,by omega,by go_num,unhide HF hb⟩
    case measure=>simp [intOf];omega
   ·go_wp2_with fail
    refine (is_any _ wb E σ i g h hi).mono ?_
    rintro e w1 ⟨rfl,hw⟩
    obtain rfl:=hw.symm
    rw [hb]
    go_wp2
    go_ret
    have e:opF E σ i l=g:=unhide HT hb
    exact ⟨by rw [e];rfl,rfl⟩
  ·have HN:=hide (find_none (isB E σ i) l (fun j hj=>unhide HA j (by omega)))
   go_wp2
   go_ret
   have e:opF E σ i l=⟨#[]⟩:=unhide HN
   exact ⟨by rw [e];rfl,rfl⟩
end Go.Proofs.YthmmgiaobakilaaGreat

set_option maxRecDepth 100000
namespace Go.Proofs.YthmmgiaobakilaaGreat
open Go.RowKit
variable {HS:List (Nat×Obj)}
abbrev In32 (x:Int):Prop:=-2147483648≤x∧x≤2147483647
def wrapV (x:Int):Int:=(x+2147483648) % 4294967296-2147483648
theorem wrapV_in (x:Int):In32 (wrapV x):=by unfold In32 wrapV;omega
def truthV (b:Bool):Int:=if b then 1 else 0
theorem truth_any (b:Bool) (w:World):Calls Tryz.prog 139 #[.bool b] w fun e w'=>e = .returned (.int .i64 (truthV b))∧w'=w:=by
 cases b
 ·go_enter Tryz.func139,Tryz.ntmps139
  go_wp2
  go_ret
  exact ⟨rfl,rfl⟩
 ·go_enter Tryz.func139,Tryz.ntmps139
  go_wp2
  go_ret
  exact ⟨rfl,rfl⟩
set_option maxHeartbeats 1000000 in
theorem wrap_any (n:Int) (w:World) (h0 : -4611686018427387904≤n) (h1:n≤4611686018427387904) :
  Calls Tryz.prog 138 #[.int .i64 n] w fun e w'=>e = .returned (.int .i64 (wrapV n))∧w'=w:=by
 by_cases hn:0≤n
 ·by_cases hm:2147483647 < n % 4294967296
  ·have e1:wrapV n=n % 4294967296-4294967296:=by unfold wrapV;omega
   rw [e1]
   have b1:0≤n % 4294967296:=by omega
   have b2:n % 4294967296 < 4294967296:=by omega
   clear e1
   go_enter Tryz.func138,Tryz.ntmps138
   go_wp2
   go_ret
   exact ⟨rfl,rfl⟩
  ·have e1:wrapV n=n % 4294967296:=by unfold wrapV;omega
   rw [e1]
   have b1:0≤n % 4294967296:=by omega
   clear e1
   go_enter Tryz.func138,Tryz.ntmps138
   go_wp2
   go_ret
   exact ⟨rfl,rfl⟩
 ·obtain ⟨m,rfl⟩:∃m,n = -m:=⟨-n,by omega⟩
  have ht:(-m).tmod 4294967296 = -(m % 4294967296):=by rw [Int.neg_tmod,Int.tmod_eq_emod_of_nonneg (by omega)]
  have b1:0≤m % 4294967296:=by omega
  have b2:m % 4294967296 < 4294967296:=by omega
  by_cases hz:m % 4294967296=0
  ·have e1:wrapV (-m)=0:=by unfold wrapV;omega
   rw [e1]
   clear e1
   rw [hz] at ht
   go_enter Tryz.func138,Tryz.ntmps138
   go_wp2
   go_ret
   exact ⟨rfl,rfl⟩
  ·generalize hr:m % 4294967296=r at *
   by_cases hm:2147483647 < -r+4294967296
   ·have e1:wrapV (-m) = -r+4294967296-4294967296:=by unfold wrapV;omega
    rw [e1]
    clear e1 hr
    go_enter Tryz.func138,Tryz.ntmps138
    go_wp2
    go_ret
    exact ⟨ret_int (by omega),rfl⟩
   ·have e1:wrapV (-m) = -r+4294967296:=by unfold wrapV;omega
    rw [e1]
    clear e1 hr
    go_enter Tryz.func138,Tryz.ntmps138
    go_wp2
    go_ret
    exact ⟨rfl,rfl⟩
def doesV (s:ByteArray) (a b:Int):Int:=
 if s.toList==[43] then wrapV (a+b) else
 if s.toList==[45] then wrapV (a-b) else
 if s.toList==[195,151] then wrapV (a*b) else
 if s.toList==[195,183] then (if b=0 then 0 else wrapV (a.tdiv b)) else
 if s.toList==[61] then truthV (a==b) else
 if s.toList==[226,137,160] then truthV (a != b) else
 if s.toList==[60] then truthV (decide (a < b)) else
 if s.toList==[226,137,164] then truthV (decide (a≤b)) else
 if s.toList==[109,105,110] then min a b else
 max a b
theorem truthV_in (b:Bool):In32 (truthV b):=by cases b <;> exact ⟨by decide,by decide⟩
theorem doesV_in {s:ByteArray} {a b:Int} (ha:In32 a) (hb:In32 b):In32 (doesV s a b):=by
 unfold doesV
 split
 ·exact wrapV_in _
 split
 ·exact wrapV_in _
 split
 ·exact wrapV_in _
 split
 ·split
  ·exact ⟨by decide,by decide⟩
  ·exact wrapV_in _
 split
 ·exact truthV_in _
 split
 ·exact truthV_in _
 split
 ·exact truthV_in _
 split
 ·exact truthV_in _
 split
 ·unfold In32 at *;omega
 ·unfold In32 at *;omega
theorem mul_in {a b:Int} (ha:In32 a) (hb:In32 b) : -4611686018427387904≤a*b∧a*b≤4611686018427387904:=by
 obtain ⟨a1,a2⟩:=ha
 obtain ⟨b1,b2⟩:=hb
 have h1:a.natAbs≤2147483648:=by omega
 have h2:b.natAbs≤2147483648:=by omega
 have h3:(a*b).natAbs≤2147483648*2147483648:=by rw [Int.natAbs_mul];exact Nat.mul_le_mul h1 h2
 omega
theorem tdiv_in {a b:Int} (ha:In32 a) : -2147483648≤a.tdiv b∧a.tdiv b≤2147483648:=by
 obtain ⟨a1,a2⟩:=ha
 have h:(a.tdiv b).natAbs≤a.natAbs:=by rw [Int.natAbs_tdiv];exact Nat.div_le_self _ _
 omega
set_option maxRecDepth 100000 in
set_option maxHeartbeats 4000000 in
theorem does_any (s:ByteArray) (a b:Int) (w:World) (ha:In32 a) (hb:In32 b):Calls Tryz.prog 127 #[.string s,.int .i64 a,.int .i64 b] w fun e w'=>e = .returned (.int .i64 (doesV s a b))∧w'=w:=by
 have hmul:=mul_in ha hb
 have hdiv:=tdiv_in (b:=b) ha
 obtain ⟨a1,a2⟩:=ha
 obtain ⟨b1,b2⟩:=hb
 obtain ⟨m1,m2⟩:=hmul
 obtain ⟨d1,d2⟩:=hdiv
 cases q0:(s.toList==[43])
 ·skip
  cases q1:(s.toList==[45])
  ·skip
   cases q2:(s.toList==[195,151])
   ·skip
    cases q3:(s.toList==[195,183])
    ·skip
     cases q4:(s.toList==[61])
     ·skip
      cases q5:(s.toList==[226,137,160])
      ·skip
       cases q6:(s.toList==[60])
       ·skip
        cases q7:(s.toList==[226,137,164])
        ·skip
         cases q8:(s.toList==[109,105,110])
         ·skip
          have eV:doesV s a b=max a b:=by simp [doesV,q0,q1,q2,q3,q4,q5,q6,q7,q8]
          rw [eV]
          clear eV
          go_enter Tryz.func127,Tryz.ntmps127
          go_wp2
          go_ret
          exact ⟨rfl,rfl⟩
         ·have eV:doesV s a b=min a b:=by simp [doesV,q0,q1,q2,q3,q4,q5,q6,q7,q8]
          rw [eV]
          clear eV
          go_enter Tryz.func127,Tryz.ntmps127
          go_wp2
          go_ret
          exact ⟨rfl,rfl⟩
        ·have eV:doesV s a b=truthV (decide (a≤b)):=by simp [doesV,q0,q1,q2,q3,q4,q5,q6,q7]
         rw [eV]
         clear eV
         go_enter Tryz.func127,Tryz.ntmps127
         go_wp2_with fail
         refine (truth_any _ _).mono ?_
         rintro e w1 ⟨rfl,hw⟩
         obtain rfl:=hw.symm
         go_wp2
         go_ret
         exact ⟨rfl,rfl⟩
       ·have eV:doesV s a b=truthV (decide (a < b)):=by simp [doesV,q0,q1,q2,q3,q4,q5,q6]
        rw [eV]
        clear eV
        go_enter Tryz.func127,Tryz.ntmps127
        go_wp2_with fail
        refine (truth_any _ _).mono ?_
        rintro e w1 ⟨rfl,hw⟩
        obtain rfl:=hw.symm
        go_wp2
        go_ret
        exact ⟨rfl,rfl⟩
      ·have eV:doesV s a b=truthV (a != b):=by simp [doesV,q0,q1,q2,q3,q4,q5]
       rw [eV]
       clear eV
       go_enter Tryz.func127,Tryz.ntmps127
       go_wp2_with fail
       refine (truth_any _ _).mono ?_
       rintro e w1 ⟨rfl,hw⟩
       obtain rfl:=hw.symm
       go_wp2
       go_ret
       exact ⟨rfl,rfl⟩
     ·have eV:doesV s a b=truthV (a==b):=by simp [doesV,q0,q1,q2,q3,q4]
      rw [eV]
      clear eV
      go_enter Tryz.func127,Tryz.ntmps127
      go_wp2_with fail
      refine (truth_any _ _).mono ?_
      rintro e w1 ⟨rfl,hw⟩
      obtain rfl:=hw.symm
      go_wp2
      go_ret
      exact ⟨rfl,rfl⟩
    ·by_cases hb0:b=0
     ·have eV:doesV s a b=0:=by simp [doesV,q0,q1,q2,q3,hb0]
      rw [eV]
      have hb0':(b==0)=true:=by simp [hb0]
      clear eV hb0
      go_enter Tryz.func127,Tryz.ntmps127
      go_wp2
      go_ret
      exact ⟨rfl,rfl⟩
     ·have eV:doesV s a b=wrapV (a.tdiv b):=by simp [doesV,q0,q1,q2,q3,hb0]
      rw [eV]
      have hb0':(b==0)=false:=by simp [hb0]
      have hneg:wrap64 (a.tdiv b)=a.tdiv b:=IntWalk.wrap64_in _ ⟨by omega,by omega⟩
      clear eV
      go_enter Tryz.func127,Tryz.ntmps127
      go_wp2_with fail
      refine (wrap_any _ _ (by omega) (by omega)).mono ?_
      rintro e w1 ⟨rfl,hw⟩
      obtain rfl:=hw.symm
      go_wp2
      go_ret
      exact ⟨rfl,rfl⟩
   ·have eV:doesV s a b=wrapV (a*b):=by simp [doesV,q0,q1,q2]
    rw [eV]
    clear eV
    go_enter Tryz.func127,Tryz.ntmps127
    go_wp2_with fail
    refine (wrap_any _ _ (by omega) (by omega)).mono ?_
    rintro e w1 ⟨rfl,hw⟩
    obtain rfl:=hw.symm
    go_wp2
    go_ret
    exact ⟨rfl,rfl⟩
  ·have eV:doesV s a b=wrapV (a-b):=by simp [doesV,q0,q1]
   rw [eV]
   clear eV
   go_enter Tryz.func127,Tryz.ntmps127
   go_wp2_with fail
   refine (wrap_any _ _ (by omega) (by omega)).mono ?_
   rintro e w1 ⟨rfl,hw⟩
   obtain rfl:=hw.symm
   go_wp2
   go_ret
   exact ⟨rfl,rfl⟩
 ·have eV:doesV s a b=wrapV (a+b):=by simp [doesV,q0]
  rw [eV]
  clear eV
  go_enter Tryz.func127,Tryz.ntmps127
  go_wp2_with fail
  refine (wrap_any _ _ (by omega) (by omega)).mono ?_
  rintro e w1 ⟨rfl,hw⟩
  obtain rfl:=hw.symm
  go_wp2
  go_ret
  exact ⟨rfl,rfl⟩
end Go.Proofs.YthmmgiaobakilaaGreat

set_option maxRecDepth 100000
namespace Go.Proofs.YthmmgiaobakilaaGreat
open Go.RowKit
variable {HS:List (Nat×Obj)}
theorem infoTouch:(Tryz.prog.info? 61).map (fun i=>(i.zero,i.size,i.bytes))=some (some (.agg #[.int .i64 0,.int .i64 0]),2,16):=by kernel_rfl
theorem infoCell:(Tryz.prog.info? 91).map (fun i=>(i.zero,i.size,i.bytes))=some (some (.agg #[.string ⟨#[]⟩,.int .i64 0,.bool false,.bool false]),4,32):=by kernel_rfl
theorem cellsCells_snoc (l:List CellR) (c:CellR):cellsCells (l++[c])=cellsCells l++cellCells c:=by simp [cellsCells]
theorem touchesCells_snoc (l:List (Int×Int)) (c:Int×Int):touchesCells (l++[c])=touchesCells l++touchCells c:=by simp [touchesCells]
theorem cell_one (c:CellR):∀u∈cellCells c,u.oneCell'=true:=by
 intro u hu
 simp [cellCells] at hu
 rcases hu with rfl | rfl | rfl | rfl <;> rfl
theorem touch_one (t:Int×Int):∀u∈touchCells t,u.oneCell'=true:=by
 intro u hu
 simp [touchCells] at hu
 rcases hu with rfl | rfl <;> rfl
def newCell (E:Env) (i:Nat) (hid free:Bool):CellR:=⟨(tokAt E i).text,0,hid,free⟩
def declW (E:Env) (σ:St) (i:Nat):Bool:=(E.mode==1)&&(decide (0≤findN σ.cells (tokAt E i).text)||decide (6 < (tokAt E i).text.size))
def declS (E:Env) (σ:St) (i:Nat) (hid free:Bool):St:=
 if E.mode==0 then σ else (if declW E σ i then { wrongS E σ i 10 with cells:=(wrongS E σ i 10).cells++[newCell E i hid free] } else { σ with cells:=σ.cells++[newCell E i hid free] })
theorem WkAt.grew {w w2:World} {wb:Nat} {E:Env} {σ:St} {tv lv so sd ov hv rv v':Value} {c:CellR} (h:WkAt w wb HS E σ tv lv so sd ov hv rv) (U:Obj)
  (hown:w2.ownsRow (wb+1) 91 4 v' (σ.cells.length+1) (cellsCells σ.cells++cellCells c)) (hg:(w.alloc U).grownBy w2 lv.ownBlock) (hat:v'.ownBlock=lv.ownBlock∨v'.ownBlock=some (w.heap.size+1)) :
  WkAt (w2.setCell ⟨wb,4,none⟩ v') wb HS E { σ with cells:=σ.cells++[c] } tv v' so sd ov hv rv:=by
 have hlt:=h.lt
 have hlv:∀k,lv.ownBlock=some k→wb+1≤k∧k < w.heap.size:=h.rowL.lt
 have keep:∀k,k < w.heap.size→some k≠lv.ownBlock→w2.heap[k]?=w.heap[k]?:=fun k hk hne=>(hg.block k (by simp;omega) hne).trans (Below.heap_alloc w U k hk)
 have keep2:∀k,k < w.heap.size→k≠wb→some k≠lv.ownBlock→(w2.setCell ⟨wb,4,none⟩ v').heap[k]?=w.heap[k]?:=fun k hk hw hne=>(Below.heap_setCell _ _ _ _ hw).trans (keep k hk hne)
 have low:∀k,k < wb→(w2.setCell ⟨wb,4,none⟩ v').heap[k]?=w.heap[k]?:=fun k hk=>keep2 k (by omega) (by omega) (fun e=>by have:=(hlv k e.symm).1;omega)
 have blk2:w2.heap[wb]?=_:=(keep wb hlt (fun e=>by have:=(hlv wb e.symm).1;omega)).trans h.blk
 have ap:∀(x:Value),apartV lv x→(∀k,x.ownBlock=some k→wb+1≤k∧k < w.heap.size)→apartV v' x:=fun x hx hxb=>by
  rcases hat with e | e
  ·unfold apartV;rw [e];exact hx
  ·right
   rw [e]
   intro e2
   have:=(hxb _ e2.symm).2
   omega
 have own2:∀(x:Value) (e size n:Nat) (xs:List Value),w.ownsRow (wb+1) e size x n xs→apartV lv x→(w2.setCell ⟨wb,4,none⟩ v').ownsRow (wb+1) e size x n xs:=fun x e size n xs hx hap=>own_same hx (fun k hk=>keep2 k (hx.lt k hk).2 (by have:=(hx.lt k hk).1;omega) (fun e2=>by
  rcases hap with h0 | h0
  ·rw [h0] at e2;cases e2
  ·exact h0 (by rw [←e2,hk])))
 have hold:∀p∈HS,(w2.setCell ⟨wb,4,none⟩ v').heap[p.1]?=some p.2∧p.1≠wb∧v'.ownBlock≠some p.1∧rv.ownBlock≠some p.1∧ov.ownBlock≠some p.1∧hv.ownBlock≠some p.1:=fun p hp=>by
  obtain ⟨a,b,c,d⟩:=h.held p hp
  have hpl:p.1 < w.heap.size:=(Array.getElem?_eq_some_iff.1 a).1
  refine ⟨(keep2 p.1 hpl b (fun e=>c e.symm)).trans a,b,?_,d⟩
  rcases hat with e | e
  ·rw [e];exact c
  ·rw [e];intro e2;simp at e2;omega
 refine ⟨heap_setCell_same _ wb 4 _ _ _ blk2,own_same h.tokens (fun k hk=>low k (h.tokLow k hk)),h.tokLow,h.tokSome,h.tokFew,?_,own2 _ _ _ _ _ h.rowR h.apLR,own2 _ _ _ _ _ h.rowO h.apLO,own2 _ _ _ _ _ h.rowH h.apLH,ap rv h.apLR h.rowR.lt,ap ov h.apLO h.rowO.lt,ap hv h.apLH h.rowH.lt,h.apRO,h.apRH,h.apOH,?_,?_,hold⟩
 ·have:w2.ownsRow (wb+1) 91 4 v' (σ.cells++[c]).length (cellsCells (σ.cells++[c])):=by rw [cellsCells_snoc,List.length_append];exact hown
  exact own_same this (fun k hk=>Below.heap_setCell _ _ _ _ (by show k≠wb;have:=(this.lt k hk).1;omega))
 ·obtain ⟨ao,c,e,hi⟩:=h.ints1;exact ⟨ao,c,e,hi.same low⟩
 ·obtain ⟨ao,c,e,hi⟩:=h.ints2;exact ⟨ao,c,e,hi.same low⟩
end Go.Proofs.YthmmgiaobakilaaGreat
