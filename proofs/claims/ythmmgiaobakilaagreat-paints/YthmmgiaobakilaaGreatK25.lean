import Derived.Test.YthmmgiaobakilaaGreatK03
import Derived.Test.YthmmgiaobakilaaGreatK24
set_option maxRecDepth 100000
namespace Go.Proofs.YthmmgiaobakilaaGreat
open Go.RowKit
def xyCells:Array Value:=#[.string ⟨#[120]⟩,.int .i64 0,.bool false,.bool false,.string ⟨#[121]⟩,.int .i64 0,.bool false,.bool false]
def xyS (σ:St):St:={ σ with cells:=[⟨sXR,0,false,false⟩,⟨sYR,0,false,false⟩] }
theorem WkAt.newL {w:World} {wb:Nat} {HS:List (Nat×Obj)} {E:Env} {σ:St} {tv lv so sd ov hv rv:Value} (h:WkAt w wb HS E σ tv lv so sd ov hv rv) :
  WkAt ((w.setCell ⟨wb,4,none⟩ (.slice (some ⟨w.heap.size,0,none⟩) 2 2)).alloc (.cells #[.string ⟨#[120]⟩,.int .i64 0,.bool false,.bool false,.string ⟨#[121]⟩,.int .i64 0,.bool false,.bool false] 91)) wb HS E (xyS σ) tv (.slice (some ⟨w.heap.size,0,none⟩) 2 2) so sd ov hv rv:=by
 have hlt:=h.lt
 generalize hW:((w.setCell ⟨wb,4,none⟩ (.slice (some ⟨w.heap.size,0,none⟩) 2 2)).alloc (.cells #[.string ⟨#[120]⟩,.int .i64 0,.bool false,.bool false,.string ⟨#[121]⟩,.int .i64 0,.bool false,.bool false] 91))=W
 have hsz:(w.setCell ⟨wb,4,none⟩ (.slice (some ⟨w.heap.size,0,none⟩) 2 2)).heap.size=w.heap.size:=by simp
 have keep0:∀k,k < w.heap.size→W.heap[k]?=(w.setCell ⟨wb,4,none⟩ (.slice (some ⟨w.heap.size,0,none⟩) 2 2)).heap[k]?:=fun k hk=>by rw [←hW];exact Below.heap_alloc _ _ k (by rw [hsz];exact hk)
 have keep:∀k,k < w.heap.size→k≠wb→W.heap[k]?=w.heap[k]?:=fun k hk hne=>(keep0 k hk).trans (Below.heap_setCell _ _ _ _ hne)
 have low:∀k,k < wb→W.heap[k]?=w.heap[k]?:=fun k hk=>keep k (by omega) (by omega)
 have own2:∀(x:Value) (e size n:Nat) (xs:List Value),w.ownsRow (wb+1) e size x n xs→W.ownsRow (wb+1) e size x n xs:=fun x e size n xs hx=>own_same hx (fun k hk=>keep k (hx.lt k hk).2 (by have:=(hx.lt k hk).1;omega))
 have ap:∀(x:Value) (e size n:Nat) (xs:List Value),w.ownsRow (wb+1) e size x n xs→apartV (.slice (some ⟨w.heap.size,0,none⟩) 2 2) x:=fun x e size n xs hx=>Or.inr (fun e2=>by have:=(hx.lt w.heap.size (by rw [←e2];rfl)).2;omega)
 have blk:W.heap[wb]?=some (.cells #[tv,.int .i64 E.mode,.int .i64 σ.fault,.int .i64 σ.place,.slice (some ⟨w.heap.size,0,none⟩) 2 2,.int .i64 E.sw,.int .i64 E.sh,so,sd,.string E.src,ov,hv,.int .i64 σ.steps,.int .i64 σ.touched,rv,.int .i64 E.point,.bool σ.dead] 59 (0,0)):=
  (keep0 wb hlt).trans (heap_setCell_same _ wb 4 _ _ _ h.blk)
 have row:W.ownsRow (wb+1) 91 4 (.slice (some ⟨w.heap.size,0,none⟩) 2 2) 2 (cellsCells [⟨sXR,0,false,false⟩,⟨sYR,0,false,false⟩]):=by
  have:=World.ownsRow_lit (base:=wb+1) (e:=91) (size:=4) (w.setCell ⟨wb,4,none⟩ (.slice (some ⟨w.heap.size,0,none⟩) 2 2)) xyCells 2 (by rw [hsz];omega) (by decide) (by simp [xyCells])
  rw [hsz] at this
  rw [←hW]
  exact this
 exact ⟨blk,own_same h.tokens (fun k hk=>low k (h.tokLow k hk)),h.tokLow,h.tokSome,h.tokFew,row,own2 _ _ _ _ _ h.rowR,own2 _ _ _ _ _ h.rowO,own2 _ _ _ _ _ h.rowH,ap _ _ _ _ _ h.rowR,ap _ _ _ _ _ h.rowO,ap _ _ _ _ _ h.rowH,h.apRO,h.apRH,h.apOH,by obtain ⟨ao,c,e,hi⟩:=h.ints1;exact ⟨ao,c,e,hi.same low⟩,by obtain ⟨ao,c,e,hi⟩:=h.ints2;exact ⟨ao,c,e,hi.same low⟩,fun p hp=>by
  obtain ⟨x,y,z⟩:=h.held p hp
  have hpl:p.1 < w.heap.size:=(Array.getElem?_eq_some_iff.1 x).1
  refine ⟨(keep p.1 hpl y).trans x,y,?_,z.2⟩
  intro e
  simp [Value.ownBlock] at e
  omega⟩
def SrcOut (wb:Nat) (HS:List (Nat×Obj)) (E:Env) (w:World) (σ:St) (e:Ending) (w':World):Prop:=e = .returned (.tuple #[])∧Wk w' wb HS E σ∧Below wb w w'
set_option maxHeartbeats 8000000 in
theorem source_low (n:Nat) (w:World) (wb:Nat) (HS:List (Nat×Obj)) (E:Env) (σ σ':St) (h:Wk w wb HS E σ) (hok:OkS σ) (hm3:(E.mode==3)=false) (hM:sourceM n E σ=some σ') :
  Calls Tryz.prog 25 #[.pointer (some ⟨wb,0,none⟩)] w (SrcOut wb HS E w σ'):=by
 have tf:=h.some
 unfold sourceM at hM
 split at hM
 ·cases hM
 rename_i hg
 obtain ⟨q,hq,hM⟩:=Option.bind_eq_some_iff.1 hM
 have HQ:=hide hq
 have HM:=hide hM
 clear hq hM
 have oks:OkS (startS E σ):=⟨by simp [startS],hok.2⟩
 obtain ⟨tv,lv,so,sd,ov,hv,rv,hc⟩:=h
 have hnew:=hide hc.newL
 have hlt:=hc.lt
 have c1:=hc.cell 1
 have c4:=hc.cell 4
 have f4:=hc.thaw 4
 have c15:=hc.cell 15
 have c5:=hc.cell 5
 simp at c1 c4 c15 c5
 have HC:=hide hc
 clear hc
 go_enter Tryz.func25,Tryz.ntmps25
 have es:startS E σ=xyS σ:=by simp [startS,xyS,hm3]
 rw [es] at HQ oks
 go_wp2_with fail
 obtain ⟨oa,HO⟩:∃oa,Hid (isB E (xyS σ) 0 sOPEN=oa):=⟨_,rfl⟩
 refine (is_any _ wb E (xyS σ) 0 sOPEN ⟨_,_,_,_,_,_,_,unhide hnew⟩ tf.1).mono ?_
 rintro e W0 ⟨rfl,hw⟩
 have h0:Wk W0 wb HS E (xyS σ):=by rw [hw];exact ⟨_,_,_,_,_,_,_,unhide hnew⟩
 have hb0:Below wb w W0:=by rw [hw];exact ((Below.refl wb w).setCell (by show wb≤wb;omega) _).alloc (by simp;omega) _
 clear hw
 rw [unhide HO]
 go_wp2_with fail
 refine (is_any _ wb E (xyS σ) 0 sHIDDEN h0 tf.1).mono ?_
 rintro e wq ⟨rfl,hw⟩
 obtain rfl:=hw.symm
 clear c1 c4 f4 c15 c5 HC hnew
 go_wp2
 go_loopg [2,3,4] n (fun k si sa sb wr=>∃x:SR,si = .int .i64 (x.to:Int)∧sa = .bool (isB E x.σ x.to sOPEN)∧sb = .bool (isB E x.σ x.to sHIDDEN)∧Wk wr wb HS E x.σ∧Below wb w wr∧GoodR E x∧declsM E n k x=some q)
 case atStart=>exact ⟨⟨0,(xyS σ)⟩,rfl,by rw [←unhide HO],rfl,h0,hb0,⟨tf.1,oks⟩,unhide HQ⟩
 case round=>
  clear HQ h0 hb0 HO
  obtain ⟨x,rfl,rfl,rfl,hx,hbx,gx,hch⟩:=hrel
  cases gk with
  | zero=>exact absurd hch (by simp [declsM])
  | succ gk=>
   rw [declsM] at hch
   obtain ⟨a,ha⟩:∃a,isB E x.σ x.to sOPEN=a:=⟨_,rfl⟩
   obtain ⟨b,hb⟩:∃b,isB E x.σ x.to sHIDDEN=b:=⟨_,rfl⟩
   rw [ha,hb] at hch ⊢
   have HA:=hide ha
   have HBb:=hide hb
   clear ha hb
   by_cases hab:(a||b)=true
   ·rw [if_pos hab] at hch
    split at hch
    case isFalse=>cases hch
    rename_i hi1
    obtain ⟨y,hy,hch⟩:=Option.bind_eq_some_iff.1 hch
    have gy:=declGo_good _ _ _ _ _ hy
    have HCH:=hide hch
    clear hch
    have hi2:(x.to:Int)+1 < 1000:=by omega
    cases a
    ·cases b
     ·simp at hab
     ·go_wp2_with fail
      refine (declared_any n true _ wb HS E x.σ (x.to+1) y hx hi1 gx.2 hy).mono ?_
      rintro e w3 ⟨rfl,h3,hb3⟩
      have HB3:=hide (hbx.trans hb3)
      clear hx hbx hb3 hy HA HBb
      go_wp2_with fail
      refine (is_any _ wb E y.σ y.to sOPEN h3 gy.1).mono ?_
      rintro e wq ⟨rfl,hw⟩
      obtain rfl:=hw.symm
      go_wp2_with fail
      refine (is_any _ wb E y.σ y.to sHIDDEN h3 gy.1).mono ?_
      rintro e wq ⟨rfl,hw⟩
      obtain rfl:=hw.symm
      go_wp2
      go_roundg gk
      case measure=>omega
      case rel=>exact ⟨y,rfl,rfl,rfl,h3,unhide HB3,gy,unhide HCH⟩
    ·go_wp2_with fail
     refine (declared_any n b _ wb HS E x.σ (x.to+1) y hx hi1 gx.2 hy).mono ?_
     rintro e w3 ⟨rfl,h3,hb3⟩
     have HB3:=hide (hbx.trans hb3)
     clear hx hbx hb3 hy HA HBb
     go_wp2_with fail
     refine (is_any _ wb E y.σ y.to sOPEN h3 gy.1).mono ?_
     rintro e wq ⟨rfl,hw⟩
     obtain rfl:=hw.symm
     go_wp2_with fail
     refine (is_any _ wb E y.σ y.to sHIDDEN h3 gy.1).mono ?_
     rintro e wq ⟨rfl,hw⟩
     obtain rfl:=hw.symm
     go_wp2
     go_roundg gk
     case measure=>omega
     case rel=>exact ⟨y,rfl,rfl,rfl,h3,unhide HB3,gy,unhide HCH⟩
   ·obtain ⟨rfl,rfl⟩:a=false∧b=false:=by cases a <;> cases b <;> simp at hab <;> simp
    rw [if_neg (by simp)] at hch
    have ex:=Option.some.inj hch
    subst ex
    clear hch hab
    go_wp2
    go_loopg [2] n (fun k si wr=>∃y:SR,si = .int .i64 (y.to:Int)∧Wk wr wb HS E y.σ∧Below wb w wr∧GoodR E y∧bodyM (SBR n).1 E k y=some σ')
    case atStart=>exact ⟨x,rfl,hx,hbx,gx,unhide HM⟩
    case round=>
     clear HM hx hbx gx HA HBb
     obtain ⟨y,rfl,hy,hby,gy,hch⟩:=hrel
     cases gk with
     | zero=>exact absurd hch (by simp [bodyM])
     | succ gk=>
      rw [bodyM] at hch
      have HCH:=hide hch
      clear hch
      have hc:=hy
      obtain ⟨tv,lv,so,sd,ov,hv,rv,hc⟩:=hc
      obtain ⟨tb,cap,rfl,htb⟩:=hc.tokv
      have c0:=hc.cell 0
      have c16:=hc.cell 16
      simp at c0 c16
      obtain ⟨t0,_,_,_⟩:=hc.tokcell y.to gy.1
      have hyi:(y.to:Int) < (E.toks.length:Int):=by have:=gy.1;omega
      clear hc
      go_wp2_with fail
      refine (stopped_any _ wb E y.σ hy).mono ?_
      rintro e wq ⟨rfl,hw⟩
      obtain rfl:=hw.symm
      have hch:=unhide HCH
      clear HCH
      obtain ⟨kd,HK⟩:∃kd,Hid ((tokAt E y.to).kind=kd):=⟨_,rfl⟩
      rw [unhide HK] at hch t0
      clear HK
      obtain ⟨dd,HD⟩:∃dd,Hid (y.σ.dead=dd):=⟨_,rfl⟩
      rw [unhide HD] at hch c16
      cases hst:stopB E y.σ
      ·cases dd
       ·cases hk4:(kd==4)
        ·rw [if_neg (by rw [hst,hk4];simp)] at hch
         obtain ⟨z,hz,hch⟩:=Option.bind_eq_some_iff.1 hch
         have gz:=(SB_ok n).1.2 _ _ _ _ _ hz
         have HCH:=hide hch
         clear hch
         go_wp2_with fail
         refine ((SB_ok n).1.1 _ wb HS E y.σ y.to true z hy gy.1 gy.2 hz).mono ?_
         rintro e w3 ⟨rfl,h3,hb3⟩
         have HB3:=hide (hby.trans hb3)
         clear hz hy hby hb3 c0 c16 t0
         go_wp2
         go_roundg gk
         case measure=>omega
         case rel=>exact ⟨z,rfl,h3,unhide HB3,gz,unhide HCH⟩
        ·rw [if_pos (by rw [hk4];simp)] at hch
         have HE:=hide (Option.some.inj hch)
         clear hch
         go_wp2
         refine bodyPost_ret (results_none rfl _ _ _) rfl ?_
         rw [←unhide HE]
         exact ⟨rfl,hy,hby⟩
       ·rw [if_pos (by simp)] at hch
        have HE:=hide (Option.some.inj hch)
        clear hch
        go_wp2
        refine bodyPost_ret (results_none rfl _ _ _) rfl ?_
        rw [←unhide HE]
        exact ⟨rfl,hy,hby⟩
      ·rw [if_pos (by rw [hst];simp)] at hch
       have HE:=hide (Option.some.inj hch)
       clear hch
       go_wp2
       refine bodyPost_ret (results_none rfl _ _ _) rfl ?_
       rw [←unhide HE]
       exact ⟨rfl,hy,hby⟩
def envC (toks:List Tok) (mode:Int):Env:=⟨toks,mode,0,0,[],[],⟨#[]⟩,0⟩
def st0:St:=⟨0,0,[],0,0,[],[],[],false⟩
def modeM (n:Nat) (toks:List Tok) (mode:Int):Option St:=sourceM n (envC toks mode) st0
def goM (n:Nat) (toks:List Tok):Nat→Int→Option (Int×Int)
 | 0,m=>if m≤2 then none else some (0,0)
 | k+1,m=>if m≤2 then (modeM n toks m).bind fun a=>if a.fault=0 then goM n toks k (m+1) else some (a.fault,a.place) else some (0,0)
theorem own_le {w:World} {base base' e size n:Nat} {v:Value} {xs:List Value} (h:w.ownsRow base e size v n xs) (hb:base'≤base):w.ownsRow base' e size v n xs:=by
 obtain ⟨h1,h2⟩:=h
 refine ⟨h1,?_⟩
 rcases h2 with h2 | ⟨g,cap,cur,hv,hg,r⟩
 ·exact .inl h2
 ·exact .inr ⟨g,cap,cur,hv,by omega,r⟩
theorem Wk.new {w:World} {v:Value} {toks:List Tok} {B:Nat} (m:Int) (h:w.ownsRow B 86 4 v toks.length (toksCells toks)) (h0:0 < toks.length) (h1:toks.length≤1000) :
  Wk (w.alloc (.cells #[v,.int .i64 m,.int .i64 0,.int .i64 0,.slice none 0 0,.int .i64 0,.int .i64 0,.slice none 0 0,.slice none 0 0,.string ⟨#[]⟩,.slice none 0 0,.slice none 0 0,.int .i64 0,.int .i64 0,.slice none 0 0,.int .i64 0,.bool false] 59)) w.heap.size [] (envC toks m) st0:=by
 refine ⟨v,.slice none 0 0,.slice none 0 0,.slice none 0 0,.slice none 0 0,.slice none 0 0,.slice none 0 0,heap_alloc_new w _,(own_le h (Nat.zero_le _)).alloc _,fun k hk=>(h.lt k hk).2,h0,h1,World.ownsRow_nil _ _ _ _,World.ownsRow_nil _ _ _ _,World.ownsRow_nil _ _ _ _,World.ownsRow_nil _ _ _ _,Or.inl rfl,Or.inl rfl,Or.inl rfl,Or.inl rfl,Or.inl rfl,Or.inl rfl,⟨none,0,rfl,Or.inl rfl⟩,⟨none,0,rfl,Or.inl rfl⟩,fun p hp=>by cases hp⟩
set_option maxHeartbeats 8000000 in
theorem refcheck_toks (n:Nat) (s:ByteArray) (l:List Tok) (p:Nat) (f pl:Int) (w:World) (hs:s.size≤300) (hl:lex s s.size 0 []=(some l,p)) (hM:goM n (l++[overTok p]) 3 0=some (f,pl)) :
  Calls Tryz.prog 23 #[.string s] w fun e w'=>e = .returned (.tuple #[.int .i64 f,.int .i64 pl])∧Below w.heap.size w w':=by
 have hlen:=lex_len s s.size 0 [] l p (by simp) (by omega) hl
 have HM:=hide hM
 have HL:=hide hl
 clear hM hl
 go_enter Tryz.func23,Tryz.ntmps23
 go_wp2_with fail
 refine (tokens_any s w hs).mono ?_
 rintro e w1 ⟨ho,hb1⟩
 unfold TokOut at ho
 rw [unhide HL] at ho
 obtain ⟨v,rfl,own⟩:=ho
 clear HL
 obtain ⟨T,hT⟩:∃T,l++[overTok p]=T:=⟨_,rfl⟩
 have hTl:T.length=l.length+1:=by rw [←hT];simp
 rw [hT] at own HM
 obtain ⟨g,cap,rfl⟩:=own_succ own
 rw [←hTl] at own
 clear hT
 go_wp2
 go_loopg [7] 3 (fun k sm wr=>∃m:Int,sm = .int .i64 m∧0≤m∧m+k≤3∧wr.ownsRow w.heap.size 86 4 (.slice (some ⟨g,0,none⟩) (l.length+1) cap) T.length (toksCells T)∧Below w.heap.size w wr∧goM n T k m=some (f,pl))
 case atStart=>exact ⟨0,rfl,by omega,by omega,by rw [←hTl];exact own,hb1,unhide HM⟩
 case round=>
  clear HM own hb1
  obtain ⟨m,rfl,m0,m1,own,hb,hm⟩:=hrel
  have HM:=hide hm
  clear hm
  by_cases hle:m≤2
  ·cases gk with
   | zero=>
    have:=unhide HM
    rw [goM,if_pos hle] at this
    cases this
   | succ gk=>
    have hm:=unhide HM
    clear HM
    rw [goM,if_pos hle] at hm
    obtain ⟨a,ha,hm⟩:=Option.bind_eq_some_iff.1 hm
    have hm3:((envC T m).mode==3)=false:=by
     show (m==3)=false
     simp
     omega
    have HM:=hide hm
    have HA:=hide ha
    clear hm ha
    have hnew:=Wk.new m own (by omega) (by omega)
    have hsz:w.heap.size≤wr.heap.size:=hb.size
    go_wp2_with fail
    refine (source_low n _ wr.heap.size [] (envC T m) st0 a hnew ⟨by decide,by decide,by decide,by decide⟩ hm3 (unhide HA)).mono ?_
    rintro e w3 ⟨rfl,h3,hb3⟩
    have own3:w3.ownsRow w.heap.size 86 4 (.slice (some ⟨g,0,none⟩) (l.length+1) cap) T.length (toksCells T):=own_same own (fun k hk=>(hb3.block k (own.lt k hk).2).trans (Below.heap_alloc wr _ k (own.lt k hk).2))
    have hB3:Below w.heap.size w w3:=(hb.alloc hsz _).trans (hb3.mono hsz)
    obtain ⟨tv,lv,so,sd,ov,hv,rv,hc⟩:=h3
    have c2:=hc.cell 2
    have c3:=hc.cell 3
    simp at c2 c3
    clear hc own hb hnew hb3 HA
    have hm:=unhide HM
    clear HM
    cases hf:(a.fault==0)
    ·rw [if_neg (by intro e;rw [e] at hf;cases hf)] at hm
     have HE:=hide (Option.some.inj hm)
     clear hm
     go_wp2
     go_quiet (fail)
     go_wp2
     go_ret2
     exact ⟨by have:=unhide HE;cases this;rfl,below_dr hB3 _⟩
    ·rw [if_pos (by simpa using hf)] at hm
     have HE:=hide hm
     clear hm
     go_wp2
     go_roundg gk
     case measure=>omega
     case rel=>exact ⟨m+1,rfl,by omega,by omega,own3,hB3,unhide HE⟩
  ·have e:(f,pl)=(0,0):=by
    have:=unhide HM
    cases gk with
    | zero=>rw [goM,if_neg hle] at this;exact (Option.some.inj this).symm
    | succ gk=>rw [goM,if_neg hle] at this;exact (Option.some.inj this).symm
   cases e
   clear HM
   have hgt:2 < m:=by omega
   go_wp2
   go_ret2
   exact ⟨rfl,hb⟩
end Go.Proofs.YthmmgiaobakilaaGreat

set_option maxRecDepth 100000
namespace Go.Proofs.YthmmgiaobakilaaGreat
open Go.RowKit Go.Deep
def M0 (E:Env) (σ:St):Prop:=E.mode=0∧σ.fault=0∧OkS σ
def S0 (E:Env) (σ:St):Prop:=E.mode=0∧σ.fault≠0∧OkS σ
structure TokOK (E:Env):Prop where
 last:LastOver E.toks
 nums:∀i,0≤(tokAt E i).num∧(tokAt E i).num≤65536
def stop9 (E:Env) (σ:St) (k:Nat):St:={ σ with fault:=9,place:=(tokAt E k).place }
def end0 {α:Type} (E:Env) (σ:St):Except Nat (α×Nat)→Nat×St
 | .ok (_,j)=>(j,σ)
 | .error k=>(E.toks.length-1,stop9 E σ k)
section
variable {E:Env} {σ:St}
theorem M0.stop (h:M0 E σ):stopB E σ=false:=by simp [stopB,h.1,h.2.1]
theorem S0.stop (h:S0 E σ):stopB E σ=true:=by simp [stopB,h.1,h.2.1]
theorem M0.is (h:M0 E σ) (i:Nat) (s:ByteArray):isB E σ i s=isT E.toks i s:=by simp [isB,h.stop,isT,tokAt,tkAt]
theorem S0.is (h:S0 E σ) (i:Nat) (s:ByteArray):isB E σ i s=false:=by simp [isB,h.stop]
theorem M0.stop9 (h:M0 E σ) (k:Nat):S0 E (stop9 E σ k):=⟨h.1,by simp [Go.Proofs.YthmmgiaobakilaaGreat.stop9],h.2.2⟩
theorem M0.wrong (h:M0 E σ) (k:Nat):wrongS E σ k 9=Go.Proofs.YthmmgiaobakilaaGreat.stop9 E σ k:=by simp [wrongS,h.2.1,Go.Proofs.YthmmgiaobakilaaGreat.stop9]
theorem step0 (hm:E.mode=0) (live:Bool):stepS E σ live=σ:=by simp [stepS,livesB,hm]
theorem lives0 (hm:E.mode=0) (live:Bool):livesB E σ live=false:=by simp [livesB,hm]
theorem flow0 (hm:E.mode=0) (i:Nat) (b:Bool):flowS E σ i b=σ:=by simp [flowS,hm]
theorem M0.need (h:M0 E σ) {i:Nat} {s:ByteArray} {r:Except Nat (Unit×Nat)} (hr:pNeed E.toks s i=some r):needI E σ i s=(end0 E σ r).1∧needS E σ i s=(end0 E σ r).2:=by
 unfold pNeed at hr
 unfold needI needS
 rw [h.is,h.stop]
 split at hr
 ·rename_i hs
  cases hr
  simp [hs,end0]
 ·rename_i hs
  cases hr
  simp [hs,end0,h.wrong]
theorem S0.need (h:S0 E σ) (i:Nat) (s:ByteArray):needI E σ i s=E.toks.length-1∧needS E σ i s=σ:=by
 unfold needI needS
 rw [h.is,h.stop]
 simp
theorem S0.op (h:S0 E σ) (i:Nat) (ops:List ByteArray):opF E σ i ops=⟨#[]⟩:=by
 have:ops.find? (isB E σ i)=none:=List.find?_eq_none.2 (fun s _=>by simp [h.is])
 simp [opF,this]
theorem S0.opE (h:S0 E σ) (i:Nat) (ops:List ByteArray):(opF E σ i ops).toList.isEmpty=true:=by
 rw [h.op,ByteArray.toList_eq];rfl
end
theorem is_text {E:Env} {σ:St} {i:Nat} {s t:ByteArray} (hs:isB E σ i s=true):isB E σ i t=(s.toList==t.toList):=by
 simp only [isB,Bool.and_eq_true] at hs
 obtain ⟨⟨a,b⟩,c⟩:=hs
 have e:(tokAt E i).text.toList=s.toList:=by simpa using c
 simp only [isB,a,b,e,Bool.true_and]
theorem op_is {E:Env} {σ:St} {i:Nat} {ops:List ByteArray} {s:ByteArray} (hs:s∈ops) (hne:s.toList≠[]):((opF E σ i ops).toList==s.toList)=isB E σ i s:=by
 unfold opF
 cases hf:ops.find? (isB E σ i) with
 | none=>
  have:=List.find?_eq_none.1 hf s hs
  have e:isB E σ i s=false:=by simpa using this
  rw [e]
  have:(⟨#[]⟩:ByteArray).toList=[]:=by rw [ByteArray.toList_eq]
  simp only [Option.getD_none,this]
  cases hl:s.toList with
  | nil=>exact absurd hl hne
  | cons x l=>rfl
 | some t=>
  have ht:=List.find?_some hf
  rw [is_text ht]
  rfl
theorem op_none {E:Env} {σ:St} {i:Nat} {ops:List ByteArray} (hne:∀s∈ops,s.toList≠[]):(opF E σ i ops).toList.isEmpty = !ops.any (isB E σ i):=by
 unfold opF
 cases hf:ops.find? (isB E σ i) with
 | none=>
  have:ops.any (isB E σ i)=false:=by
   rw [List.any_eq_false]
   intro s hs
   exact List.find?_eq_none.1 hf s hs
  rw [this,Option.getD_none,ByteArray.toList_eq]
  rfl
 | some t=>
  have ht:=List.find?_some hf
  have hm:=List.mem_of_find?_eq_some hf
  have:ops.any (isB E σ i)=true:=List.any_eq_true.2 ⟨t,hm,ht⟩
  rw [this]
  have:=hne t hm
  cases hl:t.toList with
  | nil=>exact absurd hl this
  | cons x l=>simp [hl]
def Rel0 (E:Env) (M:MX) (P:PE):Prop:=∀σ i live r,M0 E σ→i < E.toks.length→P E.toks i=some r→∃v h,In32 v∧M E σ i live=some ⟨v,h,(end0 E σ r).1,(end0 E σ r).2⟩
def Stop0 (E:Env) (M:MX):Prop:=∀σ i live,S0 E σ→i < E.toks.length→∃v h,In32 v∧M E σ i live=some ⟨v,h,E.toks.length-1,σ⟩
theorem last_lt {E:Env} (h:TokOK E):E.toks.length-1 < E.toks.length:=by have:=h.last.1;omega
theorem chain_stop {M:MX} {ops:List ByteArray} {E:Env} {live:Bool} {n:Nat} {q:RAns} (hs:S0 E q.σ):chainM M ops E live (n+1) q=some q:=by
 rw [chainM,if_pos (hs.opE _ _)]
theorem chain_rel {M:MX} {P:PE} {ops:List ByteArray} {E:Env} {live:Bool} (hne:∀s∈ops,s.toList≠[]) (hT:TokOK E) (hR:Rel0 E M P) (hF:FwdP P) (n:Nat):∀e q r,M0 E q.σ→q.to < E.toks.length→In32 q.v→pChain P ops E.toks n e q.to=some r →
  ∃v h,In32 v∧chainM M ops E live (n+1) q=some ⟨v,h,(end0 E q.σ r).1,(end0 E q.σ r).2⟩:=by
 induction n with
 | zero=>intro e q r _ _ _ h;cases h
 | succ n ih=>
  intro e q r hm hq hv h
  rw [pChain] at h
  rw [chainM,op_none hne]
  have ha:ops.any (isB E q.σ q.to)=ops.any (isT E.toks q.to):=by
   congr 1
   funext s
   exact hm.is _ _
  rw [ha]
  split at h
  ·rename_i hany
   rw [hany]
   obtain ⟨s,_,hs⟩:=List.any_eq_true.1 hany
   have h1:=isT_next hT.last hq hs
   rw [if_neg (by simp),if_pos h1,step0 hm.1]
   cases hp:P E.toks (q.to+1) with
   | none=>rw [hp] at h;cases h
   | some r1=>
    obtain ⟨v,b,hv1,hM⟩:=hR q.σ (q.to+1) live r1 hm h1 hp
    rw [hM,Option.bind_some]
    rw [hp] at h
    cases r1 with
    | error k=>
     cases h
     refine ⟨_,_,?_,chain_stop (hm.stop9 k)⟩
     exact doesV_in hv hv1
    | ok xj=>
     obtain ⟨x,j⟩:=xj
     have hf:=hF E.toks (q.to+1) hT.last h1
     rw [hp] at hf
     exact ih _ ⟨_,_,j,q.σ⟩ r hm hf.2 (doesV_in hv hv1) h
  ·rename_i hany
   cases h
   have hany':ops.any (isT E.toks q.to)=false:=by simpa using hany
   rw [hany',if_pos (by simp)]
   exact ⟨q.v,q.h,hv,rfl⟩
theorem level_rel {M:MX} {P:PE} {ops:List ByteArray} {E:Env} (hne:∀s∈ops,s.toList≠[]) (hT:TokOK E) (hR:Rel0 E M P) (hF:FwdP P) (n:Nat):Rel0 E (levelM M ops (n+1)) (pLevel P ops n):=by
 intro σ i live r hm hi h
 unfold pLevel at h
 split at h
 ·cases h
 unfold levelM
 cases hp:P E.toks i with
 | none=>rw [hp] at h;cases h
 | some r1=>
  obtain ⟨v,b,hv1,hM⟩:=hR σ i live r1 hm hi hp
  rw [hM,Option.bind_some]
  rw [hp] at h
  cases r1 with
  | error k=>
   cases h
   exact ⟨_,_,hv1,chain_stop (hm.stop9 k)⟩
  | ok xj=>
   obtain ⟨x,j⟩:=xj
   have hf:=hF E.toks i hT.last hi
   rw [hp] at hf
   exact chain_rel hne hT hR hF n x ⟨v,b,j,σ⟩ r hm hf.2 hv1 h
theorem level_stop {M:MX} {ops:List ByteArray} {E:Env} (hS:Stop0 E M) (n:Nat):Stop0 E (levelM M ops (n+1)):=by
 intro σ i live hs hi
 obtain ⟨v,b,hv,hM⟩:=hS σ i live hs hi
 refine ⟨v,b,hv,?_⟩
 unfold levelM
 rw [hM,Option.bind_some]
 exact chain_stop hs
theorem ne_opsE:∀s∈opsE,s.toList≠[]:=by
 intro s hs
 simp only [opsE,List.mem_cons,List.not_mem_nil,or_false] at hs
 rcases hs with rfl | rfl | rfl | rfl <;> (rw [ByteArray.toList_eq];simp)
theorem ne_opsT:∀s∈opsT,s.toList≠[]:=by
 intro s hs
 simp only [opsT,List.mem_cons,List.not_mem_nil,or_false] at hs
 rcases hs with rfl | rfl <;> (rw [ByteArray.toList_eq];simp)
theorem ne_opsS:∀s∈opsS,s.toList≠[]:=by
 intro s hs
 simp only [opsS,List.mem_cons,List.not_mem_nil,or_false] at hs
 rcases hs with rfl | rfl <;> (rw [ByteArray.toList_eq];simp)
theorem pair_stop {M:MX} {E:Env} {live:Bool} {q:RAns} (hs:S0 E q.σ):pairM M E live q=some q:=by
 rw [pairM,if_pos (hs.opE _ _)]
theorem exprM_rel {M:MX} {P:PE} {E:Env} (hT:TokOK E) (hR:Rel0 E M P) (hF:FwdP P):Rel0 E (exprM M) (pExpr P):=by
 intro σ i live r hm hi h
 unfold pExpr at h
 unfold exprM
 cases hp:P E.toks i with
 | none=>rw [hp] at h;cases h
 | some r1=>
  obtain ⟨v,b,hv1,hM⟩:=hR σ i live r1 hm hi hp
  rw [hM,Option.bind_some]
  rw [hp] at h
  cases r1 with
  | error k=>
   cases h
   exact ⟨_,_,hv1,pair_stop (hm.stop9 k)⟩
  | ok xj=>
   obtain ⟨x,j⟩:=xj
   have hf:=hF E.toks i hT.last hi
   rw [hp] at hf
   change pPair P E.toks x j=some r at h
   unfold pPair at h
   show ∃v' h',In32 v'∧pairM M E live ⟨v,b,j,σ⟩=_
   unfold pairM
   rw [op_none ne_opsE]
   have ha:opsE.any (isB E σ j)=opsE.any (isT E.toks j):=by
    congr 1
    funext s
    exact hm.is _ _
   rw [ha]
   split at h
   ·rename_i hany
    rw [hany]
    obtain ⟨s,_,hs⟩:=List.any_eq_true.1 hany
    have h1:=isT_next hT.last hf.2 hs
    rw [if_neg (by simp),if_pos h1,step0 hm.1]
    cases hp2:P E.toks (j+1) with
    | none=>rw [hp2] at h;cases h
    | some r2=>
     obtain ⟨v2,b2,hv2,hM2⟩:=hR σ (j+1) live r2 hm h1 hp2
     rw [hM2,Option.bind_some]
     rw [hp2] at h
     cases r2 with
     | error k=>
      cases h
      exact ⟨_,_,doesV_in hv1 hv2,rfl⟩
     | ok yj=>
      obtain ⟨y,j2⟩:=yj
      cases h
      exact ⟨_,_,doesV_in hv1 hv2,rfl⟩
   ·rename_i hany
    cases h
    have hany':opsE.any (isT E.toks j)=false:=by simpa using hany
    rw [hany',if_pos (by simp)]
    exact ⟨v,b,hv1,rfl⟩
theorem expr_stop {M:MX} {E:Env} (hS:Stop0 E M):Stop0 E (exprM M):=by
 intro σ i live hs hi
 obtain ⟨v,b,hv,hM⟩:=hS σ i live hs hi
 refine ⟨v,b,hv,?_⟩
 unfold exprM
 rw [hM,Option.bind_some]
 exact pair_stop hs
end Go.Proofs.YthmmgiaobakilaaGreat

set_option maxRecDepth 100000
namespace Go.Proofs.YthmmgiaobakilaaGreat
open Go.RowKit Go.Deep
theorem in0:In32 0:=⟨by decide,by decide⟩
theorem chk_ok {E:Env} {r:RAns} (h:GoodA E r):chk E r=some r:=by rw [chk,if_pos h]
theorem S0.chk {E:Env} {σ:St} (hT:TokOK E) (h:S0 E σ) {v:Int} {b:Bool} (hv:In32 v):chk E ⟨v,b,E.toks.length-1,σ⟩=some ⟨v,b,E.toks.length-1,σ⟩:=chk_ok ⟨last_lt hT,h.2.2,hv⟩
theorem M0.chk {E:Env} {σ:St} (h:M0 E σ) {v:Int} {b:Bool} {j:Nat} (hj:j < E.toks.length) (hv:In32 v):chk E ⟨v,b,j,σ⟩=some ⟨v,b,j,σ⟩:=chk_ok ⟨hj,h.2.2,hv⟩
def tex1 (X:MX) (hid:Bool) (E:Env) (i:Nat) (live:Bool) (a:RAns):Option RAns:=
 if needI E a.σ a.to sCM < E.toks.length then (X E (needS E a.σ a.to sCM) (needI E a.σ a.to sCM) live).bind fun b=>texEnd E i live hid a b else none
theorem texel_eq (X:MX) (hid:Bool) (E:Env) (σ:St) (i:Nat) (live:Bool):texelM X hid E σ i live=if i+1 < E.toks.length∧needI E (stepS E σ live) (i+1) sBO < E.toks.length then (X E (needS E (stepS E σ live) (i+1) sBO) (needI E (stepS E σ live) (i+1) sBO) live).bind (tex1 X hid E i live) else none:=rfl
theorem texEnd_stop {E:Env} (hT:TokOK E) {i:Nat} {live hid:Bool} {a b:RAns} (h:S0 E b.σ):∃h',texEnd E i live hid a b=some ⟨0,h',E.toks.length-1,b.σ⟩:=by
 unfold texEnd
 dsimp only
 rw [(h.need b.to sBC).1,(h.need b.to sBC).2,flow0 h.1,lives0 h.1,if_neg (by simp),h.chk hT in0]
 exact ⟨_,rfl⟩
theorem tex1_stop {X:MX} {E:Env} (hT:TokOK E) (hS:Stop0 E X) {i:Nat} {live hid:Bool} {a:RAns} (h:S0 E a.σ):∃h',tex1 X hid E i live a=some ⟨0,h',E.toks.length-1,a.σ⟩:=by
 unfold tex1
 rw [(h.need a.to sCM).1,(h.need a.to sCM).2,if_pos (last_lt hT)]
 obtain ⟨v,b,hv,hM⟩:=hS a.σ (E.toks.length-1) live h (last_lt hT)
 rw [hM,Option.bind_some]
 exact texEnd_stop hT (b:=⟨v,b,E.toks.length-1,a.σ⟩) h
theorem end0_lt {α:Type} {E:Env} {σ:St} (hT:TokOK E) {a b:Nat} {r:Except Nat (α×Nat)} (h:Fwd E.toks a b (some r)):(end0 E σ r).1 < E.toks.length:=by
 cases r with
 | error k=>exact last_lt hT
 | ok xj=>exact h.2
theorem texel_rel {X:MX} {P:PE} {E:Env} (hT:TokOK E) (hR:Rel0 E X P) (hS:Stop0 E X) (hF:FwdP P) (hid:Bool) {σ:St} {i:Nat} {live:Bool} {r:Except Nat (Ex×Nat)} (hm:M0 E σ) (hi:i+1 < E.toks.length) (h:pTwo P sBO sBC E.toks i=some r) :
  ∃v h',In32 v∧texelM X hid E σ i live=some ⟨v,h',(end0 E σ r).1,(end0 E σ r).2⟩:=by
 rw [texel_eq,step0 hm.1]
 unfold pTwo at h
 obtain ⟨r1,e1⟩:∃r1,pNeed E.toks sBO (i+1)=some r1:=by unfold pNeed;split <;> exact ⟨_,rfl⟩
 have f1:=need_fwd (s:=sBO) hT.last hi
 rw [e1] at h f1
 obtain ⟨n1,n2⟩:=hm.need e1
 rw [n1,n2,if_pos ⟨hi,end0_lt hT f1⟩]
 cases r1 with
 | error k=>
  cases h
  obtain ⟨v,b,hv,hM⟩:=hS _ _ live (hm.stop9 k) (last_lt hT)
  simp only [end0]
  rw [hM,Option.bind_some]
  obtain ⟨h',e⟩:=tex1_stop hT hS (i:=i) (live:=live) (hid:=hid) (a:=⟨v,b,E.toks.length-1,stop9 E σ k⟩) (hm.stop9 k)
  exact ⟨0,h',in0,e⟩
 | ok xj=>
 obtain ⟨_,j1⟩:=xj
 simp only [end0]
 simp only [andThen] at h
 cases e2:P E.toks j1 with
 | none=>rw [e2] at h;cases h
 | some r2=>
 have f2:=hF E.toks j1 hT.last f1.2
 rw [e2] at h f2
 obtain ⟨va,ba,hva,hMa⟩:=hR σ j1 live r2 hm f1.2 e2
 rw [hMa,Option.bind_some]
 cases r2 with
 | error k=>
  cases h
  obtain ⟨h',e⟩:=tex1_stop hT hS (i:=i) (live:=live) (hid:=hid) (a:=⟨va,ba,E.toks.length-1,stop9 E σ k⟩) (hm.stop9 k)
  exact ⟨0,h',in0,e⟩
 | ok xj=>
 obtain ⟨xa,j2⟩:=xj
 simp only [end0]
 simp only at h
 unfold tex1
 obtain ⟨r3,e3⟩:∃r3,pNeed E.toks sCM j2=some r3:=by unfold pNeed;split <;> exact ⟨_,rfl⟩
 have f3:=need_fwd (s:=sCM) hT.last f2.2
 rw [e3] at h f3
 obtain ⟨m1,m2⟩:=hm.need e3
 simp only
 rw [m1,m2,if_pos (end0_lt hT f3)]
 cases r3 with
 | error k=>
  cases h
  obtain ⟨v,b,hv,hM⟩:=hS _ _ live (hm.stop9 k) (last_lt hT)
  simp only [end0]
  rw [hM,Option.bind_some]
  obtain ⟨h',e⟩:=texEnd_stop hT (i:=i) (live:=live) (hid:=hid) (a:=⟨va,ba,j2,σ⟩) (b:=⟨v,b,E.toks.length-1,stop9 E σ k⟩) (hm.stop9 k)
  exact ⟨0,h',in0,e⟩
 | ok xj=>
 obtain ⟨_,j3⟩:=xj
 simp only [end0]
 simp only at h
 cases e4:P E.toks j3 with
 | none=>rw [e4] at h;cases h
 | some r4=>
 have f4:=hF E.toks j3 hT.last f3.2
 rw [e4] at h f4
 obtain ⟨vb,bb,hvb,hMb⟩:=hR σ j3 live r4 hm f3.2 e4
 rw [hMb,Option.bind_some]
 cases r4 with
 | error k=>
  cases h
  obtain ⟨h',e⟩:=texEnd_stop hT (i:=i) (live:=live) (hid:=hid) (a:=⟨va,ba,j2,σ⟩) (b:=⟨vb,bb,E.toks.length-1,stop9 E σ k⟩) (hm.stop9 k)
  exact ⟨0,h',in0,e⟩
 | ok xj=>
 obtain ⟨xb,j4⟩:=xj
 simp only [end0]
 simp only at h
 obtain ⟨r5,e5⟩:∃r5,pNeed E.toks sBC j4=some r5:=by unfold pNeed;split <;> exact ⟨_,rfl⟩
 have f5:=need_fwd (s:=sBC) hT.last f4.2
 rw [e5] at h f5
 obtain ⟨k1,k2⟩:=hm.need e5
 unfold texEnd
 simp only
 rw [k1,k2,flow0 hm.1,lives0 hm.1,if_neg (by simp)]
 cases r5 with
 | error k=>
  cases h
  simp only [end0]
  rw [(hm.stop9 k).chk hT in0]
  exact ⟨0,_,in0,rfl⟩
 | ok xj=>
 obtain ⟨_,j5⟩:=xj
 cases h
 simp only [end0]
 rw [hm.chk f5.2 in0]
 exact ⟨0,_,in0,rfl⟩
section
variable {X:MX} {P:PE} {E:Env} {live:Bool}
def AllIn (vs:List Int):Prop:=∀v∈vs,In32 v
theorem AllIn.snoc {vs:List Int} (h:AllIn vs) {v:Int} (hv:In32 v):AllIn (vs++[v]):=by
 intro x hx
 rcases List.mem_append.1 hx with hx | hx
 ·exact h x hx
 ·simp at hx;rw [hx];exact hv
theorem items_stop (hT:TokOK E) (hS:Stop0 E X) (m:Nat):∀q:LS,S0 E q.σ→q.to=E.toks.length-1→AllIn q.vs→∃vs h,vs.length=q.vs.length+m∧AllIn vs∧itemsM X E live m q=some ⟨vs,h,E.toks.length-1,q.σ⟩:=by
 induction m with
 | zero=>intro q hs ht ha;exact ⟨q.vs,q.h,rfl,ha,by rw [itemsM,←ht]⟩
 | succ m ih=>
  intro q hs ht ha
  have p1:preI E q=E.toks.length-1:=by
   unfold preI
   split
   ·exact ht
   ·exact (hs.need _ _).1
  have p2:preS E q=q.σ:=by
   unfold preS
   split
   ·rfl
   ·exact (hs.need _ _).2
  rw [itemsM,p1,p2,if_pos (last_lt hT)]
  obtain ⟨v,b,hv,hM⟩:=hS q.σ (E.toks.length-1) live hs (last_lt hT)
  rw [hM,Option.bind_some]
  obtain ⟨vs,h,hl,hin,e⟩:=ih ⟨q.vs++[v],q.h||b,E.toks.length-1,q.σ⟩ hs rfl (ha.snoc hv)
  exact ⟨vs,h,by simp at hl;omega,hin,e⟩
theorem item_first (hR:Rel0 E X P) {m j:Nat} {h:Bool} {σ:St} {r:Except Nat (Ex×Nat)} (hm:M0 E σ) (hj:j < E.toks.length) (hp:P E.toks j=some r):∃v b,In32 v∧itemsM X E live (m+1) ⟨[],h,j,σ⟩=itemsM X E live m ⟨[v],b,(end0 E σ r).1,(end0 E σ r).2⟩:=by
 obtain ⟨v,b,hv,hM⟩:=hR σ j live r hm hj hp
 rw [itemsM]
 have p1:preI E ⟨[],h,j,σ⟩=j:=rfl
 have p2:preS E ⟨[],h,j,σ⟩=σ:=rfl
 rw [p1,p2,if_pos hj,hM,Option.bind_some]
 exact ⟨v,_,hv,rfl⟩
theorem item_next (hT:TokOK E) (hR:Rel0 E X P) {m j j1:Nat} {h:Bool} {vs:List Int} {σ:St} {r:Except Nat (Ex×Nat)} (hvs:vs.length≠0) (hm:M0 E σ) (hj:j < E.toks.length) (hc:pNeed E.toks sCM j=some (.ok ((),j1))) (hp:P E.toks j1=some r) :
  ∃v b,In32 v∧itemsM X E live (m+1) ⟨vs,h,j,σ⟩=itemsM X E live m ⟨vs++[v],b,(end0 E σ r).1,(end0 E σ r).2⟩:=by
 obtain ⟨n1,n2⟩:=hm.need hc
 have f:=need_fwd (s:=sCM) hT.last hj
 rw [hc] at f
 obtain ⟨v,b,hv,hM⟩:=hR σ j1 live r hm f.2 hp
 rw [itemsM]
 have p1:preI E ⟨vs,h,j,σ⟩=j1:=by unfold preI;rw [if_neg hvs];exact n1
 have p2:preS E ⟨vs,h,j,σ⟩=σ:=by unfold preS;rw [if_neg hvs];exact n2
 rw [p1,p2,if_pos f.2,hM,Option.bind_some]
 exact ⟨v,_,hv,rfl⟩
theorem item_comma (hT:TokOK E) (hS:Stop0 E X) {m j k:Nat} {h:Bool} {vs:List Int} {σ:St} (hvs:vs.length≠0) (hm:M0 E σ) (hc:pNeed E.toks sCM j=some (.error k)) :
  ∃v b,In32 v∧itemsM X E live (m+1) ⟨vs,h,j,σ⟩=itemsM X E live m ⟨vs++[v],b,E.toks.length-1,stop9 E σ k⟩:=by
 obtain ⟨n1,n2⟩:=hm.need hc
 obtain ⟨v,b,hv,hM⟩:=hS _ (E.toks.length-1) live (hm.stop9 k) (last_lt hT)
 rw [itemsM]
 have p1:preI E ⟨vs,h,j,σ⟩=E.toks.length-1:=by unfold preI;rw [if_neg hvs];exact n1
 have p2:preS E ⟨vs,h,j,σ⟩=stop9 E σ k:=by unfold preS;rw [if_neg hvs];exact n2
 rw [p1,p2,if_pos (last_lt hT),hM,Option.bind_some]
 exact ⟨v,_,hv,rfl⟩
def listEnd (E:Env) (q:LS):Option LS:=some ⟨q.vs,q.h,needI E q.σ q.to sPC,needS E q.σ q.to sPC⟩
def ListRes (E:Env) (σ:St) (n:Nat) (r:Except Nat (Ex×Nat)) (o:Option LS):Prop:=∃vs h,vs.length=n∧AllIn vs∧o=some ⟨vs,h,(end0 E σ r).1,(end0 E σ r).2⟩
theorem list_dead (hT:TokOK E) (hS:Stop0 E X) {m n k:Nat} {σ:St} {q:LS} (hm:M0 E σ) (hq:q.σ=stop9 E σ k) (ht:q.to=E.toks.length-1) (ha:AllIn q.vs) (hn:q.vs.length+m=n):ListRes E σ n (.error k) ((itemsM X E live m q).bind (listEnd E)):=by
 have hs:S0 E q.σ:=by rw [hq];exact hm.stop9 k
 obtain ⟨vs,h,hl,hin,e⟩:=items_stop hT hS m q hs ht ha (live:=live)
 rw [e,Option.bind_some]
 refine ⟨vs,h,by omega,hin,?_⟩
 unfold listEnd
 simp only
 rw [(hs.need _ _).1,(hs.need _ _).2,hq]
 rfl
theorem list_close {n j:Nat} {h:Bool} {σ:St} {vs:List Int} {r:Except Nat (Unit×Nat)} (hm:M0 E σ) (ha:AllIn vs) (hn:vs.length=n) (hp:pNeed E.toks sPC j=some r) (g:Ex) (r':Except Nat (Ex×Nat)) (hr:andThen (some r) (fun _ k=>got g k)=some r'):ListRes E σ n r' ((itemsM X E live 0 ⟨vs,h,j,σ⟩).bind (listEnd E)):=by
 rw [itemsM,Option.bind_some]
 obtain ⟨n1,n2⟩:=hm.need hp
 refine ⟨vs,h,hn,ha,?_⟩
 unfold listEnd
 simp only
 rw [n1,n2]
 cases r with
 | error k=>cases hr;rfl
 | ok xj=>obtain ⟨_,j⟩:=xj;cases hr;rfl
theorem two_rel (hT:TokOK E) (hR:Rel0 E X P) (hS:Stop0 E X) (hF:FwdP P) {σ:St} {i:Nat} {r:Except Nat (Ex×Nat)} (hm:M0 E σ) (hi:i+1 < E.toks.length) (h:pTwo P sPO sPC E.toks i=some r):ListRes E σ 2 r (listM X 2 E σ i live):=by
 unfold listM
 rw [step0 hm.1]
 unfold pTwo at h
 obtain ⟨r1,e1⟩:=need_some E.toks sPO (i+1)
 have f1:=need_fwd (s:=sPO) hT.last hi
 rw [e1] at h f1
 obtain ⟨n1,n2⟩:=hm.need e1
 rw [n1,n2,if_pos ⟨hi,end0_lt hT f1⟩]
 change ListRes E σ 2 r ((itemsM X E live 2 _).bind (listEnd E))
 cases r1 with
 | error k=>cases h;exact list_dead hT hS hm rfl rfl (by intro v hv;cases hv) rfl
 | ok xj=>
 obtain ⟨_,j1⟩:=xj
 simp only [end0]
 simp only [andThen] at h
 cases e2:P E.toks j1 with
 | none=>rw [e2] at h;cases h
 | some r2=>
 have f2:=hF E.toks j1 hT.last f1.2
 rw [e2] at h f2
 obtain ⟨v1,b1,hv1,q1⟩:=item_first (live:=live) (m:=1) (h:=false) hR hm f1.2 e2
 rw [q1]
 have a1:AllIn [v1]:=by intro v hv;simp at hv;rw [hv];exact hv1
 cases r2 with
 | error k=>cases h;exact list_dead hT hS hm rfl rfl a1 rfl
 | ok xj=>
 obtain ⟨xa,j2⟩:=xj
 simp only [end0]
 simp only at h
 obtain ⟨r3,e3⟩:=need_some E.toks sCM j2
 have f3:=need_fwd (s:=sCM) hT.last f2.2
 rw [e3] at h f3
 cases r3 with
 | error k=>
  cases h
  obtain ⟨v2,b2,hv2,q2⟩:=item_comma (live:=live) (m:=0) (h:=b1) (vs:=[v1]) hT hS (by simp) hm e3
  rw [q2]
  exact list_dead hT hS hm rfl rfl (a1.snoc hv2) rfl
 | ok xj=>
 obtain ⟨_,j3⟩:=xj
 simp only at h
 cases e4:P E.toks j3 with
 | none=>rw [e4] at h;cases h
 | some r4=>
 have f4:=hF E.toks j3 hT.last f3.2
 rw [e4] at h f4
 obtain ⟨v2,b2,hv2,q2⟩:=item_next (live:=live) (m:=0) (h:=b1) (vs:=[v1]) hT hR (by simp) hm f2.2 e3 e4
 rw [q2]
 cases r4 with
 | error k=>cases h;exact list_dead hT hS hm rfl rfl (a1.snoc hv2) rfl
 | ok xj=>
 obtain ⟨xb,j4⟩:=xj
 simp only [end0]
 simp only at h
 obtain ⟨r5,e5⟩:=need_some E.toks sPC j4
 rw [e5] at h
 exact list_close hm (a1.snoc hv2) rfl e5 _ r h
theorem three_rel (hT:TokOK E) (hR:Rel0 E X P) (hS:Stop0 E X) (hF:FwdP P) {σ:St} {i:Nat} {r:Except Nat (Ex×Nat)} (hm:M0 E σ) (hi:i+1 < E.toks.length) (h:pThree P sPO sPC E.toks i=some r):ListRes E σ 3 r (listM X 3 E σ i live):=by
 unfold listM
 rw [step0 hm.1]
 unfold pThree at h
 obtain ⟨r1,e1⟩:=need_some E.toks sPO (i+1)
 have f1:=need_fwd (s:=sPO) hT.last hi
 rw [e1] at h f1
 obtain ⟨n1,n2⟩:=hm.need e1
 rw [n1,n2,if_pos ⟨hi,end0_lt hT f1⟩]
 change ListRes E σ 3 r ((itemsM X E live 3 _).bind (listEnd E))
 cases r1 with
 | error k=>cases h;exact list_dead hT hS hm rfl rfl (by intro v hv;cases hv) rfl
 | ok xj=>
 obtain ⟨_,j1⟩:=xj
 simp only [end0]
 simp only [andThen] at h
 cases e2:P E.toks j1 with
 | none=>rw [e2] at h;cases h
 | some r2=>
 have f2:=hF E.toks j1 hT.last f1.2
 rw [e2] at h f2
 obtain ⟨v1,b1,hv1,q1⟩:=item_first (live:=live) (m:=2) (h:=false) hR hm f1.2 e2
 rw [q1]
 have a1:AllIn [v1]:=by intro v hv;simp at hv;rw [hv];exact hv1
 cases r2 with
 | error k=>cases h;exact list_dead hT hS hm rfl rfl a1 rfl
 | ok xj=>
 obtain ⟨xa,j2⟩:=xj
 simp only [end0]
 simp only at h
 obtain ⟨r3,e3⟩:=need_some E.toks sCM j2
 have f3:=need_fwd (s:=sCM) hT.last f2.2
 rw [e3] at h f3
 cases r3 with
 | error k=>
  cases h
  obtain ⟨v2,b2,hv2,q2⟩:=item_comma (live:=live) (m:=1) (h:=b1) (vs:=[v1]) hT hS (by simp) hm e3
  rw [q2]
  exact list_dead hT hS hm rfl rfl (a1.snoc hv2) rfl
 | ok xj=>
 obtain ⟨_,j3⟩:=xj
 simp only at h
 cases e4:P E.toks j3 with
 | none=>rw [e4] at h;cases h
 | some r4=>
 have f4:=hF E.toks j3 hT.last f3.2
 rw [e4] at h f4
 obtain ⟨v2,b2,hv2,q2⟩:=item_next (live:=live) (m:=1) (h:=b1) (vs:=[v1]) hT hR (by simp) hm f2.2 e3 e4
 rw [q2]
 have a2:=a1.snoc hv2
 cases r4 with
 | error k=>cases h;exact list_dead hT hS hm rfl rfl a2 rfl
 | ok xj=>
 obtain ⟨xb,j4⟩:=xj
 simp only [end0]
 simp only at h
 obtain ⟨r5,e5⟩:=need_some E.toks sCM j4
 have f5:=need_fwd (s:=sCM) hT.last f4.2
 rw [e5] at h f5
 cases r5 with
 | error k=>
  cases h
  obtain ⟨v3,b3,hv3,q3⟩:=item_comma (live:=live) (m:=0) (h:=b2) (vs:=[v1]++[v2]) hT hS (by simp) hm e5
  rw [q3]
  exact list_dead hT hS hm rfl rfl (a2.snoc hv3) rfl
 | ok xj=>
 obtain ⟨_,j5⟩:=xj
 simp only at h
 cases e6:P E.toks j5 with
 | none=>rw [e6] at h;cases h
 | some r6=>
 have f6:=hF E.toks j5 hT.last f5.2
 rw [e6] at h f6
 obtain ⟨v3,b3,hv3,q3⟩:=item_next (live:=live) (m:=0) (h:=b2) (vs:=[v1]++[v2]) hT hR (by simp) hm f4.2 e5 e6
 rw [q3]
 cases r6 with
 | error k=>cases h;exact list_dead hT hS hm rfl rfl (a2.snoc hv3) rfl
 | ok xj=>
 obtain ⟨xc,j6⟩:=xj
 simp only [end0]
 simp only at h
 obtain ⟨r7,e7⟩:=need_some E.toks sPC j6
 rw [e7] at h
 exact list_close hm (a2.snoc hv3) rfl e7 _ r h
end
end Go.Proofs.YthmmgiaobakilaaGreat

set_option maxRecDepth 100000
namespace Go.Proofs.YthmmgiaobakilaaGreat
open Go.RowKit Go.Deep
theorem opF_test {E:Env} {σ:St} (hm:M0 E σ) (i:Nat) {s:ByteArray} {L:List UInt8} (hs:s∈opsF) (hL:s.toList=L) (hne:L≠[]):((opF E σ i opsF).toList==L)=isT E.toks i s:=by
 rw [←hL,op_is hs (by rw [hL];exact hne),hm.is]
theorem factor_stop {X F:MX} {E:Env} (hT:TokOK E):Stop0 E (factorM X F):=by
 intro σ i live hs hi
 refine ⟨0,false,in0,?_⟩
 unfold factorM
 rw [if_pos hs.stop,hs.chk hT in0]
theorem both_res {E:Env} {σ:St} {s:ByteArray} {r:Except Nat (Ex×Nat)} {o:Option LS} (hm:M0 E σ) (hl:(end0 E σ r).1 < E.toks.length) (h:ListRes E σ 2 r o):∃v h',In32 v∧o.bind (bothM E s)=some ⟨v,h',(end0 E σ r).1,(end0 E σ r).2⟩:=by
 obtain ⟨vs,b,hn,ha,rfl⟩:=h
 rw [Option.bind_some]
 have ok:OkS (end0 E σ r).2:=by
  cases r with
  | error k=>exact (hm.stop9 k).2.2
  | ok xj=>exact hm.2.2
 match vs,hn with
 | [x,y],_=>
  have hx:In32 x:=ha x (by simp)
  have hy:In32 y:=ha y (by simp)
  refine ⟨doesV s x y,b,doesV_in hx hy,?_⟩
  unfold bothM
  rw [if_pos ⟨rfl,hx,hy⟩]
  exact chk_ok ⟨hl,ok,doesV_in hx hy⟩
theorem sel_res {E:Env} {σ:St} {r:Except Nat (Ex×Nat)} {o:Option LS} (hm:M0 E σ) (hl:(end0 E σ r).1 < E.toks.length) (h:ListRes E σ 3 r o):∃v h',In32 v∧o.bind (selM E)=some ⟨v,h',(end0 E σ r).1,(end0 E σ r).2⟩:=by
 obtain ⟨vs,b,hn,ha,rfl⟩:=h
 rw [Option.bind_some]
 have ok:OkS (end0 E σ r).2:=by
  cases r with
  | error k=>exact (hm.stop9 k).2.2
  | ok xj=>exact hm.2.2
 match vs,hn with
 | [x,y,z],_=>
  have hy:In32 y:=ha y (by simp)
  have hz:In32 z:=ha z (by simp)
  have e:selM E ⟨[x,y,z],b,(end0 E σ r).1,(end0 E σ r).2⟩=if x=0 then chk E ⟨z,b,(end0 E σ r).1,(end0 E σ r).2⟩ else chk E ⟨y,b,(end0 E σ r).1,(end0 E σ r).2⟩:=by simp [selM]
  rw [e]
  split
  ·exact ⟨z,b,hz,chk_ok ⟨hl,ok,hz⟩⟩
  ·exact ⟨y,b,hy,chk_ok ⟨hl,ok,hy⟩⟩
theorem factor_rel {X F:MX} {P Q:PE} {E:Env} (hT:TokOK E) (hR:Rel0 E X P) (hS:Stop0 E X) (hF:FwdP P) (hR2:Rel0 E F Q) (hF2:FwdP Q):Rel0 E (factorM X F) (pFactor P Q):=by
 intro σ i live r hm hi h
 have fw:=factor_fwd hF hF2 E.toks i hT.last hi
 rw [h] at fw
 have hend:(end0 E σ r).1 < E.toks.length:=end0_lt hT fw
 unfold factorM
 rw [if_neg (by rw [hm.stop];simp)]
 unfold pFactor at h
 have ek:(tkAt E.toks i).kind=(tokAt E i).kind:=rfl
 split at h
 ·rename_i hk
  cases h
  have hk':((tokAt E i).kind==2)=true:=hk
  rw [if_pos hk']
  have en:namedA E σ i live=⟨(tokAt E i).num,false,i+1,σ⟩:=by unfold namedA;rw [if_pos hk',step0 hm.1]
  have hn:In32 (tokAt E i).num:=by have:=hT.nums i;exact ⟨by omega,by omega⟩
  have hend':i+1 < E.toks.length:=hend
  rw [en,hm.chk hend' hn]
  exact ⟨_,_,hn,rfl⟩
 rename_i hk2
 have hk2':((tokAt E i).kind==2)=false:=Bool.eq_false_iff.2 hk2
 rw [if_neg (by rw [hk2'];simp)]
 split at h
 ·rename_i hk
  cases h
  have hk':((tokAt E i).kind==1)=true:=hk
  rw [if_pos hk']
  have en:namedA E σ i live=⟨0,false,i+1,σ⟩:=by
   unfold namedA
   rw [if_neg (by rw [hk2'];simp),if_pos (by simp [hm.1]),step0 hm.1]
  have hend':i+1 < E.toks.length:=hend
  rw [en,hm.chk hend' in0]
  exact ⟨_,_,in0,rfl⟩
 rename_i hk1
 have hk1':((tokAt E i).kind==1)=false:=Bool.eq_false_iff.2 hk1
 rw [if_neg (by rw [hk1'];simp)]
 unfold signM
 rw [opF_test hm i (s:=sPO) (by simp [opsF,sPO]) (by rw [ByteArray.toList_eq];rfl) (by simp),opF_test hm i (s:=sNEG) (by simp [opsF,sNEG]) (by rw [ByteArray.toList_eq];rfl) (by simp),
  opF_test hm i (s:=sPEEK) (by simp [opsF,sPEEK]) (by rw [ByteArray.toList_eq];rfl) (by simp),opF_test hm i (s:=sSPY) (by simp [opsF,sSPY]) (by rw [ByteArray.toList_eq];rfl) (by simp),
  opF_test hm i (s:=sMIN) (by simp [opsF,sMIN]) (by rw [ByteArray.toList_eq];rfl) (by simp),opF_test hm i (s:=sMAX) (by simp [opsF,sMAX]) (by rw [ByteArray.toList_eq];rfl) (by simp),
  opF_test hm i (s:=sSEL) (by simp [opsF,sSEL]) (by rw [ByteArray.toList_eq];rfl) (by simp)]
 split at h
 ·rename_i hs
  have h1:=isT_next hT.last hi hs
  rw [if_pos hs,if_pos h1]
  cases e2:P E.toks (i+1) with
  | none=>rw [e2] at h;cases h
  | some r2=>
  have f2:=hF E.toks (i+1) hT.last h1
  rw [e2] at h f2
  obtain ⟨va,ba,hva,hMa⟩:=hR σ (i+1) live r2 hm h1 e2
  rw [hMa,Option.bind_some]
  cases r2 with
  | error k=>
   cases h
   simp only [end0]
   rw [((hm.stop9 k).need _ _).1,((hm.stop9 k).need _ _).2,(hm.stop9 k).chk hT hva]
   exact ⟨_,_,hva,rfl⟩
  | ok xj=>
  obtain ⟨xa,j2⟩:=xj
  simp only [andThen] at h
  obtain ⟨r3,e3⟩:=need_some E.toks sPC j2
  have f3:=need_fwd (s:=sPC) hT.last f2.2
  rw [e3] at h f3
  obtain ⟨n1,n2⟩:=hm.need e3
  change ∃v h,In32 v∧chk E ⟨va,ba,needI E σ j2 sPC,needS E σ j2 sPC⟩=some ⟨v,h,(end0 E σ r).1,(end0 E σ r).2⟩
  rw [n1,n2]
  cases r3 with
  | error k=>
   cases h
   simp only [end0]
   rw [(hm.stop9 k).chk hT hva]
   exact ⟨_,_,hva,rfl⟩
  | ok xj=>
   obtain ⟨_,j3⟩:=xj
   cases h
   simp only [end0]
   rw [hm.chk f3.2 hva]
   exact ⟨_,_,hva,rfl⟩
 rename_i hs0
 rw [if_neg hs0]
 split at h
 ·rename_i hs
  have h1:=isT_next hT.last hi hs
  rw [if_pos hs,if_pos h1,step0 hm.1]
  cases e2:Q E.toks (i+1) with
  | none=>rw [e2] at h;cases h
  | some r2=>
  have f2:=hF2 E.toks (i+1) hT.last h1
  rw [e2] at h f2
  obtain ⟨va,ba,hva,hMa⟩:=hR2 σ (i+1) live r2 hm h1 e2
  rw [hMa,Option.bind_some]
  cases r2 with
  | error k=>
   cases h
   simp only [end0]
   rw [(hm.stop9 k).chk hT (wrapV_in _)]
   exact ⟨_,_,wrapV_in _,rfl⟩
  | ok xj=>
   obtain ⟨xa,j2⟩:=xj
   cases h
   simp only [end0]
   rw [hm.chk f2.2 (wrapV_in _)]
   exact ⟨_,_,wrapV_in _,rfl⟩
 rename_i hs1
 rw [if_neg hs1]
 split at h
 ·rename_i hs
  rw [if_pos hs]
  exact texel_rel hT hR hS hF false hm (isT_next hT.last hi hs) h
 rename_i hs2
 rw [if_neg hs2]
 split at h
 ·rename_i hs
  rw [if_pos hs]
  exact texel_rel hT hR hS hF true hm (isT_next hT.last hi hs) h
 rename_i hs3
 rw [if_neg hs3]
 split at h
 ·rename_i hs
  rw [if_pos hs]
  exact both_res hm hend (two_rel hT hR hS hF hm (isT_next hT.last hi hs) h)
 rename_i hs4
 rw [if_neg hs4]
 split at h
 ·rename_i hs
  rw [if_pos hs]
  exact both_res hm hend (two_rel hT hR hS hF hm (isT_next hT.last hi hs) h)
 rename_i hs5
 rw [if_neg hs5]
 split at h
 ·rename_i hs
  rw [if_pos hs]
  exact sel_res hm hend (three_rel hT hR hS hF hm (isT_next hT.last hi hs) h)
 rename_i hs6
 rw [if_neg hs6]
 cases h
 rw [hm.wrong]
 simp only [end0]
 rw [(hm.stop9 i).chk hT in0]
 exact ⟨_,_,in0,rfl⟩
theorem XF_stop {E:Env} (hT:TokOK E) (n:Nat):Stop0 E (XF (n+2)).1:=by
 rw [XF]
 exact expr_stop (level_stop (level_stop (factor_stop hT) n) n)
theorem XF_rel {E:Env} (hT:TokOK E) (n:Nat):Rel0 E (XF n).1 (pXF n).1∧Rel0 E (XF n).2 (pXF n).2:=by
 induction n with
 | zero=>exact ⟨fun σ i live r _ _ h=>by (cases h),fun σ i live r _ _ h=>by (cases h)⟩
 | succ n ih=>
  rw [pXF]
  split
  ·exact ⟨fun σ i live r _ _ h=>by (cases h),fun σ i live r _ _ h=>by (cases h)⟩
  rename_i hn
  obtain ⟨m,rfl⟩:∃m,n=m+2:=⟨n-2,by omega⟩
  have fw:=pXF_fwd (m+2)
  have f:=factor_rel hT ih.1 (XF_stop hT m) fw.1 ih.2 fw.2
  have ff:=factor_fwd fw.1 fw.2
  rw [XF]
  have t:=level_rel ne_opsT hT f ff (m+1)
  have tf:=level_fwd ff opsT (m+1)
  have s:=level_rel ne_opsS hT t tf (m+1)
  have sf:=level_fwd tf opsS (m+1)
  exact ⟨exprM_rel hT s sf,f⟩
theorem chkR_ok {E:Env} {r:SR} (h:GoodR E r):chkR E r=some r:=by rw [chkR,if_pos h]
section
variable {E:Env} {σ:St}
theorem S0.chkR (hT:TokOK E) (h:S0 E σ):chkR E ⟨E.toks.length-1,σ⟩=some ⟨E.toks.length-1,σ⟩:=chkR_ok ⟨last_lt hT,h.2.2⟩
theorem M0.chkR (h:M0 E σ) {j:Nat} (hj:j < E.toks.length):chkR E ⟨j,σ⟩=some ⟨j,σ⟩:=chkR_ok ⟨hj,h.2.2⟩
theorem S0.semi (hT:TokOK E) (h:S0 E σ) (i:Nat):semiM E σ i=some ⟨E.toks.length-1,σ⟩:=by
 unfold semiM
 rw [(h.need _ _).1,(h.need _ _).2,h.chkR hT]
theorem M0.semi {α:Type} (hT:TokOK E) (hm:M0 E σ) {j:Nat} (hj:j < E.toks.length) {g:α} {r:Except Nat (α×Nat)} (h:andThen (pNeed E.toks sSC j) (fun _ k=>got g k)=some r):semiM E σ j=some ⟨(end0 E σ r).1,(end0 E σ r).2⟩:=by
 unfold semiM
 obtain ⟨r1,e1⟩:=need_some E.toks sSC j
 have f1:=need_fwd (s:=sSC) hT.last hj
 rw [e1] at h f1
 obtain ⟨n1,n2⟩:=hm.need e1
 rw [n1,n2]
 cases r1 with
 | error k=>cases h;exact (hm.stop9 k).chkR hT
 | ok xj=>obtain ⟨_,j1⟩:=xj;cases h;exact hm.chkR f1.2
theorem M0.of (h:M0 E σ) {i:Nat} {k:Int} {r:Except Nat (Tok×Nat)} (hr:pKind E.toks k i=some r):ofI E σ i k=(end0 E σ r).1∧ofS E σ i k=(end0 E σ r).2:=by
 unfold pKind at hr
 unfold ofI ofS
 rw [h.stop]
 split at hr
 ·rename_i hs
  cases hr
  have hs':((tokAt E i).kind==k)=true:=hs
  simp [hs',end0]
 ·rename_i hs
  cases hr
  have hs':((tokAt E i).kind==k)=false:=Bool.eq_false_iff.2 hs
  simp [hs',end0,h.wrong]
theorem S0.of (h:S0 E σ) (i:Nat) (k:Int):ofI E σ i k=E.toks.length-1∧ofS E σ i k=σ:=by
 unfold ofI ofS
 rw [h.stop]
 simp
end
def Rel0S (E:Env) (M:MS) (P:PS):Prop:=∀σ i live r,M0 E σ→i < E.toks.length→P E.toks i=some r→M E σ i live=some ⟨(end0 E σ r).1,(end0 E σ r).2⟩
def Stop0S (E:Env) (M:MS):Prop:=∀σ i live,S0 E σ→i < E.toks.length→M E σ i live=some ⟨E.toks.length-1,σ⟩
section
variable {X:MX} {P:PE} {B:MS} {Q:PS} {E:Env}
theorem assign_rel (hT:TokOK E) (hR:Rel0 E X P) (hS:Stop0 E X) (hF:FwdP P) {σ:St} {i:Nat} {live:Bool} {r:Except Nat (Sx×Nat)} (hm:M0 E σ) (hi:i+1 < E.toks.length) (h:pAssign P E.toks i=some r):assignM X E σ i live=some ⟨(end0 E σ r).1,(end0 E σ r).2⟩:=by
 have l0:leadS E σ i=σ:=by simp [leadS,hm.1]
 unfold assignM
 rw [l0,step0 hm.1]
 generalize stepB E σ live=s
 unfold assignGo
 unfold pAssign at h
 obtain ⟨r1,e1⟩:=need_some E.toks sAR (i+1)
 have f1:=need_fwd (s:=sAR) hT.last hi
 rw [e1] at h f1
 obtain ⟨n1,n2⟩:=hm.need e1
 rw [n1,n2,if_pos ⟨hi,end0_lt hT f1⟩]
 have fin:∀a:RAns,assignEnd E i s (leadK E σ i) a=semiM E a.σ a.to:=fun a=>by
  unfold assignEnd
  rw [if_neg (by simp [hm.1]),lives0 hm.1,if_neg (by simp)]
 cases r1 with
 | error k=>
  cases h
  obtain ⟨v,b,hv,hM⟩:=hS _ _ s (hm.stop9 k) (last_lt hT)
  simp only [end0]
  rw [hM,Option.bind_some,fin]
  exact (hm.stop9 k).semi hT _
 | ok xj=>
 obtain ⟨_,j1⟩:=xj
 simp only [end0]
 simp only [andThen] at h
 cases e2:P E.toks j1 with
 | none=>rw [e2] at h;cases h
 | some r2=>
 have f2:=hF E.toks j1 hT.last f1.2
 rw [e2] at h f2
 obtain ⟨va,ba,hva,hMa⟩:=hR σ j1 s r2 hm f1.2 e2
 rw [hMa,Option.bind_some,fin]
 cases r2 with
 | error k=>cases h;exact (hm.stop9 k).semi hT _
 | ok xj=>
  obtain ⟨xa,j2⟩:=xj
  exact hm.semi hT f2.2 h
theorem put_rel (hT:TokOK E) (hR:Rel0 E X P) (hF:FwdP P) (hid:Bool) (tag:Nat) {σ:St} {i:Nat} {live:Bool} {r:Except Nat (Sx×Nat)} (hm:M0 E σ) (hi:i+1 < E.toks.length) (h:pPut P tag E.toks i=some r):putM X hid E σ i live=some ⟨(end0 E σ r).1,(end0 E σ r).2⟩:=by
 unfold putM
 rw [if_pos hi,step0 hm.1]
 generalize stepB E σ live=s
 unfold pPut at h
 have fin:∀a:RAns,putEnd E i s hid a=semiM E a.σ a.to:=fun a=>by
  unfold putEnd
  have o:outS E a.σ i a.h hid=a.σ:=by simp [outS,hm.1]
  rw [o,lives0 hm.1,if_neg (by simp)]
 cases e2:P E.toks (i+1) with
 | none=>rw [e2] at h;cases h
 | some r2=>
 have f2:=hF E.toks (i+1) hT.last hi
 rw [e2] at h f2
 obtain ⟨va,ba,hva,hMa⟩:=hR σ (i+1) s r2 hm hi e2
 rw [hMa,Option.bind_some,fin]
 cases r2 with
 | error k=>cases h;exact (hm.stop9 k).semi hT _
 | ok xj=>
  obtain ⟨xa,j2⟩:=xj
  exact hm.semi hT f2.2 h
theorem choiceEnd_stop {s:Bool} {a:RAns} {q:SR} (h:S0 E q.σ):choiceEnd B E s a q=some q:=by
 unfold choiceEnd
 rw [h.is,if_neg (by simp)]
theorem choice_rel (hT:TokOK E) (hR:Rel0 E X P) (hF:FwdP P) (hB:Rel0S E B Q) (hSB:Stop0S E B) (hFB:FwdP Q) {σ:St} {i:Nat} {live:Bool} {r:Except Nat (Sx×Nat)} (hm:M0 E σ) (hi:i+1 < E.toks.length) (h:pIf P Q E.toks i=some r):choiceM X B E σ i live=some ⟨(end0 E σ r).1,(end0 E σ r).2⟩:=by
 unfold choiceM
 rw [if_pos hi,step0 hm.1]
 generalize stepB E σ live=s
 unfold pIf at h
 cases e2:P E.toks (i+1) with
 | none=>rw [e2] at h;cases h
 | some r2=>
 have f2:=hF E.toks (i+1) hT.last hi
 rw [e2] at h f2
 obtain ⟨va,ba,hva,hMa⟩:=hR σ (i+1) s r2 hm hi e2
 rw [hMa,Option.bind_some]
 simp only
 rw [flow0 hm.1]
 cases r2 with
 | error k=>
  cases h
  simp only [end0]
  rw [hSB _ _ _ (hm.stop9 k) (last_lt hT),Option.bind_some]
  exact choiceEnd_stop (hm.stop9 k)
 | ok xj=>
 obtain ⟨xa,j2⟩:=xj
 simp only [end0]
 simp only [andThen] at h
 cases e3:Q E.toks j2 with
 | none=>rw [e3] at h;cases h
 | some r3=>
 have f3:=hFB E.toks j2 hT.last f2.2
 rw [e3] at h f3
 rw [hB σ j2 _ r3 hm f2.2 e3,Option.bind_some]
 cases r3 with
 | error k=>cases h;exact choiceEnd_stop (hm.stop9 k)
 | ok xj=>
 obtain ⟨xs,j3⟩:=xj
 simp only [end0]
 simp only at h
 unfold choiceEnd
 simp only
 rw [hm.is]
 unfold pElse at h
 split at h
 ·rename_i hs
  have h4:=isT_next hT.last f3.2 hs
  rw [if_pos hs,if_pos h4]
  cases e4:Q E.toks (j3+1) with
  | none=>rw [e4] at h;cases h
  | some r4=>
  rw [e4] at h
  rw [hB σ (j3+1) _ r4 hm h4 e4]
  cases r4 with
  | error k=>cases h;rfl
  | ok xj=>obtain ⟨xu,j4⟩:=xj;cases h;rfl
 ·rename_i hs
  cases h
  rw [if_neg hs]
theorem loop_rel (hT:TokOK E) (hB:Rel0S E B Q) {σ:St} {i:Nat} {live:Bool} {r:Except Nat (Sx×Nat)} (hm:M0 E σ) (hi:i+1 < E.toks.length) (h:pFor Q E.toks i=some r):loopM B E σ i live=some ⟨(end0 E σ r).1,(end0 E σ r).2⟩:=by
 have hs:stepB E σ live=false:=by simp [stepB,lives0 hm.1]
 unfold loopM
 rw [if_pos hi,step0 hm.1,hs]
 unfold pFor at h
 have d4:∀τ a b c d,S0 E τ→loopTo B E false a b c d τ=some ⟨E.toks.length-1,τ⟩:=fun τ a b c d ht=>by
  unfold loopTo
  rw [if_pos ht.stop,ht.chkR hT]
 have d3:∀τ a b,S0 E τ→loop3 B E false a b (E.toks.length-1) τ=some ⟨E.toks.length-1,τ⟩:=fun τ a b ht=>by
  unfold loop3
  rw [(ht.need _ _).1,(ht.need _ _).2,if_pos ⟨last_lt hT,last_lt hT⟩,(ht.of _ _).1,(ht.of _ _).2]
  exact d4 _ _ _ _ _ ht
 have d2:∀τ a,S0 E τ→loop2 B E false a (E.toks.length-1) τ=some ⟨E.toks.length-1,τ⟩:=fun τ a ht=>by
  unfold loop2
  rw [if_pos (last_lt hT),(ht.of _ _).1,(ht.of _ _).2]
  exact d3 _ _ _ ht
 obtain ⟨r1,e1⟩:=kind_some E.toks 1 (i+1)
 have f1:=kind_fwd hT.last (k:=1) (by decide) hi
 rw [e1] at h f1
 rw [(hm.of e1).1,(hm.of e1).2]
 cases r1 with
 | error k=>cases h;exact d2 _ _ (hm.stop9 k)
 | ok xj=>
 obtain ⟨xn,j1⟩:=xj
 simp only [end0]
 simp only [andThen] at h
 unfold loop2
 rw [if_pos f1.2]
 obtain ⟨r2,e2⟩:=kind_some E.toks 2 j1
 have f2:=kind_fwd hT.last (k:=2) (by decide) f1.2
 rw [e2] at h f2
 rw [(hm.of e2).1,(hm.of e2).2]
 cases r2 with
 | error k=>cases h;exact d3 _ _ _ (hm.stop9 k)
 | ok xj=>
 obtain ⟨xa,j2⟩:=xj
 simp only [end0]
 simp only at h
 unfold loop3
 obtain ⟨r3,e3⟩:=need_some E.toks sDT j2
 have f3:=need_fwd (s:=sDT) hT.last f2.2
 rw [e3] at h f3
 rw [(hm.need e3).1,(hm.need e3).2,if_pos ⟨f2.2,end0_lt hT f3⟩]
 cases r3 with
 | error k=>
  cases h
  simp only [end0]
  rw [((hm.stop9 k).of _ _).1,((hm.stop9 k).of _ _).2]
  exact d4 _ _ _ _ _ (hm.stop9 k)
 | ok xj=>
 obtain ⟨_,j3⟩:=xj
 simp only [end0]
 simp only at h
 obtain ⟨r4,e4⟩:=kind_some E.toks 2 j3
 have f4:=kind_fwd hT.last (k:=2) (by decide) f3.2
 rw [e4] at h f4
 rw [(hm.of e4).1,(hm.of e4).2]
 cases r4 with
 | error k=>cases h;exact d4 _ _ _ _ _ (hm.stop9 k)
 | ok xj=>
 obtain ⟨xb,j4⟩:=xj
 simp only [end0]
 simp only at h
 unfold loopTo
 have hd:declS E σ (i+1) false false=σ:=by simp [declS,hm.1]
 have hn:loopNum E σ j1 j3=σ:=by simp [loopNum,hm.1]
 rw [hm.stop,if_neg (by simp),hd,if_pos ⟨f4.2,hm.2.2⟩,hn]
 unfold loopBody
 rw [if_neg (by simp)]
 cases e5:Q E.toks j4 with
 | none=>rw [e5] at h;cases h
 | some r5=>
 rw [e5] at h
 rw [hB σ j4 false r5 hm f4.2 e5,Option.bind_some]
 have he:∀q:SR,loopEnd E q=some q:=fun q=>by
  unfold loopEnd
  rw [if_pos (by simp [hm.1])]
  simp [dropS,hm.1]
 rw [he]
 cases r5 with
 | error k=>cases h;rfl
 | ok xj=>obtain ⟨xs,j5⟩:=xj;cases h;rfl
theorem statement_rel (hT:TokOK E) (hR:Rel0 E X P) (hS:Stop0 E X) (hF:FwdP P) (hB:Rel0S E B Q) (hSB:Stop0S E B) (hFB:FwdP Q):Rel0S E (statementM X B) (pStatement P Q):=by
 intro σ i live r hm hi h
 unfold statementM
 rw [hm.stop,if_neg (by simp),hm.is,hm.is,hm.is,hm.is]
 unfold pStatement at h
 split at h
 ·rename_i hk
  have hk':((tokAt E i).kind==1)=true:=hk
  rw [if_pos hk']
  exact assign_rel hT hR hS hF hm (next_lt hT.last hi (by have e:(tkAt E.toks i).kind=1:=(by simpa using hk);rw [e];decide)) h
 rename_i hk
 rw [if_neg (show ¬ ((tokAt E i).kind==1)=true from hk)]
 split at h
 ·rename_i hs
  rw [if_pos hs]
  exact choice_rel hT hR hF hB hSB hFB hm (isT_next hT.last hi hs) h
 rename_i h1
 rw [if_neg h1]
 split at h
 ·rename_i hs
  rw [if_pos hs]
  exact loop_rel hT hB hm (isT_next hT.last hi hs) h
 rename_i h2
 rw [if_neg h2]
 split at h
 ·rename_i hs
  rw [if_pos (by rw [hs];rfl)]
  exact put_rel hT hR hF _ 3 hm (isT_next hT.last hi hs) h
 rename_i h3
 split at h
 ·rename_i hs
  rw [if_pos (by rw [hs];simp)]
  exact put_rel hT hR hF _ 4 hm (isT_next hT.last hi hs) h
 rename_i h4
 cases h
 rw [if_neg (by simp [h3,h4]),hm.wrong]
 exact (hm.stop9 i).chkR hT
end
section
variable {S:MS} {P:PS} {E:Env}
theorem blockGo_stop (hT:TokOK E) {live:Bool} {m:Nat} {q:SR} (h:S0 E q.σ):blockGo S E live (m+1) q=some ⟨E.toks.length-1,q.σ⟩:=by
 rw [blockGo,if_pos (by rw [h.stop];simp),(h.need _ _).1,(h.need _ _).2,h.chkR hT]
theorem blockGo_rel (hT:TokOK E) (hR:Rel0S E S P) (hF:FwdP P) {live:Bool} (m:Nat):∀σ j r,M0 E σ→j < E.toks.length→pItems P E.toks m j=some r→blockGo S E live (m+1) ⟨j,σ⟩=some ⟨(end0 E σ r).1,(end0 E σ r).2⟩:=by
 induction m with
 | zero=>intro σ j r _ _ h;cases h
 | succ m ih=>
  intro σ j r hm hj h
  rw [pItems] at h
  rw [blockGo]
  simp only
  rw [hm.is,hm.stop]
  split at h
  ·rename_i hs
   cases h
   rw [if_pos (by rw [hs];rfl)]
   have n:=hm.need (i:=j) (s:=sCC) (r:=.ok ((),j+1)) (by unfold pNeed;rw [if_pos hs];rfl)
   rw [n.1,n.2]
   exact hm.chkR (isT_next hT.last hj hs)
  ·rename_i hs
   rw [if_neg (by simp [hs])]
   cases e1:P E.toks j with
   | none=>rw [e1] at h;cases h
   | some r1=>
   have f1:=hF E.toks j hT.last hj
   rw [e1] at h f1
   rw [hR σ j live r1 hm hj e1,Option.bind_some]
   cases r1 with
   | error k=>cases h;exact blockGo_stop hT (hm.stop9 k)
   | ok xj=>
   obtain ⟨xs,j1⟩:=xj
   simp only [andThen] at h
   cases e2:pItems P E.toks m j1 with
   | none=>rw [e2] at h;cases h
   | some r2=>
   rw [e2] at h
   have:=ih σ j1 r2 hm f1.2 e2
   simp only [end0]
   rw [this]
   cases r2 with
   | error k=>cases h;rfl
   | ok xj=>obtain ⟨xu,j2⟩:=xj;cases h;rfl
theorem block_rel (hT:TokOK E) (hR:Rel0S E S P) (hF:FwdP P) (n:Nat):Rel0S E (blockM S (n+1)) (pBlock P n):=by
 intro σ i live r hm hi h
 unfold pBlock at h
 split at h
 ·cases h
 unfold blockM
 obtain ⟨r1,e1⟩:=need_some E.toks sCO i
 have f1:=need_fwd (s:=sCO) hT.last hi
 rw [e1] at h f1
 rw [(hm.need e1).1,(hm.need e1).2,if_pos (end0_lt hT f1)]
 cases r1 with
 | error k=>cases h;exact blockGo_stop hT (hm.stop9 k)
 | ok xj=>
  obtain ⟨_,j1⟩:=xj
  exact blockGo_rel hT hR hF n σ j1 r hm f1.2 h
theorem block_stop (hT:TokOK E) (n:Nat):Stop0S E (blockM S (n+1)):=by
 intro σ i live hs hi
 unfold blockM
 rw [(hs.need _ _).1,(hs.need _ _).2,if_pos (last_lt hT)]
 exact blockGo_stop hT hs
end
theorem SB_rel {E:Env} (hT:TokOK E) (n:Nat):Rel0S E (SBR n).1 (pSB n).1∧Rel0S E (SBR n).2 (pSB n).2:=by
 induction n with
 | zero=>exact ⟨fun σ i live r _ _ h=>by (cases h),fun σ i live r _ _ h=>by (cases h)⟩
 | succ n ih=>
  rw [pSB]
  split
  ·exact ⟨fun σ i live r _ _ h=>by (cases h),fun σ i live r _ _ h=>by (cases h)⟩
  rename_i hn
  obtain ⟨m,rfl⟩:∃m,n=m+2:=⟨n-2,by omega⟩
  rw [SBR]
  have sb:Stop0S E (SBR (m+2)).2:=by rw [SBR];exact block_stop hT m
  exact ⟨statement_rel hT (XF_rel hT (m+2)).1 (XF_stop hT m) (pXF_fwd (m+2)).1 ih.2 sb (pSB_fwd (m+2)).2,block_rel hT ih.1 (pSB_fwd (m+2)).1 (m+1)⟩
end Go.Proofs.YthmmgiaobakilaaGreat

set_option maxRecDepth 100000
namespace Go.Proofs.YthmmgiaobakilaaGreat
open Go.RowKit Go.Deep
section
variable {E:Env}
theorem decl0 {σ:St} (hm:E.mode=0) (i:Nat) (hd fr:Bool):declS E σ i hd fr=σ:=by simp [declS,hm]
theorem names_rel (hT:TokOK E) (hd:Bool) (n:Nat):∀σ i r,M0 E σ→i < E.toks.length→pNames E.toks hd n i=some r→declGo E hd n ⟨i,σ⟩=some ⟨(end0 E σ r).1,(end0 E σ r).2⟩:=by
 induction n with
 | zero=>intro σ i r _ _ h;cases h
 | succ n ih=>
  intro σ i r hm hi h
  rw [pNames] at h
  rw [declGo]
  simp only
  obtain ⟨r1,e1⟩:=kind_some E.toks 1 i
  have f1:=kind_fwd hT.last (k:=1) (by decide) hi
  rw [e1] at h f1
  cases r1 with
  | error k=>
   cases h
   have o2:ofS E σ i 1=stop9 E σ k:=(hm.of e1).2
   rw [o2,if_pos (hm.stop9 k).stop,(hm.stop9 k).chkR hT]
   rfl
  | ok xj=>
  obtain ⟨xn,j⟩:=xj
  have o1:ofI E σ i 1=j:=(hm.of e1).1
  have o2:ofS E σ i 1=σ:=(hm.of e1).2
  rw [o1,o2]
  simp only [andThen] at h
  rw [hm.stop,if_neg (by simp),decl0 hm.1,if_pos ⟨f1.2,hm.2.2⟩,hm.is]
  split at h
  ·rename_i hs
   have h1:=isT_next hT.last f1.2 hs
   rw [if_pos hs,if_pos h1]
   cases e2:pNames E.toks hd n (j+1) with
   | none=>rw [e2] at h;cases h
   | some r2=>
   rw [e2] at h
   rw [ih σ (j+1) r2 hm h1 e2]
   cases r2 with
   | error k=>cases h;rfl
   | ok xj=>obtain ⟨xl,j2⟩:=xj;cases h;rfl
  ·rename_i hs
   rw [if_neg hs]
   exact hm.semi hT f1.2 h
theorem decls_stop {f k:Nat} {q:SR} (h:S0 E q.σ):declsM E f (k+1) q=some q:=by
 rw [declsM,h.is,h.is,if_neg (by simp)]
theorem decls_rel (hT:TokOK E) (f n:Nat):∀σ i r,M0 E σ→i < E.toks.length→pDecls E.toks f n i=some r→declsM E f (n+1) ⟨i,σ⟩=some ⟨(end0 E σ r).1,(end0 E σ r).2⟩:=by
 induction n with
 | zero=>intro σ i r _ _ h;cases h
 | succ n ih=>
  intro σ i r hm hi h
  rw [pDecls] at h
  rw [declsM]
  simp only
  rw [hm.is,hm.is]
  split at h
  ·rename_i hs
   have h1:i+1 < E.toks.length:=by
    have hs':=hs
    simp only [Bool.or_eq_true] at hs'
    rcases hs' with hs' | hs' <;> exact isT_next hT.last hi hs'
   rw [if_pos hs,if_pos h1]
   cases e1:pNames E.toks (isT E.toks i sHIDDEN) f (i+1) with
   | none=>rw [e1] at h;cases h
   | some r1=>
   have f1:=names_fwd (isT E.toks i sHIDDEN) hT.last f (i+1) h1
   rw [e1] at h f1
   rw [names_rel hT _ f σ (i+1) r1 hm h1 e1,Option.bind_some]
   cases r1 with
   | error k=>cases h;exact decls_stop (hm.stop9 k)
   | ok xj=>
   obtain ⟨xl,j⟩:=xj
   simp only [andThen] at h
   cases e2:pDecls E.toks f n j with
   | none=>rw [e2] at h;cases h
   | some r2=>
   rw [e2] at h
   simp only [end0]
   rw [ih σ j r2 hm f1.2 e2]
   cases r2 with
   | error k=>cases h;rfl
   | ok xj=>obtain ⟨xm,j2⟩:=xj;cases h;rfl
  ·rename_i hs
   cases h
   rw [if_neg hs]
   rfl
theorem body_stop {S:MS} {k:Nat} {q:SR} (h:S0 E q.σ):bodyM S E (k+1) q=some q.σ:=by
 rw [bodyM,h.stop,if_pos (by simp)]
theorem body_rel {S:MS} {P:PS} (hT:TokOK E) (hR:Rel0S E S P) (hF:FwdP P) (n:Nat):∀σ i r,M0 E σ→σ.dead=false→i < E.toks.length→pBody P E.toks n i=some r→bodyM S E (n+1) ⟨i,σ⟩=some (end0 E σ r).2:=by
 induction n with
 | zero=>intro σ i r _ _ _ h;cases h
 | succ n ih=>
  intro σ i r hm hd hi h
  rw [pBody] at h
  rw [bodyM]
  simp only
  rw [hm.stop,hd]
  split at h
  ·rename_i hs
   cases h
   have hs':((tokAt E i).kind==4)=true:=hs
   rw [hs',if_pos (by simp)]
   rfl
  ·rename_i hs
   have hs':((tokAt E i).kind==4)=false:=Bool.eq_false_iff.2 hs
   rw [hs',if_neg (by simp)]
   cases e1:P E.toks i with
   | none=>rw [e1] at h;cases h
   | some r1=>
   have f1:=hF E.toks i hT.last hi
   rw [e1] at h f1
   rw [hR σ i true r1 hm hi e1,Option.bind_some]
   cases r1 with
   | error k=>cases h;exact body_stop (hm.stop9 k)
   | ok xj=>
   obtain ⟨xs,j⟩:=xj
   simp only [andThen] at h
   cases e2:pBody P E.toks n j with
   | none=>rw [e2] at h;cases h
   | some r2=>
   rw [e2] at h
   simp only [end0]
   rw [ih σ j r2 hm hd f1.2 e2]
   cases r2 with
   | error k=>cases h;rfl
   | ok xj=>obtain ⟨xu,j2⟩:=xj;cases h;rfl
theorem source_rel (hT:TokOK E) (m:Nat) {σ:St} {r:Except Nat ((List (Tok×Bool)×Sx)×Nat)} (hm:E.mode=0) (hf:σ.fault=0) (hok:OkS σ) (hd:σ.dead=false) (h:pSource (m+1) E.toks=some r):sourceM (m+1) E σ=some (end0 E (startS E σ) r).2:=by
 have hs:M0 E (startS E σ):=⟨hm,hf,by simp [startS],hok.2⟩
 unfold sourceM
 rw [if_neg (by simp [hm])]
 unfold pSource at h
 have hi:=hT.last.1
 simp only [Nat.add_sub_cancel] at h
 cases e1:pDecls E.toks (m+1) m 0 with
 | none=>rw [e1] at h;cases h
 | some r1=>
 have f1:=decls_fwd hT.last (m+1) m 0 hi
 rw [e1] at h f1
 rw [decls_rel hT (m+1) m _ 0 r1 hs hi e1,Option.bind_some]
 cases r1 with
 | error k=>cases h;exact body_stop (hs.stop9 k)
 | ok xj=>
 obtain ⟨xl,j⟩:=xj
 simp only [andThen] at h
 cases e2:pBody (pSB (m+1)).1 E.toks m j with
 | none=>rw [e2] at h;cases h
 | some r2=>
 rw [e2] at h
 simp only [end0]
 rw [body_rel hT (SB_rel hT (m+1)).1 (pSB_fwd (m+1)).1 m _ j r2 hs hd f1.2 e2]
 cases r2 with
 | error k=>cases h;rfl
 | ok xj=>obtain ⟨xu,j2⟩:=xj;cases h;rfl
end
end Go.Proofs.YthmmgiaobakilaaGreat

set_option maxRecDepth 100000
namespace Go.Proofs.YthmmgiaobakilaaGreat
open Go.RowKit Go.Deep
abbrev VR:=Int×Bool×St
def wrongT (σ:St) (t:Tok) (e:Int):St:=if σ.fault=0∨t.place < σ.place then { σ with fault:=e,place:=t.place } else σ
def usedKT (σ:St) (t:Tok):Int:=findN σ.cells t.text
def usedT (E:Env) (σ:St) (t:Tok):St:=if (E.mode==1)&&decide (usedKT σ t < 0) then wrongT σ t 10 else σ
def flowT (E:Env) (σ:St) (t:Tok) (b:Bool):St:=if (E.mode==2)&&b then wrongT σ t 11 else σ
def namedT (E:Env) (σ:St) (t:Tok) (live:Bool):VR:=
 if t.kind==2 then (t.num,false,stepS E σ live)
 else if E.mode==0 then (0,false,stepS E σ live)
 else if usedKT (stepS E σ live) t < 0 then (0,false,usedT E (stepS E σ live) t)
 else (if stepB E σ live then (cellOf (usedT E (stepS E σ live) t) (usedKT (stepS E σ live) t)).val else 0,(cellOf (usedT E (stepS E σ live) t) (usedKT (stepS E σ live) t)).hid,usedT E (stepS E σ live) t)
def okV (r:VR):Option VR:=if OkS r.2.2∧In32 r.1 then some r else none
def texT (E:Env) (t:Tok) (live hid:Bool) (a b:VR):Option VR:=
 if livesB E (flowT E b.2.2 t (a.2.1||b.2.1)) live then
  (if 1≤E.sw∧E.sw≤6∧1≤E.sh∧E.sh≤6∧0≤placeR E a.1 b.1∧placeR E a.1 b.1 < E.opens.length∧placeR E a.1 b.1 < E.hids.length then
   okV ((if hid then E.hids else E.opens).getD (placeR E a.1 b.1).toNat 0,hid,touchS (flowT E b.2.2 t (a.2.1||b.2.1)) (truthV hid) (placeR E a.1 b.1))
  else none)
 else okV (0,hid||a.2.1||b.2.1,flowT E b.2.2 t (a.2.1||b.2.1))
def txt (t:Tok) (s:ByteArray):Bool:=t.text.toList==s.toList
def negT (a:VR):Option VR:=okV (wrapV (-a.1),a.2.1,a.2.2)
def bothT (t:Tok) (a b:VR):Option VR:=if In32 a.1∧In32 b.1 then okV (doesV t.text a.1 b.1,a.2.1||b.2.1,b.2.2) else none
def binT (t:Tok) (a b:VR):Option VR:=some (doesV t.text a.1 b.1,a.2.1||b.2.1,b.2.2)
def selT (a b c:VR):Option VR:=if a.1=0 then okV (c.1,a.2.1||b.2.1||c.2.1,c.2.2) else okV (b.1,a.2.1||b.2.1||c.2.1,c.2.2)
def twoT (E:Env) (live:Bool) (t:Tok) (A B:St→Option VR) (σ:St):Option VR:=
 if txt t sPEEK then (A (stepS E σ live)).bind fun a=>(B a.2.2).bind fun b=>texT E t live false a b else
 if txt t sSPY then (A (stepS E σ live)).bind fun a=>(B a.2.2).bind fun b=>texT E t live true a b else
 if txt t sMIN then (A (stepS E σ live)).bind fun a=>(B a.2.2).bind fun b=>bothT t a b else
 if txt t sMAX then (A (stepS E σ live)).bind fun a=>(B a.2.2).bind fun b=>bothT t a b else
 (A σ).bind fun a=>(B (stepS E a.2.2 live)).bind fun b=>binT t a b
def headF (E:Env) (live:Bool) (t:Tok) (ks:List (St→Option VR)) (σ:St):Option VR:=
 if (t.kind==2)||(t.kind==1) then okV (namedT E σ t live) else
 match ks with
 | [A]=>(A (stepS E σ live)).bind negT
 | [A,B]=>twoT E live t A B σ
 | [A,B,C]=>(A (stepS E σ live)).bind fun a=>(B a.2.2).bind fun b=>(C b.2.2).bind fun c=>selT a b c
 | _=>none
def evs (E:Env) (live:Bool):Ex→List (St→Option VR)
 | .nil=>[]
 | .node _ _ t k r=>headF E live t (evs E live k)::evs E live r
def wkX (E:Env) (live:Bool) (e:Ex) (σ:St):Option VR:=match e with
 | .nil=>none
 | .node _ _ t k _=>headF E live t (evs E live k) σ
def isN:Ex→Prop
 | .nil=>False
 | .node _ _ _ _ _=>True
section
variable {E:Env} {live:Bool}
theorem evs_nil:evs E live .nil=[]:=rfl
theorem evs_beside {a:Ex} (ha:isN a) (r:Ex):evs E live (besideE a r)=wkX E live a::evs E live r:=by
 cases a with
 | nil=>cases ha
 | node b o t k r'=>rfl
theorem wkX_leaf (t:Tok) (h:((t.kind==2)||(t.kind==1))=true) (σ:St):wkX E live (leafE t) σ=okV (namedT E σ t live):=by
 show headF E live t (evs E live .nil) σ=_
 unfold headF
 rw [if_pos h]
theorem wkX_one (t:Tok) (h:((t.kind==2)||(t.kind==1))=false) {a:Ex} (ha:isN a) (σ:St):wkX E live (node1 t a) σ=(wkX E live a (stepS E σ live)).bind negT:=by
 show headF E live t (evs E live (besideE a .nil)) σ=_
 rw [evs_beside ha,evs_nil]
 unfold headF
 rw [if_neg (by rw [h];simp)]
theorem wkX_two (t:Tok) (h:((t.kind==2)||(t.kind==1))=false) {a b:Ex} (ha:isN a) (hb:isN b) (σ:St):wkX E live (node2 t a b) σ=twoT E live t (wkX E live a) (wkX E live b) σ:=by
 show headF E live t (evs E live (besideE a (besideE b .nil))) σ=_
 rw [evs_beside ha,evs_beside hb,evs_nil]
 unfold headF
 rw [if_neg (by rw [h];simp)]
theorem wkX_three (t:Tok) (h:((t.kind==2)||(t.kind==1))=false) {a b c:Ex} (ha:isN a) (hb:isN b) (hc:isN c) (σ:St):wkX E live (node3 t a b c) σ=(wkX E live a (stepS E σ live)).bind fun x=>(wkX E live b x.2.2).bind fun y=>(wkX E live c y.2.2).bind fun z=>selT x y z:=by
 show headF E live t (evs E live (besideE a (besideE b (besideE c .nil)))) σ=_
 rw [evs_beside ha,evs_beside hb,evs_beside hc,evs_nil]
 unfold headF
 rw [if_neg (by rw [h];simp)]
end
end Go.Proofs.YthmmgiaobakilaaGreat
