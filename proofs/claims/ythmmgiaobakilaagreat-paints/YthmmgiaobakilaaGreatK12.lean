import Derived.Test.YthmmgiaobakilaaGreatK03
import Derived.Test.YthmmgiaobakilaaGreatK10
import Derived.Test.YthmmgiaobakilaaGreatK11
import Derived.Deep.RegionWith
import Derived.Deep.LoopGhost
set_option maxRecDepth 100000
namespace Go.Proofs.YthmmgiaobakilaaGreat
open Go.RowKit Go.Deep
abbrev Flt:=Int×Int
def noteF (F:Flt) (e p:Int):Flt:=if F.1=0 then (e,p) else F
def nmT (t:Tok):Bool:=(kP t==2) && !kwsP.any (fun u=>(wP t).toList==u.toList)
def nxH (R:ByteArray→Int) (t:Tok) (F:Flt):Flt:=if nmT t&&(R (wP t)==0) then noteF F 10 t.place else F
def nxE (R:ByteArray→Int):Ex→Flt→Flt
 | .nil,F=>F
 | .node _ _ t k r,F=>nxE R r (nxE R k (nxH R t F))
def nx1 (R:ByteArray→Int):Ex→Flt→Flt
 | .nil,F=>F
 | .node _ _ t k _,F=>nxE R k (nxH R t F)
abbrev NSt:=(ByteArray→Int)×Flt
def nbr (σ:NSt) (t:Tok) (c:Int):NSt:=(updR σ.1 (wP t) c,if decide (6 < (wP t).size)||(σ.1 (wP t) != 0) then noteF σ.2 10 t.place else σ.2)
def nxN (a b:Tok) (σ:NSt):NSt:=(σ.1,if decide (nP b < nP a)||decide (20 < nP b) then noteF σ.2 10 a.place else σ.2)
def nxS:Sx→NSt→NSt
 | .nil,σ=>σ
 | .node _ _ p k r,σ=>nxS r (
  if p.tag=0 then (σ.1,nx1 σ.1 p.e (if σ.1 (wP p.t) != 1 then noteF σ.2 10 p.t.place else σ.2)) else
  if p.tag=1 then (match k with
   | .nil=>σ
   | .node _ _ _ s u=>nxS u (nxS s (σ.1,nx1 σ.1 p.e σ.2))) else
  if p.tag=2 then (fun τ:NSt=>(updR τ.1 (wP p.t) 0,τ.2)) (nxS k (nxN p.a p.b (nbr σ p.t 2))) else
  (σ.1,nx1 σ.1 p.e σ.2))
theorem nxS_0 {b o:Nat} {p:SP} {k r:Sx} {σ:NSt} (h:p.tag=0):nxS (.node b o p k r) σ=nxS r (σ.1,nx1 σ.1 p.e (if σ.1 (wP p.t) != 1 then noteF σ.2 10 p.t.place else σ.2)):=by
 cases k <;> (show nxS r (if p.tag=0 then _ else _)=_;rw [if_pos h])
theorem nxS_1 {b o b1 o1:Nat} {p q:SP} {s u r:Sx} {σ:NSt} (h:p.tag=1):nxS (.node b o p (.node b1 o1 q s u) r) σ=nxS r (nxS u (nxS s (σ.1,nx1 σ.1 p.e σ.2))):=by
 show nxS r (if p.tag=0 then _ else if p.tag=1 then _ else _)=_
 rw [if_neg (by omega),if_pos h]
theorem nxS_2 {b o:Nat} {p:SP} {k r:Sx} {σ:NSt} (h:p.tag=2):nxS (.node b o p k r) σ=nxS r ((fun τ:NSt=>(updR τ.1 (wP p.t) 0,τ.2)) (nxS k (nxN p.a p.b (nbr σ p.t 2)))):=by
 cases k <;> (show nxS r (if p.tag=0 then _ else if p.tag=1 then _ else if p.tag=2 then _ else _)=_;rw [if_neg (by omega),if_neg (by omega),if_pos h])
theorem nxS_3 {b o:Nat} {p:SP} {k r:Sx} {σ:NSt} (h:p.tag=3∨p.tag=4):nxS (.node b o p k r) σ=nxS r (σ.1,nx1 σ.1 p.e σ.2):=by
 cases k <;> (show nxS r (if p.tag=0 then _ else if p.tag=1 then _ else if p.tag=2 then _ else _)=_;rw [if_neg (by omega),if_neg (by omega),if_neg (by omega)])
def TokB (t:Tok):Prop:=(wP t).size≤300∧0≤nP t∧nP t≤65536
structure NcAt (w:World) (cb mb n:Nat) (R:ByteArray→Int) (F:Flt):Prop where
 blk:w.heap[cb]?=some (.cells #[.map (some mb),.int .i64 F.1,.int .i64 F.2] 158 (0,0))
 map:MapIs 155 .i64 w mb n R
theorem NcAt.ne {w:World} {cb mb n:Nat} {R:ByteArray→Int} {F:Flt} (h:NcAt w cb mb n R F):cb≠mb:=fun e=>by
 obtain ⟨es,c,hb⟩:=h.map.obj
 rw [←e,h.blk] at hb
 cases hb
theorem NcAt.lt {w:World} {cb mb n:Nat} {R:ByteArray→Int} {F:Flt} (h:NcAt w cb mb n R F):cb < w.heap.size:=(Array.getElem?_eq_some_iff.1 h.blk).1
theorem NcAt.later {w w':World} {cb mb n:Nat} {R:ByteArray→Int} {F:Flt} (h:NcAt w cb mb n R F) (h1:w'.heap[cb]?=w.heap[cb]?) (h2:w'.heap[mb]?=w.heap[mb]?):NcAt w' cb mb n R F:=⟨h1.trans h.blk,h.map.later h2⟩
theorem NcAt.below {w w':World} {cb mb n:Nat} {R:ByteArray→Int} {F:Flt} (h:NcAt w cb mb n R F) (hb:Below w.heap.size w w'):NcAt w' cb mb n R F:=h.later (hb.block _ h.lt) (hb.block _ h.map.lt)
theorem zeroRole (w:World):(zeroValue 155).run Tryz.prog w = .ok (.int .i64 0) w:=by kernel_rfl
theorem NcAt.look {w:World} {cb mb n:Nat} {R:ByteArray→Int} {F:Flt} (h:NcAt w cb mb n R F) {s:ByteArray} (hs:s.size≤300):(Instr.lookup 156 (.map (some mb)) (.string s) false).run Tryz.prog w = .ok (.int .i64 (R s)) w:=
 h.map.look Tryz.underlying156 Tryz.underlying155 (zeroRole w) (by unfold maxLen;omega)
set_option maxHeartbeats 1000000 in
theorem note_gen (w:World) (b k:Nat) (f pl er at_:Int) (c1:w.cell? ⟨b,k,none⟩=some (.int .i64 f)) (c2:w.cell? ⟨b,k+1,none⟩=some (.int .i64 pl)) (z1:w.frozen? ⟨b,k,none⟩=false) (z2:w.frozen? ⟨b,k+1,none⟩=false) :
  Calls Tryz.prog 117 #[.pointer (some ⟨b,k,none⟩),.int .i64 er,.int .i64 at_] w fun e w'=>e = .returned (.tuple #[])∧w'=if f=0 then (w.setCell ⟨b,k,none⟩ (.int .i64 er)).setCell ⟨b,k+1,none⟩ (.int .i64 at_) else w:=by
 by_cases hf:f=0
 ·rw [if_pos hf]
  go_enter Tryz.func117,Tryz.ntmps117
  go_wp2
  go_end0
  exact ⟨rfl,rfl⟩
 ·rw [if_neg hf]
  go_enter Tryz.func117,Tryz.ntmps117
  go_wp2
  go_end0
  exact ⟨rfl,rfl⟩
theorem nnote_any (w:World) (cb mb n:Nat) (R:ByteArray→Int) (F:Flt) (er at_:Int) (h:NcAt w cb mb n R F) :
  Calls Tryz.prog 117 #[.pointer (some ⟨cb,1,none⟩),.int .i64 er,.int .i64 at_] w fun e w'=>e = .returned (.tuple #[])∧NcAt w' cb mb n R (noteF F er at_)∧Kept cb w w':=by
 obtain ⟨⟨c0,c1,c2⟩,z0,z1,z2⟩:=bk3 h.blk
 refine (note_gen w cb 1 F.1 F.2 er at_ c1 c2 z1 z2).mono ?_
 rintro e w' ⟨he,rfl⟩
 refine ⟨he,?_⟩
 unfold noteF
 split
 ·refine ⟨⟨?_,?_⟩,(Kept.set cb w 1 _).trans (Kept.set cb _ 2 _)⟩
  ·exact heap_setCell_same _ cb 2 _ _ _ (heap_setCell_same _ cb 1 _ _ _ h.blk)
  ·exact (h.map.later (Below.heap_setCell _ _ _ _ (fun e=>h.ne e.symm))).later (Below.heap_setCell _ _ _ _ (fun e=>h.ne e.symm))
 ·exact ⟨h,Kept.refl _ _⟩
def wdT (t:Tok) (l:List ByteArray):Bool:=(kP t==2)&&l.any (fun u=>(wP t).toList==u.toList)
def hidH (H:List ByteArray) (t:Tok):Bool:=wdT t [sSPY]||wdT t H
def hidE (H:List ByteArray):Ex→Bool
 | .nil=>false
 | .node _ _ t k r=>(hidH H t||hidE H k)||hidE H r
def hid1 (H:List ByteArray):Ex→Bool
 | .nil=>false
 | .node _ _ t k _=>hidH H t||hidE H k
def tcH (H:List ByteArray) (t:Tok) (k:Ex) (F:Flt):Flt:=if wdT t [sPEEK,sSPY]&&hidE H k then noteF F 11 t.place else F
def tcE (H:List ByteArray):Ex→Flt→Flt
 | .nil,F=>F
 | .node _ _ t k r,F=>tcE H r (tcE H k (tcH H t k F))
def tc1 (H:List ByteArray):Ex→Flt→Flt
 | .nil,F=>F
 | .node _ _ t k _,F=>tcE H k (tcH H t k F)
def ldF (H:List ByteArray) (t:Tok) (e:Ex) (may:Bool) (F:Flt):Flt:=tc1 H e (if !may&&hid1 H e then noteF F 11 t.place else F)
def flS (H:List ByteArray):Sx→Flt→Flt
 | .nil,F=>F
 | .node _ _ p k r,F=>flS H r (
  if p.tag=0 then ldF H p.t p.e (wdT p.t H) F else
  if p.tag=1 then (match k with
   | .nil=>F
   | .node _ _ _ s u=>flS H u (flS H s (ldF H p.t p.e false F))) else
  if p.tag=2 then flS H k F else
  ldF H p.t p.e (wdT p.t [sHIDE]) F)
theorem flS_0 {H:List ByteArray} {b o:Nat} {p:SP} {k r:Sx} {F:Flt} (h:p.tag=0):flS H (.node b o p k r) F=flS H r (ldF H p.t p.e (wdT p.t H) F):=by
 cases k <;> (show flS H r (if p.tag=0 then _ else _)=_;rw [if_pos h])
theorem flS_1 {H:List ByteArray} {b o b1 o1:Nat} {p q:SP} {s u r:Sx} {F:Flt} (h:p.tag=1):flS H (.node b o p (.node b1 o1 q s u) r) F=flS H r (flS H u (flS H s (ldF H p.t p.e false F))):=by
 show flS H r (if p.tag=0 then _ else if p.tag=1 then _ else _)=_
 rw [if_neg (by omega),if_pos h]
theorem flS_2 {H:List ByteArray} {b o:Nat} {p:SP} {k r:Sx} {F:Flt} (h:p.tag=2):flS H (.node b o p k r) F=flS H r (flS H k F):=by
 cases k <;> (show flS H r (if p.tag=0 then _ else if p.tag=1 then _ else if p.tag=2 then _ else _)=_;rw [if_neg (by omega),if_neg (by omega),if_pos h])
theorem flS_3 {H:List ByteArray} {b o:Nat} {p:SP} {k r:Sx} {F:Flt} (h:p.tag=3∨p.tag=4):flS H (.node b o p k r) F=flS H r (ldF H p.t p.e (wdT p.t [sHIDE]) F):=by
 cases k <;> (show flS H r (if p.tag=0 then _ else if p.tag=1 then _ else if p.tag=2 then _ else _)=_;rw [if_neg (by omega),if_neg (by omega),if_neg (by omega)])
def StrsA (w:World) (ao:Option Addr) (l:List ByteArray):Prop:=l=[]∨∃b off,ao=some ⟨b,off,none⟩∧StrsIn w b off l
theorem StrsA.later {w w':World} {ao:Option Addr} {l:List ByteArray} (h:StrsA w ao l) (hs:∀k,k < w.heap.size→(∀b,ao.map (·.block)=some b→k=b→w'.heap[k]?=w.heap[k]?)):StrsA w' ao l:=by
 rcases h with h | ⟨b,off,rfl,hc⟩
 ·exact .inl h
 ·refine .inr ⟨b,off,rfl,fun j hj=>?_⟩
  have h0:=hc j hj
  have hb:=World.block_lt_of_cell? _ _ h0
  have e:=hs b hb b rfl rfl
  simp only [World.cell?] at h0 ⊢
  rw [e]
  exact h0
structure FcAt (w:World) (cb:Nat) (ho:Option Addr) (hc:Nat) (H:List ByteArray) (F:Flt):Prop where
 blk:w.heap[cb]?=some (.cells #[.slice ho H.length hc,.int .i64 F.1,.int .i64 F.2] 163 (0,0))
 strs:StrsA w ho H
 off:ho.map (·.block)≠some cb
 few:H.length≤1000
section
variable {w w':World} {cb hc:Nat} {ho:Option Addr} {H:List ByteArray} {F:Flt}
theorem FcAt.lt (h:FcAt w cb ho hc H F):cb < w.heap.size:=(Array.getElem?_eq_some_iff.1 h.blk).1
theorem FcAt.later (h:FcAt w cb ho hc H F) (hs:∀k,k < w.heap.size→w'.heap[k]?=w.heap[k]?):FcAt w' cb ho hc H F:=⟨(hs cb h.lt).trans h.blk,h.strs.later (fun k hk _ _ _=>hs k hk),h.off,h.few⟩
theorem FcAt.below (h:FcAt w cb ho hc H F) (hb:Below w.heap.size w w'):FcAt w' cb ho hc H F:=h.later (fun k hk=>hb.block k hk)
end
theorem fnote_any (w:World) (cb hc:Nat) (ho:Option Addr) (H:List ByteArray) (F:Flt) (er at_:Int) (h:FcAt w cb ho hc H F) :
  Calls Tryz.prog 117 #[.pointer (some ⟨cb,1,none⟩),.int .i64 er,.int .i64 at_] w fun e w'=>e = .returned (.tuple #[])∧FcAt w' cb ho hc H (noteF F er at_)∧Kept cb w w':=by
 obtain ⟨⟨c0,c1,c2⟩,z0,z1,z2⟩:=bk3 h.blk
 refine (note_gen w cb 1 F.1 F.2 er at_ c1 c2 z1 z2).mono ?_
 rintro e w' ⟨he,rfl⟩
 refine ⟨he,?_⟩
 unfold noteF
 split
 ·refine ⟨⟨?_,?_,h.off,h.few⟩,(Kept.set cb w 1 _).trans (Kept.set cb _ 2 _)⟩
  ·exact heap_setCell_same _ cb 2 _ _ _ (heap_setCell_same _ cb 1 _ _ _ h.blk)
  ·refine h.strs.later (fun k hk b hb e=>?_)
   have hne:k≠cb:=fun e2=>h.off (by rw [hb,←e,e2])
   exact (Below.heap_setCell _ _ _ _ hne).trans (Below.heap_setCell _ _ _ _ hne)
 ·exact ⟨h,Kept.refl _ _⟩
set_option maxHeartbeats 2000000 in
theorem sindex_nil (w:World) (ao:Option Addr) (c:Nat) (v:ByteArray) :
  Calls Tryz.prog 128 #[.slice ao 0 c,Value.string v] w fun e w'=>e = .returned (.int .i64 (-1))∧w'=w:=by
 go_enter Tryz.func128,Tryz.ntmps128
 go_wp2
 go_loop [8] (fun i=>i = .int .i64 0) (fun _=>0)
 case atStart=>rfl
 case round=>
  subst hrel
  go_wp2
  go_ret
  exact ⟨rfl,rfl⟩
set_option maxHeartbeats 2000000 in
theorem scontains_nil (w:World) (ao:Option Addr) (c:Nat) (v:ByteArray) :
  Calls Tryz.prog 107 #[.slice ao 0 c,Value.string v] w fun e w'=>e = .returned (.bool false)∧w'=w:=by
 go_enter Tryz.func107,Tryz.ntmps107
 go_wp2_with fail
 refine (sindex_nil w ao c v).mono ?_
 rintro e w1 ⟨rfl,rfl⟩
 go_wp2
 go_ret
 exact ⟨rfl,rfl⟩
set_option maxHeartbeats 1000000 in
theorem isWord_nil (w:World) (k p n s:Int) (wd:ByteArray) (ao:Option Addr) (c:Nat) :
  Calls Tryz.prog 86 #[tkV k p wd n s,.slice ao 0 c] w fun e w'=>e = .returned (.bool false)∧Below w.heap.size w w':=by
 unfold tkV
 cases hk:(k==2)
 ·go_enter Tryz.func86,Tryz.ntmps86
  go_wp2
  go_ret
  exact ⟨rfl,(Below.refl _ w).alloc (Nat.le_refl _) _⟩
 ·go_enter Tryz.func86,Tryz.ntmps86
  go_wp2_with fail
  refine (scontains_nil _ ao c wd).mono ?_
  rintro e w1 ⟨rfl,hw⟩
  have hb:Below w.heap.size w w1:=by rw [hw];exact (Below.refl _ w).alloc (Nat.le_refl _) _
  clear hw
  go_wp2
  go_ret
  exact ⟨rfl,hb⟩
theorem isWord_gen (w:World) (t:Tok) (ao:Option Addr) (c:Nat) (l:List ByteArray) (hs:StrsA w ao l) (hl:l.length≤1000) :
  Calls Tryz.prog 86 #[tkV (kP t) t.place (wP t) (nP t) (sP t),.slice ao l.length c] w fun e w'=>e = .returned (.bool (wdT t l))∧Below w.heap.size w w':=by
 rcases hs with rfl | ⟨b,off,rfl,hc⟩
 ·refine (isWord_nil w (kP t) t.place (nP t) (sP t) (wP t) ao c).mono ?_
  rintro e w' ⟨rfl,hb⟩
  exact ⟨by unfold wdT;simp,hb⟩
 ·exact isWord_any w (kP t) t.place (nP t) (sP t) (wP t) b off c l hc hl
end Go.Proofs.YthmmgiaobakilaaGreat

set_option maxRecDepth 100000
namespace Go.Proofs.YthmmgiaobakilaaGreat
open Go.RowKit Go.Deep
def RepFa (w:World) (Q:Nat→Prop) (rest:Ex) (ao:Option Addr) (i:Nat):Prop:=rest = .nil∨∃g,ao=some ⟨g,0,none⟩∧Q g∧RepF w Q rest g i
theorem RepK.a {w:World} {Q:Nat→Prop} {sv:Value} {k:Ex} (h:RepK w Q sv k):∃ao c,sv = .slice ao (lenE k) c∧RepFa w Q k ao 0:=by
 rcases h with ⟨rfl,ao,c,rfl⟩ | ⟨_,g,c,rfl,hg,hf⟩
 ·exact ⟨ao,c,rfl,.inl rfl⟩
 ·exact ⟨_,c,rfl,.inr ⟨g,rfl,hg,hf⟩⟩
theorem RepFa.later {w w':World} {Q:Nat→Prop} (hk:Stay Q w w') {rest:Ex} {ao:Option Addr} {i:Nat} (h:RepFa w Q rest ao i):RepFa w' Q rest ao i:=by
 rcases h with h | ⟨g,e,hg,hf⟩
 ·exact .inl h
 ·exact .inr ⟨g,e,hg,RepF.later hk (fun j hj _=>hj) rest g i hg hf⟩
theorem lenE_le (e:Ex):lenE e≤szE e:=by
 induction e with
 | nil=>exact Nat.le_refl _
 | node b o t k r ihk ihr=>simp only [lenE,szE];omega
def RepSa (w:World) (Q:Nat→Prop) (rest:Sx) (ao:Option Addr) (i:Nat):Prop:=rest = .nil∨∃g,ao=some ⟨g,0,none⟩∧Q g∧RepS w Q rest g i
theorem RepL.a {w:World} {Q:Nat→Prop} {sv:Value} {k:Sx} (h:RepL w Q sv k):∃ao c,sv = .slice ao (lenS k) c∧RepSa w Q k ao 0:=by
 rcases h with ⟨rfl,ao,c,rfl⟩ | ⟨_,g,c,rfl,hg,hf⟩
 ·exact ⟨ao,c,rfl,.inl rfl⟩
 ·exact ⟨_,c,rfl,.inr ⟨g,rfl,hg,hf⟩⟩
theorem lenS_le (e:Sx):lenS e≤szS e:=by
 induction e with
 | nil=>exact Nat.le_refl _
 | node b o t k r ihk ihr=>simp only [lenS,szS];omega
def HidOK (m:Nat):Prop:=∀(e:Ex) (w:World) (cb hc:Nat) (ho:Option Addr) (H:List ByteArray) (F:Flt) (Q:Nat→Prop) (v:Value),szE e≤m→FcAt w cb ho hc H F→RepV w Q v e →
 Calls Tryz.prog 133 #[.pointer (some ⟨cb,0,none⟩),v] w fun r w'=>r = .returned (.bool (hid1 H e))∧Below w.heap.size w w'
set_option maxHeartbeats 8000000 in
theorem fidx_any {m:Nat} (ih:HidOK m) (k:Ex) (w:World) (cb hc c:Nat) (ho ao:Option Addr) (H:List ByteArray) (F:Flt) (Q:Nat→Prop) (hsz:szE k≤m) (hm:m≤100000) (h:FcAt w cb ho hc H F) (rep:RepFa w Q k ao 0) :
  Calls Tryz.prog 145 #[.slice ao (lenE k) c,.func (.func 133) #[.pointer (some ⟨cb,0,none⟩)] #[]] w fun r w'=>(∃i:Int,r = .returned (.int .i64 i)∧decide (0≤i)=hidE H k)∧Below w.heap.size w w':=by
 have hlen:lenE k≤100000:=by have:=lenE_le k;omega
 go_enter Tryz.func145,Tryz.ntmps145
 go_wp2
 go_loopg [8] (lenE k) (fun q v wr=>∃rest,v = .int .i64 ((lenE k-q:Nat):Int)∧q≤lenE k∧lenE rest=q∧szE rest≤szE k∧FcAt wr cb ho hc H F∧Below w.heap.size w wr∧hidE H rest=hidE H k∧RepFa wr Q rest ao (lenE k-q))
 case atStart=>exact ⟨k,by rw [Nat.sub_self];rfl,Nat.le_refl _,rfl,Nat.le_refl _,h,Below.refl _ _,rfl,by rw [Nat.sub_self];exact rep⟩
 case round=>
 clear h rep
 obtain ⟨rest,rfl,hq,hlr,hsr,hfc,kw,hfold,hrep⟩:=hrel
 cases rest with
 | nil=>
  have hq0:gk=0:=by rw [←hlr];rfl
  subst hq0
  have hge:decide (((lenE k-0:Nat):Int) < (lenE k:Int))=false:=by simp
  have HF:=hide hfold
  clear hfold
  go_wp2
  go_ret
  exact ⟨⟨-1,rfl,by rw [←unhide HF];simp [hidE]⟩,kw⟩
 | node b1 o1 t1 k1 r1=>
  have hl1:lenE r1+1=gk:=hlr
  obtain ⟨d,hd⟩:∃d,d+gk=lenE k:=⟨lenE k-gk,by omega⟩
  have hnd:lenE k-gk=d:=by omega
  rw [hnd] at hrep ⊢
  have hlt:decide ((d:Int) < (lenE k:Int))=true:=by simp;omega
  rcases hrep with hn | ⟨g,rfl,hg,hrf⟩
  ·cases hn
  obtain ⟨⟨sv1,hcells,hkids⟩,hrest⟩:=hrf
  obtain ⟨x0,x1,x2,x3,x4,x5⟩:=hcells
  have hv1:RepV wr Q (exV t1 sv1) (.node b1 o1 t1 k1 r1):=⟨b1,o1,t1,k1,r1,sv1,rfl,rfl,hkids⟩
  obtain ⟨so1,sc1,hsv1⟩:=RepK.form hkids
  subst hsv1
  have hsz1:szE (.node b1 o1 t1 k1 r1)≤m:=by omega
  have hgw:g < wr.heap.size:=World.block_lt_of_cell? _ _ x0
  have HF:=hide hfold
  clear hkids hfold
  go_wp2_with fail
  refine (ih (.node b1 o1 t1 k1 r1) wr cb hc ho H F Q (exV t1 (.slice so1 (lenE k1) sc1)) hsz1 hfc hv1).mono ?_
  rintro e w3 ⟨rfl,B3⟩
  have K3:=kw.trans (B3.mono kw.size)
  have f3:=hfc.below B3
  have hr3:RepFa w3 Q r1 (some ⟨g,0,none⟩) (d+1):=.inr ⟨g,rfl,hg,RepF.later (fun j hj hl=>B3.block j hl) (fun j hj _=>hj) r1 g (d+1) hg hrest⟩
  clear hv1 hrest B3 hfc kw
  cases hh:hid1 H (.node b1 o1 t1 k1 r1)
  ·go_wp2
   go_roundg (lenE r1)
   case rel=>
    refine ⟨r1,by congr 1;omega,by omega,rfl,by simp [szE] at hsr;omega,f3,K3,?_,by rw [show lenE k-lenE r1=d+1 by omega];exact hr3⟩
    have:=unhide HF
    have hh:(hidH H t1||hidE H k1)=false:=hh
    have this:((hidH H t1||hidE H k1)||hidE H r1)=hidE H k:=this
    rw [hh,Bool.false_or] at this
    exact this
   case measure=>omega
  ·have hk:hidE H k=true:=by
    have:=unhide HF
    have hh:(hidH H t1||hidE H k1)=true:=hh
    have this:((hidH H t1||hidE H k1)||hidE H r1)=hidE H k:=this
    rw [hh,Bool.true_or] at this
    exact this.symm
   go_wp2
   go_ret
   exact ⟨⟨(d:Int),rfl,by rw [hk];simp⟩,K3⟩
set_option maxHeartbeats 4000000 in
theorem fcont_any {m:Nat} (ih:HidOK m) (k:Ex) (w:World) (cb hc c:Nat) (ho ao:Option Addr) (H:List ByteArray) (F:Flt) (Q:Nat→Prop) (hsz:szE k≤m) (hm:m≤100000) (h:FcAt w cb ho hc H F) (rep:RepFa w Q k ao 0) :
  Calls Tryz.prog 142 #[.slice ao (lenE k) c,.func (.func 133) #[.pointer (some ⟨cb,0,none⟩)] #[]] w fun r w'=>r = .returned (.bool (hidE H k))∧Below w.heap.size w w':=by
 go_enter Tryz.func142,Tryz.ntmps142
 go_wp2_with fail
 refine (fidx_any ih k w cb hc c ho ao H F Q hsz hm h rep).mono ?_
 rintro e w1 ⟨⟨n,rfl,hn⟩,hb⟩
 have HN:=hide hn
 clear hn
 go_wp2
 go_ret
 exact ⟨ret_bool (unhide HN),hb⟩
theorem strs_A (w:World) (l:List ByteArray):StrsA (w.alloc (.cells (l.map Value.string).toArray 9)) (some ⟨w.heap.size,0,none⟩) l:=.inr ⟨_,_,rfl,strs_new w l⟩
set_option maxHeartbeats 16000000 in
theorem fhid_step {m:Nat} (hm:m≤100000) (ih:HidOK m):HidOK (m+1):=by
 intro e w cb hc ho H F Q v hsz h hv
 obtain ⟨b,o,t,k,r,sv,rfl,rfl,hk⟩:=hv
 obtain ⟨ao,c,rfl,rep⟩:=hk.a
 clear hk
 have hszk:szE k≤m:=by simp [szE] at hsz;omega
 have hlt:=h.lt
 obtain ⟨w1,hw1⟩:∃w1,w.alloc (.cells #[.int .i64 (kP t),.int .i64 t.place,.string (wP t),.int .i32 (nP t),.int .i32 (sP t),.slice ao (lenE k) c] 119)=w1:=⟨_,rfl⟩
 have s1:w1.heap[w.heap.size]?=some (.cells #[.int .i64 (kP t),.int .i64 t.place,.string (wP t),.int .i32 (nP t),.int .i32 (sP t),.slice ao (lenE k) c] 119 (0,0)):=by rw [←hw1];exact heap_alloc_new w _
 have f1:FcAt w1 cb ho hc H F:=by rw [←hw1];exact h.later (fun j hj=>Below.heap_alloc w _ j hj)
 have B1:Below w.heap.size w w1:=by rw [←hw1];exact (Below.refl _ w).alloc (Nat.le_refl _) _
 have rep1:RepFa w1 Q k ao 0:=by rw [←hw1];exact rep.later (fun j _ hl=>Below.heap_alloc w _ j hl)
 have lt1:w.heap.size < w1.heap.size:=(Array.getElem?_eq_some_iff.1 s1).1
 have keep:∀w2,Below w1.heap.size w1 w2→FcAt w2 cb ho hc H F∧w2.heap[w.heap.size]?=some (.cells #[.int .i64 (kP t),.int .i64 t.place,.string (wP t),.int .i32 (nP t),.int .i32 (sP t),.slice ao (lenE k) c] 119 (0,0))∧RepFa w2 Q k ao 0∧Below w.heap.size w w2:=fun w2 B2=>
  ⟨f1.below B2,(B2.block _ lt1).trans s1,rep1.later (fun j _ hl=>B2.block j hl),B1.trans (B2.mono B1.size)⟩
 have KP:=hide keep
 clear keep h rep
 unfold exV
 show Calls _ _ _ _ fun r w'=>r = .returned (.bool (hidH H t||hidE H k))∧Below w.heap.size w w'
 go_enter Tryz.func133,Tryz.ntmps133
 go_wp2
 clear hw1
 have d1:=(blk6 s1).1
 have c1:=(bk3 f1.blk).1
 cases h1:wdT t [sSPY]
 ·cases h2:wdT t H
  ·have eH:(hidH H t||hidE H k)=hidE H k:=by unfold hidH;rw [h1,h2];rfl
   first | (go_region_with (first
    | (go_at_call_of 86 (Value.slice ho H.length hc);refine (isWord_gen _ t ho hc H ?_ f1.few).mono ?_;exact f2.strs;rintro e w3 ⟨rfl,b3⟩;rw [h2];have B3:=B2.trans (b3.mono B2.size);have fx:=unhide KP w3 B3;obtain ⟨f3,s3,rep3,BW3⟩:=fx;have d3:=(blk6 s3).1;have c3:=(bk3 f3.blk).1)
    | (go_at_call 86;refine (isWord_gen _ t (some ⟨w1.heap.size,0,none⟩) 1 [sSPY] ?_ (by simp)).mono ?_;exact strs_A w1 [sSPY];rintro e w2 ⟨rfl,b2⟩;rw [h1];have B2:Below w1.heap.size w1 w2:=((Below.refl _ w1).alloc (Nat.le_refl _) _).drew.trans (b2.mono (by simp));have fx:=unhide KP w2 B2;obtain ⟨f2,s2,rep2,BW2⟩:=fx;have d2:=(blk6 s2).1;have c2:=(bk3 f2.blk).1)
    | (go_at_call 142;refine (fcont_any ih k _ cb hc c ho ao H F Q hszk hm f3 rep3).mono ?_;rintro e w4 ⟨rfl,b4⟩;have B4:=BW3.trans (b4.mono BW3.size)))) | fail
   all_goals go_wp2
   all_goals go_ret
   all_goals exact ⟨ret_bool eH.symm,B4⟩
  ·have eH:(hidH H t||hidE H k)=true:=by unfold hidH;rw [h1,h2];rfl
   refine wp_region_any (by kernel_rfl) ?_
   try (change wpAny _ _ _ _ _ _ _ (World.drew _))
   refine wpAny_take (i:=0) (v:=(.pointer (some ⟨w.heap.size,0,none⟩))) rfl (by kernel_rfl) (by kernel_rfl) (by kernel_rfl) (fun _ _ _ h=>h) (Or.inl ⟨by kernel_rfl,fun _=>by first | kernel_rfl | go_simp⟩) ?_
   refine wpAny_ready (rs:=[1,2]) (by kernel_rfl) (by simp) ?_
   refine AllReady.cons rfl (fun K hK=>?_) (AllReady.cons rfl (fun K hK=>?_) AllReady.nil)
   go_simp
   refine hK _ _ ?_
   clear hK K
   refine wpAny_ready (rs:=[2]) (by kernel_rfl) (by simp) ?_
   refine AllReady.cons rfl (fun K hK=>?_) AllReady.nil
   go_simp
   refine hK _ _ ?_
   clear hK K
   rotate_left
   go_simp
   refine hK _ _ ?_
   clear hK K
   refine wpAny_ready (rs:=[1]) (by kernel_rfl) (by simp) ?_
   refine AllReady.cons rfl (fun K hK=>?_) AllReady.nil
   go_simp
   refine hK _ _ ?_
   clear hK K
   all_goals
    refine wpAny_ready (rs:=[3]) (by kernel_rfl) (by simp) ?_
    refine AllReady.cons rfl (fun K hK=>?_) AllReady.nil
    go_simp
    refine (isWord_gen _ t (some ⟨w1.heap.size,0,none⟩) 1 [sSPY] ?_ (by simp)).mono ?_
    ·exact strs_A w1 [sSPY]
    rintro e w2 ⟨rfl,b2⟩
    rw [h1]
    have B2:Below w1.heap.size w1 w2:=((Below.refl _ w1).alloc (Nat.le_refl _) _).drew.trans (b2.mono (by simp))
    obtain ⟨f2,s2,rep2,BW2⟩:=unhide KP w2 B2
    have d2:=(blk6 s2).1
    have c2:=(bk3 f2.blk).1
    go_wp2_with fail
    refine wpAny_take (i:=4) (v:=(.bool false)) rfl (by kernel_rfl) (by kernel_rfl) (by kernel_rfl) (fun _ _ _ h=>h) (Or.inl ⟨by kernel_rfl,fun _=>by first | kernel_rfl | go_simp⟩) ?_
    refine wpAny_take (i:=5) (v:=(.pointer (some ⟨w.heap.size,0,none⟩))) rfl (by kernel_rfl) (by kernel_rfl) (by kernel_rfl) (fun _ _ _ h=>h) (Or.inl ⟨by kernel_rfl,fun _=>by first | kernel_rfl | go_simp⟩) ?_
    refine wpAny_take (i:=7) (v:=(.pointer (some ⟨cb,0,none⟩))) rfl (by kernel_rfl) (by kernel_rfl) (by kernel_rfl) (fun _ _ _ h=>h) (Or.inl ⟨by kernel_rfl,fun _=>by first | kernel_rfl | go_simp⟩) ?_
    refine wpAny_take (i:=8) (v:=(.pointer (some ⟨cb,0,none⟩))) rfl (by kernel_rfl) (by kernel_rfl) (by kernel_rfl) (fun _ _ _ h=>h) (Or.inl ⟨by kernel_rfl,fun _=>by first | kernel_rfl | go_simp⟩) ?_
    refine wpAny_take (i:=9) (v:=(.pointer (some ⟨cb,0,none⟩))) rfl (by kernel_rfl) (by kernel_rfl) (by kernel_rfl) (fun _ _ _ h=>h) (Or.inl ⟨by kernel_rfl,fun _=>by first | kernel_rfl | go_simp⟩) ?_
    refine wpAny_ready (rs:=[6,10]) (by kernel_rfl) (by simp) ?_
    refine AllReady.cons rfl (fun K hK=>?_) (AllReady.cons rfl (fun K hK=>?_) AllReady.nil)
    go_simp
    refine hK _ _ ?_
    clear hK K
    refine wpAny_ready (rs:=[10]) (by kernel_rfl) (by simp) ?_
    refine AllReady.cons rfl (fun K hK=>?_) AllReady.nil
    go_simp
    refine hK _ _ ?_
    clear hK K
    rotate_left
    go_simp
    refine hK _ _ ?_
    clear hK K
    refine wpAny_ready (rs:=[6]) (by kernel_rfl) (by simp) ?_
    refine AllReady.cons rfl (fun K hK=>?_) AllReady.nil
    go_simp
    refine hK _ _ ?_
    clear hK K
   all_goals
    refine wpAny_ready (rs:=[11]) (by kernel_rfl) (by simp) ?_
    refine AllReady.cons rfl (fun K hK=>?_) AllReady.nil
    go_simp
    refine (isWord_gen _ t ho hc H ?_ f1.few).mono ?_
    ·exact f2.strs
    rintro e w3 ⟨rfl,b3⟩
    rw [h2]
    have B3:=B2.trans (b3.mono B2.size)
    obtain ⟨f3,s3,rep3,BW3⟩:=unhide KP w3 B3
    have d3:=(blk6 s3).1
    have c3:=(bk3 f3.blk).1
    go_wp2_with fail
    refine wpAny_take (i:=12) (v:=(.bool true)) rfl (by kernel_rfl) (by kernel_rfl) (by kernel_rfl) (fun _ _ _ h=>h) (Or.inl ⟨by kernel_rfl,fun _=>by first | kernel_rfl | go_simp⟩) ?_
    refine wpAny_take (i:=13) (v:=(.bool true)) rfl (by kernel_rfl) (by kernel_rfl) (by kernel_rfl) (fun _ _ _ h=>h) (Or.inl ⟨by kernel_rfl,fun _=>by first | kernel_rfl | go_simp⟩) ?_
    refine wpAny_take (i:=14) (v:=undef) rfl (by kernel_rfl) (by kernel_rfl) (by kernel_rfl) (fun _ _ _ h=>h) (Or.inr ⟨by kernel_rfl,rfl⟩) ?_
    refine wpAny_take (i:=15) (v:=undef) rfl (by kernel_rfl) (by kernel_rfl) (by kernel_rfl) (fun _ _ _ h=>h) (Or.inr ⟨by kernel_rfl,rfl⟩) ?_
    refine wpAny_take (i:=16) (v:=undef) rfl (by kernel_rfl) (by kernel_rfl) (by kernel_rfl) (fun _ _ _ h=>h) (Or.inr ⟨by kernel_rfl,rfl⟩) ?_
    refine wpAny_take (i:=17) (v:=undef) rfl (by kernel_rfl) (by kernel_rfl) (by kernel_rfl) (fun _ _ _ h=>h) (Or.inr ⟨by kernel_rfl,rfl⟩) ?_
    refine wpAny_take (i:=18) (v:=undef) rfl (by kernel_rfl) (by kernel_rfl) (by kernel_rfl) (fun _ _ _ h=>h) (Or.inr ⟨by kernel_rfl,rfl⟩) ?_
    refine wpAny_take (i:=19) (v:=(.bool true)) rfl (by kernel_rfl) (by kernel_rfl) (by kernel_rfl) (fun _ _ _ h=>h) (Or.inl ⟨by kernel_rfl,fun _=>by first | kernel_rfl | go_simp⟩) ?_
    refine wpAny_take (i:=20) (v:=(.bool true)) rfl (by kernel_rfl) (by kernel_rfl) (by kernel_rfl) (fun _ _ _ h=>h) (Or.inl ⟨by kernel_rfl,fun _=>by first | kernel_rfl | go_simp⟩) ?_
    refine wpAny_done (by kernel_rfl) ?_ _
    go_simp
    go_wp2
    go_ret
    exact ⟨ret_bool eH.symm,BW3⟩
 ·have eH:(hidH H t||hidE H k)=true:=by unfold hidH;rw [h1];simp
  refine wp_region_any (by kernel_rfl) ?_
  try (change wpAny _ _ _ _ _ _ _ (World.drew _))
  refine wpAny_take (i:=0) (v:=(.pointer (some ⟨w.heap.size,0,none⟩))) rfl (by kernel_rfl) (by kernel_rfl) (by kernel_rfl) (fun _ _ _ h=>h) (Or.inl ⟨by kernel_rfl,fun _=>by first | kernel_rfl | go_simp⟩) ?_
  refine wpAny_ready (rs:=[1,2]) (by kernel_rfl) (by simp) ?_
  refine AllReady.cons rfl (fun K hK=>?_) (AllReady.cons rfl (fun K hK=>?_) AllReady.nil)
  go_simp
  refine hK _ _ ?_
  clear hK K
  refine wpAny_ready (rs:=[2]) (by kernel_rfl) (by simp) ?_
  refine AllReady.cons rfl (fun K hK=>?_) AllReady.nil
  go_simp
  refine hK _ _ ?_
  clear hK K
  rotate_left
  go_simp
  refine hK _ _ ?_
  clear hK K
  refine wpAny_ready (rs:=[1]) (by kernel_rfl) (by simp) ?_
  refine AllReady.cons rfl (fun K hK=>?_) AllReady.nil
  go_simp
  refine hK _ _ ?_
  clear hK K
  all_goals
   refine wpAny_ready (rs:=[3]) (by kernel_rfl) (by simp) ?_
   refine AllReady.cons rfl (fun K hK=>?_) AllReady.nil
   go_simp
   refine (isWord_gen _ t (some ⟨w1.heap.size,0,none⟩) 1 [sSPY] ?_ (by simp)).mono ?_
   ·exact strs_A w1 [sSPY]
   rintro e w2 ⟨rfl,b2⟩
   rw [h1]
   have B2:Below w1.heap.size w1 w2:=((Below.refl _ w1).alloc (Nat.le_refl _) _).drew.trans (b2.mono (by simp))
   obtain ⟨f2,s2,rep2,BW2⟩:=unhide KP w2 B2
   have d2:=(blk6 s2).1
   have c2:=(bk3 f2.blk).1
   go_wp2_with fail
   refine wpAny_take (i:=4) (v:=(.bool true)) rfl (by kernel_rfl) (by kernel_rfl) (by kernel_rfl) (fun _ _ _ h=>h) (Or.inl ⟨by kernel_rfl,fun _=>by first | kernel_rfl | go_simp⟩) ?_
   refine wpAny_take (i:=5) (v:=undef) rfl (by kernel_rfl) (by kernel_rfl) (by kernel_rfl) (fun _ _ _ h=>h) (Or.inr ⟨by kernel_rfl,rfl⟩) ?_
   refine wpAny_take (i:=6) (v:=undef) rfl (by kernel_rfl) (by kernel_rfl) (by kernel_rfl) (fun _ _ _ h=>h) (Or.inr ⟨by kernel_rfl,rfl⟩) ?_
   refine wpAny_take (i:=7) (v:=undef) rfl (by kernel_rfl) (by kernel_rfl) (by kernel_rfl) (fun _ _ _ h=>h) (Or.inr ⟨by kernel_rfl,rfl⟩) ?_
   refine wpAny_take (i:=8) (v:=undef) rfl (by kernel_rfl) (by kernel_rfl) (by kernel_rfl) (fun _ _ _ h=>h) (Or.inr ⟨by kernel_rfl,rfl⟩) ?_
   refine wpAny_take (i:=9) (v:=undef) rfl (by kernel_rfl) (by kernel_rfl) (by kernel_rfl) (fun _ _ _ h=>h) (Or.inr ⟨by kernel_rfl,rfl⟩) ?_
   refine wpAny_take (i:=10) (v:=undef) rfl (by kernel_rfl) (by kernel_rfl) (by kernel_rfl) (fun _ _ _ h=>h) (Or.inr ⟨by kernel_rfl,rfl⟩) ?_
   refine wpAny_take (i:=11) (v:=undef) rfl (by kernel_rfl) (by kernel_rfl) (by kernel_rfl) (fun _ _ _ h=>h) (Or.inr ⟨by kernel_rfl,rfl⟩) ?_
   refine wpAny_take (i:=12) (v:=(.bool true)) rfl (by kernel_rfl) (by kernel_rfl) (by kernel_rfl) (fun _ _ _ h=>h) (Or.inl ⟨by kernel_rfl,fun _=>by first | kernel_rfl | go_simp⟩) ?_
   refine wpAny_take (i:=13) (v:=(.bool true)) rfl (by kernel_rfl) (by kernel_rfl) (by kernel_rfl) (fun _ _ _ h=>h) (Or.inl ⟨by kernel_rfl,fun _=>by first | kernel_rfl | go_simp⟩) ?_
   refine wpAny_take (i:=14) (v:=undef) rfl (by kernel_rfl) (by kernel_rfl) (by kernel_rfl) (fun _ _ _ h=>h) (Or.inr ⟨by kernel_rfl,rfl⟩) ?_
   refine wpAny_take (i:=15) (v:=undef) rfl (by kernel_rfl) (by kernel_rfl) (by kernel_rfl) (fun _ _ _ h=>h) (Or.inr ⟨by kernel_rfl,rfl⟩) ?_
   refine wpAny_take (i:=16) (v:=undef) rfl (by kernel_rfl) (by kernel_rfl) (by kernel_rfl) (fun _ _ _ h=>h) (Or.inr ⟨by kernel_rfl,rfl⟩) ?_
   refine wpAny_take (i:=17) (v:=undef) rfl (by kernel_rfl) (by kernel_rfl) (by kernel_rfl) (fun _ _ _ h=>h) (Or.inr ⟨by kernel_rfl,rfl⟩) ?_
   refine wpAny_take (i:=18) (v:=undef) rfl (by kernel_rfl) (by kernel_rfl) (by kernel_rfl) (fun _ _ _ h=>h) (Or.inr ⟨by kernel_rfl,rfl⟩) ?_
   refine wpAny_take (i:=19) (v:=(.bool true)) rfl (by kernel_rfl) (by kernel_rfl) (by kernel_rfl) (fun _ _ _ h=>h) (Or.inl ⟨by kernel_rfl,fun _=>by first | kernel_rfl | go_simp⟩) ?_
   refine wpAny_take (i:=20) (v:=(.bool true)) rfl (by kernel_rfl) (by kernel_rfl) (by kernel_rfl) (fun _ _ _ h=>h) (Or.inl ⟨by kernel_rfl,fun _=>by first | kernel_rfl | go_simp⟩) ?_
   refine wpAny_done (by kernel_rfl) ?_ _
   go_simp
   go_wp2
   go_ret
   exact ⟨ret_bool eH.symm,BW2⟩
theorem fhid_all:∀m,m≤100000→HidOK m
 | 0,_=>fun e w cb hc ho H F Q v hsz h hv=>by
  obtain ⟨b,o,t,k,r,sv,rfl,rfl,hk⟩:=hv
  simp [szE] at hsz
 | m+1,hm=>fhid_step (by omega) (fhid_all m (by omega))
def TchOK (m:Nat):Prop:=∀(e:Ex) (w:World) (cb hc:Nat) (ho:Option Addr) (H:List ByteArray) (F:Flt) (Q:Nat→Prop) (v:Value),szE e≤m→FcAt w cb ho hc H F→RepV w Q v e→(∀k,Q k→k≠cb) →
 Calls Tryz.prog 134 #[.pointer (some ⟨cb,0,none⟩),v] w fun r w'=>r = .returned (.tuple #[])∧FcAt w' cb ho hc H (tc1 H e F)∧Kept cb w w'
set_option maxHeartbeats 16000000 in
theorem ftch_step {m:Nat} (hm:m≤100000) (ih:TchOK m):TchOK (m+1):=by
 intro e w cb hc ho H F Q v hsz h hv hQ
 obtain ⟨b,o,t,k,r,sv,rfl,rfl,hk⟩:=hv
 obtain ⟨ao,c,rfl,rep⟩:=hk.a
 clear hk
 have hszk:szE k≤m:=by simp [szE] at hsz;omega
 have hlen:lenE k≤100000:=by have:=lenE_le k;omega
 have hlt:=h.lt
 obtain ⟨w1,hw1⟩:∃w1,w.alloc (.cells #[.int .i64 (kP t),.int .i64 t.place,.string (wP t),.int .i32 (nP t),.int .i32 (sP t),.slice ao (lenE k) c] 119)=w1:=⟨_,rfl⟩
 have s1:w1.heap[w.heap.size]?=some (.cells #[.int .i64 (kP t),.int .i64 t.place,.string (wP t),.int .i32 (nP t),.int .i32 (sP t),.slice ao (lenE k) c] 119 (0,0)):=by rw [←hw1];exact heap_alloc_new w _
 have f1:FcAt w1 cb ho hc H F:=by rw [←hw1];exact h.later (fun j hj=>Below.heap_alloc w _ j hj)
 have B1:Below w.heap.size w w1:=by rw [←hw1];exact (Below.refl _ w).alloc (Nat.le_refl _) _
 have rep1:RepFa w1 Q k ao 0:=by rw [←hw1];exact rep.later (fun j _ hl=>Below.heap_alloc w _ j hl)
 have lt1:w.heap.size < w1.heap.size:=(Array.getElem?_eq_some_iff.1 s1).1
 have keep:∀w2,Below w1.heap.size w1 w2→FcAt w2 cb ho hc H F∧w2.heap[w.heap.size]?=some (.cells #[.int .i64 (kP t),.int .i64 t.place,.string (wP t),.int .i32 (nP t),.int .i32 (sP t),.slice ao (lenE k) c] 119 (0,0))∧RepFa w2 Q k ao 0∧Kept cb w w2:=fun w2 B2=>
  ⟨f1.below B2,(B2.block _ lt1).trans s1,rep1.later (fun j _ hl=>B2.block j hl),Kept.below (B1.trans (B2.mono B1.size))⟩
 have KP:=hide keep
 clear keep h rep
 unfold exV
 show Calls _ _ _ _ fun r w'=>r = .returned (.tuple #[])∧FcAt w' cb ho hc H (tcE H k (tcH H t k F))∧Kept cb w w'
 have d1:=(blk6 s1).1
 go_enter Tryz.func134,Tryz.ntmps134
 go_wp2_with fail
 clear hw1
 refine (isWord_gen _ t (some ⟨w1.heap.size,0,none⟩) 2 [sPEEK,sSPY] (strs_A w1 [sPEEK,sSPY]) (by simp)).mono ?_
 rintro e w2 ⟨rfl,b2⟩
 have B2:Below w1.heap.size w1 w2:=((Below.refl _ w1).alloc (Nat.le_refl _) _).trans (b2.mono (by simp))
 obtain ⟨h2,s2,rep2,K2⟩:=unhide KP w2 B2
 have d2:=(blk6 s2).1
 have c2:=(bk3 h2.blk).1
 clear f1 s1 d1 rep1 b2
 cases hwd:wdT t [sPEEK,sSPY]
 ·have e2:tcH H t k F=F:=by unfold tcH;rw [hwd];rfl
  rw [←e2] at h2
  clear KP B2
  all_goals go_wp2
  all_goals
   go_loopg [27] (lenE k) (fun q v wr=>∃rest F',v = .int .i64 ((lenE k-q:Nat):Int)∧q≤lenE k∧lenE rest=q∧szE rest≤szE k∧FcAt wr cb ho hc H F'∧Kept cb w wr∧tcE H rest F'=tcE H k (tcH H t k F)∧RepFa wr Q rest ao (lenE k-q))
   case atStart=>exact ⟨k,_,by rw [Nat.sub_self];rfl,Nat.le_refl _,rfl,Nat.le_refl _,h2,K2,rfl,by rw [Nat.sub_self];exact rep2⟩
   case round=>
    clear h2 K2 rep2
    obtain ⟨rest,F',rfl,hq,hlr,hsr,hnc,kw,hfold,hrep⟩:=hrel
    cases rest with
    | nil=>
     have hq0:gk=0:=by rw [←hlr];rfl
     subst hq0
     have hge:decide (((lenE k-0:Nat):Int) < (lenE k:Int))=false:=by simp
     have hf:F'=tcE H k (tcH H t k F):=hfold
     subst hf
     clear hfold
     go_wp2
     go_end0
     exact ⟨rfl,hnc,kw⟩
    | node b1 o1 t1 k1 r1=>
     have hl1:lenE r1+1=gk:=hlr
     obtain ⟨d,hd⟩:∃d,d+gk=lenE k:=⟨lenE k-gk,by omega⟩
     have hnd:lenE k-gk=d:=by omega
     rw [hnd] at hrep ⊢
     have hlt:decide ((d:Int) < (lenE k:Int))=true:=by simp;omega
     rcases hrep with hn | ⟨g,rfl,hg,hrf⟩
     ·cases hn
     obtain ⟨⟨sv1,hcells,hkids⟩,hrest⟩:=hrf
     obtain ⟨x0,x1,x2,x3,x4,x5⟩:=hcells
     have hv1:RepV wr Q (exV t1 sv1) (.node b1 o1 t1 k1 r1):=⟨b1,o1,t1,k1,r1,sv1,rfl,rfl,hkids⟩
     obtain ⟨so1,sc1,hsv1⟩:=RepK.form hkids
     subst hsv1
     have hsz1:szE (.node b1 o1 t1 k1 r1)≤m:=by omega
     have hszw:=kw.1
     have nextF:∀w3,FcAt w3 cb ho hc H (tc1 H (.node b1 o1 t1 k1 r1) F')→Kept cb wr w3→∃rest F'',Value.int .i64 ((d:Int)+1) = .int .i64 ((lenE k-lenE r1:Nat):Int)∧lenE r1≤lenE k∧lenE rest=lenE r1∧szE rest≤szE k∧FcAt w3 cb ho hc H F''∧Kept cb w w3∧tcE H rest F''=tcE H k (tcH H t k F)∧RepFa w3 Q rest (some ⟨g,0,none⟩) (lenE k-lenE r1):=fun w3 h3 k3=>by
      refine ⟨r1,_,by congr 1;omega,by omega,rfl,by simp [szE] at hsr;omega,h3,kw.trans k3,hfold,.inr ⟨g,rfl,hg,?_⟩⟩
      rw [show lenE k-lenE r1=d+1 by omega]
      exact RepF.later (fun j hj hl=>k3.2 j hl (hQ j hj)) (fun j hj _=>hj) r1 g (d+1) hg hrest
     have NX:=hide nextF
     have HV1:=hide hv1
     have hgw:g < wr.heap.size:=World.block_lt_of_cell? _ _ x0
     have hgcb:=hQ g hg
     clear nextF hv1 hrest hkids hfold
     go_wp2_with fail
     refine (ih (.node b1 o1 t1 k1 r1) _ cb hc ho H F' Q (exV t1 (.slice so1 (lenE k1) sc1)) hsz1 (hnc.later (fun j hj=>Below.heap_alloc wr _ j hj)) (RepV.later (fun j _ hl=>Below.heap_alloc wr _ j hl) (fun j hj _=>hj) (unhide HV1)) hQ).mono ?_
     rintro e w3 ⟨rfl,h3,k3⟩
     have fin3:=unhide NX w3 h3 ((Kept.alloc cb wr _).trans k3)
     clear NX HV1 k3 hnc
     go_wp2
     go_roundg (lenE r1)
     case rel=>exact fin3
     case measure=>omega
 ·go_wp2_with fail
  refine (fcont_any (fhid_all m hm) k w2 cb hc c ho ao H F Q hszk hm h2 rep2).mono ?_
  rintro e w3 ⟨rfl,b3⟩
  have B3:=B2.trans (b3.mono B2.size)
  clear h2 s2 rep2 K2 d2 c2
  obtain ⟨h2,s2,rep2,K2⟩:=unhide KP w3 B3
  have d2:=(blk6 s2).1
  have c2:=(bk3 h2.blk).1
  cases hhk:hidE H k
  ·have e2:tcH H t k F=F:=by unfold tcH;rw [hwd,hhk];rfl
   rw [←e2] at h2
   clear KP B2 B3 b3
   all_goals go_wp2
   all_goals
    go_loopg [27] (lenE k) (fun q v wr=>∃rest F',v = .int .i64 ((lenE k-q:Nat):Int)∧q≤lenE k∧lenE rest=q∧szE rest≤szE k∧FcAt wr cb ho hc H F'∧Kept cb w wr∧tcE H rest F'=tcE H k (tcH H t k F)∧RepFa wr Q rest ao (lenE k-q))
    case atStart=>exact ⟨k,_,by rw [Nat.sub_self];rfl,Nat.le_refl _,rfl,Nat.le_refl _,h2,K2,rfl,by rw [Nat.sub_self];exact rep2⟩
    case round=>
     clear h2 K2 rep2
     obtain ⟨rest,F',rfl,hq,hlr,hsr,hnc,kw,hfold,hrep⟩:=hrel
     cases rest with
     | nil=>
      have hq0:gk=0:=by rw [←hlr];rfl
      subst hq0
      have hge:decide (((lenE k-0:Nat):Int) < (lenE k:Int))=false:=by simp
      have hf:F'=tcE H k (tcH H t k F):=hfold
      subst hf
      clear hfold
      go_wp2
      go_end0
      exact ⟨rfl,hnc,kw⟩
     | node b1 o1 t1 k1 r1=>
      have hl1:lenE r1+1=gk:=hlr
      obtain ⟨d,hd⟩:∃d,d+gk=lenE k:=⟨lenE k-gk,by omega⟩
      have hnd:lenE k-gk=d:=by omega
      rw [hnd] at hrep ⊢
      have hlt:decide ((d:Int) < (lenE k:Int))=true:=by simp;omega
      rcases hrep with hn | ⟨g,rfl,hg,hrf⟩
      ·cases hn
      obtain ⟨⟨sv1,hcells,hkids⟩,hrest⟩:=hrf
      obtain ⟨x0,x1,x2,x3,x4,x5⟩:=hcells
      have hv1:RepV wr Q (exV t1 sv1) (.node b1 o1 t1 k1 r1):=⟨b1,o1,t1,k1,r1,sv1,rfl,rfl,hkids⟩
      obtain ⟨so1,sc1,hsv1⟩:=RepK.form hkids
      subst hsv1
      have hsz1:szE (.node b1 o1 t1 k1 r1)≤m:=by omega
      have hszw:=kw.1
      have nextF:∀w3,FcAt w3 cb ho hc H (tc1 H (.node b1 o1 t1 k1 r1) F')→Kept cb wr w3→∃rest F'',Value.int .i64 ((d:Int)+1) = .int .i64 ((lenE k-lenE r1:Nat):Int)∧lenE r1≤lenE k∧lenE rest=lenE r1∧szE rest≤szE k∧FcAt w3 cb ho hc H F''∧Kept cb w w3∧tcE H rest F''=tcE H k (tcH H t k F)∧RepFa w3 Q rest (some ⟨g,0,none⟩) (lenE k-lenE r1):=fun w3 h3 k3=>by
       refine ⟨r1,_,by congr 1;omega,by omega,rfl,by simp [szE] at hsr;omega,h3,kw.trans k3,hfold,.inr ⟨g,rfl,hg,?_⟩⟩
       rw [show lenE k-lenE r1=d+1 by omega]
       exact RepF.later (fun j hj hl=>k3.2 j hl (hQ j hj)) (fun j hj _=>hj) r1 g (d+1) hg hrest
      have NX:=hide nextF
      have HV1:=hide hv1
      have hgw:g < wr.heap.size:=World.block_lt_of_cell? _ _ x0
      have hgcb:=hQ g hg
      clear nextF hv1 hrest hkids hfold
      go_wp2_with fail
      refine (ih (.node b1 o1 t1 k1 r1) _ cb hc ho H F' Q (exV t1 (.slice so1 (lenE k1) sc1)) hsz1 (hnc.later (fun j hj=>Below.heap_alloc wr _ j hj)) (RepV.later (fun j _ hl=>Below.heap_alloc wr _ j hl) (fun j hj _=>hj) (unhide HV1)) hQ).mono ?_
      rintro e w3 ⟨rfl,h3,k3⟩
      have fin3:=unhide NX w3 h3 ((Kept.alloc cb wr _).trans k3)
      clear NX HV1 k3 hnc
      go_wp2
      go_roundg (lenE r1)
      case rel=>exact fin3
      case measure=>omega
  ·have e2:tcH H t k F=noteF F 11 t.place:=by unfold tcH;rw [hwd,hhk];rfl
   have l3:w.heap.size < w3.heap.size:=(Array.getElem?_eq_some_iff.1 s2).1
   go_wp2
   first | (go_region_with (go_at_call 117;refine (fnote_any _ cb hc ho H F 11 t.place ?_).mono ?_;exact h2.later (fun _ _=>rfl);rintro e w4 ⟨rfl,h4,k4⟩;have s4:=(k4.2 _ (by show _ < w3.heap.size;omega) (by omega)).trans s2;have K4:=K2.trans (by first | exact k4 | exact k4.undrew | exact k4.undrew.undrew | exact k4.undrew.undrew.undrew);have rep4:=RepFa.later (w:=w3) (w':=w4) (fun j hj hl=>k4.2 j hl (hQ j hj)) rep2;clear h2 s2 rep2 K2 d2 c2;have d2:=(blk6 s4).1;have h2:=h4;have K2:=K4;have rep2:=rep4;rw [←e2] at h2)) | fail
   all_goals clear KP B2 B3 b3
   all_goals go_wp2
   all_goals
    go_loopg [27] (lenE k) (fun q v wr=>∃rest F',v = .int .i64 ((lenE k-q:Nat):Int)∧q≤lenE k∧lenE rest=q∧szE rest≤szE k∧FcAt wr cb ho hc H F'∧Kept cb w wr∧tcE H rest F'=tcE H k (tcH H t k F)∧RepFa wr Q rest ao (lenE k-q))
    case atStart=>exact ⟨k,_,by rw [Nat.sub_self];rfl,Nat.le_refl _,rfl,Nat.le_refl _,h2,K2,rfl,by rw [Nat.sub_self];exact rep2⟩
    case round=>
     clear h2 K2 rep2
     obtain ⟨rest,F',rfl,hq,hlr,hsr,hnc,kw,hfold,hrep⟩:=hrel
     cases rest with
     | nil=>
      have hq0:gk=0:=by rw [←hlr];rfl
      subst hq0
      have hge:decide (((lenE k-0:Nat):Int) < (lenE k:Int))=false:=by simp
      have hf:F'=tcE H k (tcH H t k F):=hfold
      subst hf
      clear hfold
      go_wp2
      go_end0
      exact ⟨rfl,hnc,kw⟩
     | node b1 o1 t1 k1 r1=>
      have hl1:lenE r1+1=gk:=hlr
      obtain ⟨d,hd⟩:∃d,d+gk=lenE k:=⟨lenE k-gk,by omega⟩
      have hnd:lenE k-gk=d:=by omega
      rw [hnd] at hrep ⊢
      have hlt:decide ((d:Int) < (lenE k:Int))=true:=by simp;omega
      rcases hrep with hn | ⟨g,rfl,hg,hrf⟩
      ·cases hn
      obtain ⟨⟨sv1,hcells,hkids⟩,hrest⟩:=hrf
      obtain ⟨x0,x1,x2,x3,x4,x5⟩:=hcells
      have hv1:RepV wr Q (exV t1 sv1) (.node b1 o1 t1 k1 r1):=⟨b1,o1,t1,k1,r1,sv1,rfl,rfl,hkids⟩
      obtain ⟨so1,sc1,hsv1⟩:=RepK.form hkids
      subst hsv1
      have hsz1:szE (.node b1 o1 t1 k1 r1)≤m:=by omega
      have hszw:=kw.1
      have nextF:∀w3,FcAt w3 cb ho hc H (tc1 H (.node b1 o1 t1 k1 r1) F')→Kept cb wr w3→∃rest F'',Value.int .i64 ((d:Int)+1) = .int .i64 ((lenE k-lenE r1:Nat):Int)∧lenE r1≤lenE k∧lenE rest=lenE r1∧szE rest≤szE k∧FcAt w3 cb ho hc H F''∧Kept cb w w3∧tcE H rest F''=tcE H k (tcH H t k F)∧RepFa w3 Q rest (some ⟨g,0,none⟩) (lenE k-lenE r1):=fun w3 h3 k3=>by
       refine ⟨r1,_,by congr 1;omega,by omega,rfl,by simp [szE] at hsr;omega,h3,kw.trans k3,hfold,.inr ⟨g,rfl,hg,?_⟩⟩
       rw [show lenE k-lenE r1=d+1 by omega]
       exact RepF.later (fun j hj hl=>k3.2 j hl (hQ j hj)) (fun j hj _=>hj) r1 g (d+1) hg hrest
      have NX:=hide nextF
      have HV1:=hide hv1
      have hgw:g < wr.heap.size:=World.block_lt_of_cell? _ _ x0
      have hgcb:=hQ g hg
      clear nextF hv1 hrest hkids hfold
      go_wp2_with fail
      refine (ih (.node b1 o1 t1 k1 r1) _ cb hc ho H F' Q (exV t1 (.slice so1 (lenE k1) sc1)) hsz1 (hnc.later (fun j hj=>Below.heap_alloc wr _ j hj)) (RepV.later (fun j _ hl=>Below.heap_alloc wr _ j hl) (fun j hj _=>hj) (unhide HV1)) hQ).mono ?_
      rintro e w3 ⟨rfl,h3,k3⟩
      have fin3:=unhide NX w3 h3 ((Kept.alloc cb wr _).trans k3)
      clear NX HV1 k3 hnc
      go_wp2
      go_roundg (lenE r1)
      case rel=>exact fin3
      case measure=>omega
theorem ftch_all:∀m,m≤100000→TchOK m
 | 0,_=>fun e w cb hc ho H F Q v hsz h hv hQ=>by
  obtain ⟨b,o,t,k,r,sv,rfl,rfl,hk⟩:=hv
  simp [szE] at hsz
 | m+1,hm=>ftch_step (by omega) (ftch_all m (by omega))
set_option maxHeartbeats 16000000 in
theorem flead_any (m:Nat) (hm:m≤100000) (e:Ex) (w:World) (cb hc:Nat) (ho:Option Addr) (H:List ByteArray) (F:Flt) (Q:Nat→Prop) (t x:Tok) (k:Ex) (ao:Option Addr) (c:Nat) (may:Bool) (hsz:szE e≤m) (h:FcAt w cb ho hc H F) (hv:RepV w Q (exV x (.slice ao (lenE k) c)) e) (hQ:∀k,Q k→k≠cb) :
  Calls Tryz.prog 120 #[.pointer (some ⟨cb,0,none⟩),tokP t,exV x (.slice ao (lenE k) c),.bool may] w fun r w'=>r = .returned (.tuple #[])∧FcAt w' cb ho hc H (ldF H t e may F)∧Kept cb w w':=by
 have hlt:=h.lt
 obtain ⟨w1,hw1⟩:∃w1,(w.alloc (.cells #[.int .i64 (kP t),.int .i64 t.place,.string (wP t),.int .i32 (nP t),.int .i32 (sP t)] 116)).alloc (.cells #[.int .i64 (kP x),.int .i64 x.place,.string (wP x),.int .i32 (nP x),.int .i32 (sP x),.slice ao (lenE k) c] 119)=w1:=⟨_,rfl⟩
 have s1:w1.heap[w.heap.size+1]?=some (.cells #[.int .i64 (kP x),.int .i64 x.place,.string (wP x),.int .i32 (nP x),.int .i32 (sP x),.slice ao (lenE k) c] 119 (0,0)):=by rw [←hw1];simpa using heap_alloc_new (w.alloc (.cells #[.int .i64 (kP t),.int .i64 t.place,.string (wP t),.int .i32 (nP t),.int .i32 (sP t)] 116)) (.cells #[.int .i64 (kP x),.int .i64 x.place,.string (wP x),.int .i32 (nP x),.int .i32 (sP x),.slice ao (lenE k) c] 119)
 have t1:w1.heap[w.heap.size]?=some (.cells #[.int .i64 (kP t),.int .i64 t.place,.string (wP t),.int .i32 (nP t),.int .i32 (sP t)] 116 (0,0)):=by rw [←hw1];exact (Below.heap_alloc _ _ _ (by simp)).trans (heap_alloc_new w _)
 have B1:Below w.heap.size w w1:=by rw [←hw1];exact ((Below.refl _ w).alloc (Nat.le_refl _) _).alloc (by simp) _
 have f1:FcAt w1 cb ho hc H F:=h.below B1
 have v1:RepV w1 Q (exV x (.slice ao (lenE k) c)) e:=hv.later (fun j _ hl=>B1.block j hl) (fun j hj _=>hj)
 have lt1:w.heap.size+1 < w1.heap.size:=(Array.getElem?_eq_some_iff.1 s1).1
 clear h hv
 have d1:=(blk6 s1).1
 have y1:=(bk5 t1).1
 have c1:=(bk3 f1.blk).1
 have nobr:∀F2 w2,FcAt w2 cb ho hc H F2→Kept cb w w2→RepV w2 Q (exV x (.slice ao (lenE k) c)) e→F2=(if !may&&hid1 H e then noteF F 11 t.place else F)→Calls Tryz.prog 134 #[.pointer (some ⟨cb,0,none⟩),exV x (.slice ao (lenE k) c)] w2 fun r w'=>r = .returned (.tuple #[])∧FcAt w' cb ho hc H (ldF H t e may F)∧Kept cb w w':=fun F2 w2 a1 a2 a3 a4=>by
  refine (ftch_all m hm e w2 cb hc ho H F2 Q _ hsz a1 a3 hQ).mono ?_
  rintro r w' ⟨g1,g2,g3⟩
  exact ⟨g1,by unfold ldF;rw [←a4];exact g2,a2.trans g3⟩
 have NB:=hide nobr
 clear nobr
 have V1:=hide v1
 unfold exV tokP tkV at *
 go_enter Tryz.func120,Tryz.ntmps120
 cases hmay:may
 ·go_wp2_with fail
  clear hw1
  refine (fhid_all m hm e w1 cb hc ho H F Q _ hsz f1 (unhide V1)).mono ?_
  rintro r w2 ⟨rfl,b2⟩
  have f2:=f1.below b2
  have v2:RepV w2 Q (exV x (.slice ao (lenE k) c)) e:=(unhide V1).later (fun j _ hl=>b2.block j hl) (fun j hj _=>hj)
  have s2:=(b2.block _ lt1).trans s1
  have t2:=(b2.block _ (by omega)).trans t1
  have K2:Kept cb w w2:=Kept.below (B1.trans (b2.mono B1.size))
  have l2:=b2.size
  have d2:=(blk6 s2).1
  have y2:=(bk5 t2).1
  have c2:=(bk3 f2.blk).1
  cases hh:hid1 H e
  ·have fx:=unhide NB F w2 f2 K2 v2 (by rw [hmay,hh];rfl)
   rw [hmay] at fx
   have FX:=hide fx
   clear NB V1 fx
   go_wp2_with fail
   refine (unhide FX).mono ?_
   rintro r w3 ⟨rfl,h3,k3⟩
   go_wp2
   go_end0
   exact ⟨rfl,h3,k3⟩
  ·go_wp2
   first | (go_region_with (go_at_call 117;refine (fnote_any _ cb hc ho H F 11 t.place ?_).mono ?_;exact f2.later (fun _ _=>rfl);rintro r w3 ⟨rfl,h3,k3⟩;have s3:=(k3.2 _ (by show _ < w2.heap.size;omega) (by omega)).trans s2;have d3:=(blk6 s3).1;have K3:=K2.trans (by first | exact k3 | exact k3.undrew | exact k3.undrew.undrew | exact k3.undrew.undrew.undrew);have v3:=RepV.later (w:=w2) (w':=w3) (fun j hj hl=>k3.2 j hl (hQ j hj)) (fun j hj _=>hj) v2;have fx:=unhide NB _ w3 h3 K3 v3 (by rw [hmay,hh];rfl);rw [hmay] at fx;have FX:=hide fx;clear fx)) | fail
   all_goals clear NB V1
   all_goals go_wp2_with fail
   all_goals
    refine (unhide FX).mono ?_
    rintro r w4 ⟨rfl,h4,k4⟩
    go_wp2
    go_end0
    exact ⟨rfl,h4,k4⟩
 ·have fx:=unhide NB F w1 f1 (Kept.below B1) (unhide V1) (by rw [hmay];rfl)
  rw [hmay] at fx
  have FX:=hide fx
  clear NB V1 fx
  go_wp2_with fail
  clear hw1
  refine (unhide FX).mono ?_
  rintro r w3 ⟨rfl,h3,k3⟩
  go_wp2
  go_end0
  exact ⟨rfl,h3,k3⟩
structure Kept2 (a b:Nat) (w w':World):Prop where
 size:w.heap.size≤w'.heap.size
 block:∀k,k < w.heap.size→k≠a→k≠b→w'.heap[k]?=w.heap[k]?
 same:Same w w'
theorem Kept2.refl (a b:Nat) (w:World):Kept2 a b w w:=⟨Nat.le_refl _,fun _ _ _ _=>rfl,Same.refl _⟩
theorem Kept2.trans {x y:Nat} {a b c:World} (h1:Kept2 x y a b) (h2:Kept2 x y b c):Kept2 x y a c:=⟨Nat.le_trans h1.1 h2.1,fun k hk hx hy=>(h2.2 k (by have:=h1.1;omega) hx hy).trans (h1.2 k hk hx hy),h1.same.trans h2.same⟩
theorem Kept.two {x:Nat} {a b:World} (h:Kept x a b) (y:Nat):Kept2 x y a b:=⟨h.1,fun k hk hx _=>h.2 k hk hx,h.same⟩
theorem Kept2.turned {x y:Nat} {a b:World} (h:a.mapTurned b y):Kept2 x y a b:=⟨h.grown.size,fun k hk _ hy=>h.grown.block k hk (fun e=>hy (by cases e;rfl)),Same.grown h.grown⟩
theorem NcAt.stored {w w':World} {cb mb n m:Nat} {R R':ByteArray→Int} {F:Flt} (h:NcAt w cb mb n R F) (ht:w.mapTurned w' mb) (hm:MapIs 155 .i64 w' mb m R'):NcAt w' cb mb m R' F:=
 ⟨(ht.grown.block cb h.lt (fun e=>h.ne (by cases e;rfl))).trans h.blk,hm⟩
set_option maxHeartbeats 8000000 in
theorem nbring_any (w:World) (cb mb n:Nat) (R:ByteArray→Int) (F:Flt) (t:Tok) (c:Int) (hc:c=1∨c=2) (h:NcAt w cb mb n R F) (ht:TokB t) (hn:n≤100000) :
  Calls Tryz.prog 90 #[.pointer (some ⟨cb,0,none⟩),tokP t,.int .i64 c] w fun e w'=>e = .returned (.tuple #[])∧NcAt w' cb mb (n+1) (nbr (R,F) t c).1 (nbr (R,F) t c).2∧Kept2 cb mb w w':=by
 have hlt:=h.lt
 have hmt:=h.map.lt
 have hsz:=ht.1
 obtain ⟨w1,hw1⟩:∃w1,w.alloc (.cells #[.int .i64 (kP t),.int .i64 t.place,.string (wP t),.int .i32 (nP t),.int .i32 (sP t)] 116)=w1:=⟨_,rfl⟩
 have s1:w1.heap[w.heap.size]?=some (.cells #[.int .i64 (kP t),.int .i64 t.place,.string (wP t),.int .i32 (nP t),.int .i32 (sP t)] 116 (0,0)):=by rw [←hw1];exact heap_alloc_new w _
 have h1:NcAt w1 cb mb n R F:=by rw [←hw1];exact h.later (Below.heap_alloc w _ _ hlt) (Below.heap_alloc w _ _ hmt)
 have k1:Kept2 cb mb w w1:=by rw [←hw1];exact (Kept.alloc cb w _).two mb
 have lt1:w.heap.size < w1.heap.size:=(Array.getElem?_eq_some_iff.1 s1).1
 have fin:∀(w2:World) (F2:Flt),NcAt w2 cb mb n R F2→Kept2 cb mb w1 w2→F2=(nbr (R,F) t c).2→∃w9,(Instr.mapUpdate 156 (.map (some mb)) (.string (wP t)) (.int .i64 c)).run Tryz.prog w2.drew = .ok () w9∧NcAt w9 cb mb (n+1) (nbr (R,F) t c).1 (nbr (R,F) t c).2∧Kept2 cb mb w w9:=by
  intro w2 F2 h2 k2 e2
  have h2d:NcAt w2.drew cb mb n R F2:=h2.later rfl rfl
  obtain ⟨w9,hrun,hmap,hturn⟩:=h2d.map.store Tryz.underlying156 Tryz.underlying155 (by unfold maxLen;omega) (s:=wP t) (by unfold maxLen;omega) (c:=c) (by rcases hc with rfl | rfl <;> decide)
  exact ⟨w9,hrun,by rw [←e2];exact h2d.stored hturn hmap,(k1.trans k2).trans (Kept2.trans (b:=w2.drew) ⟨Nat.le_refl _,fun _ _ _ _=>rfl,⟨rfl,rfl,rfl⟩⟩ (Kept2.turned hturn))⟩
 have FIN:=hide fin
 clear h fin
 unfold tokP tkV
 go_enter Tryz.func90,Tryz.ntmps90
 go_wp2
 clear hw1
 obtain ⟨⟨t0,t1,t2,t3,t4⟩,y0,y1,y2,y3,y4⟩:=bk5 s1
 obtain ⟨⟨c0,c1,c2⟩,z0,z1,z2⟩:=bk3 h1.blk
 by_cases hlong:6 < (wP t).size
 ·have e2:(nbr (R,F) t c).2=noteF F 10 t.place:=by unfold nbr;simp [hlong]
  have hdl:decide ((6:Int) < ((wP t).size:Int))=true:=by simp;omega
  go_region
  go_wp2
  have h1d:NcAt w1.drew cb mb n R F:=h1.later rfl rfl
  have h1e:NcAt w1.drew.drew cb mb n R F:=h1.later rfl rfl
  go_region_with (go_at_call 117;refine (nnote_any _ cb mb n R F 10 t.place ?_).mono ?_;exact h1e;rintro e w2 ⟨rfl,h2,k2⟩;have fx:=unhide FIN w2 _ h2 (Kept.two (a:=w1) (by first | exact k2 | exact k2.undrew | exact k2.undrew.undrew | exact k2.undrew.undrew.undrew) mb) e2.symm;obtain ⟨w9,hrun,h9,k9⟩:=fx;have s2:=(k2.2 _ (by show _ < w1.heap.size;omega) (by omega)).trans s1;have d2:=bk5 s2;have c2:=bk3 h2.blk)
  all_goals go_wp2
  all_goals go_region
  all_goals go_end0
  all_goals exact ⟨rfl,h9,k9⟩
 ·have hdl:decide ((6:Int) < ((wP t).size:Int))=false:=by simp;omega
  have hl:(Instr.lookup 156 (.map (some mb)) (.string (wP t)) false).run Tryz.prog w1.drew = .ok (.int .i64 (R (wP t))) w1.drew:=(h1.later (w':=w1.drew) rfl rfl).look hsz
  by_cases hR:R (wP t)=0
  ·have e2:F=(nbr (R,F) t c).2:=by unfold nbr;simp [hlong,hR]
   obtain ⟨w9,hrun,h9,k9⟩:=unhide FIN w1.drew F (h1.later rfl rfl) ⟨Nat.le_refl _,fun _ _ _ _=>rfl,⟨rfl,rfl,rfl⟩⟩ e2
   have H9:=hide (And.intro h9 k9)
   clear FIN h9 k9 e2
   go_region
   all_goals go_wp2
   all_goals go_region
   all_goals go_end0
   all_goals exact ⟨rfl,(unhide H9).1,(unhide H9).2⟩
  ·have e2:(nbr (R,F) t c).2=noteF F 10 t.place:=by unfold nbr;simp [hR]
   go_region
   go_wp2
   have h1e:NcAt w1.drew.drew cb mb n R F:=h1.later rfl rfl
   go_region_with (go_at_call 117;refine (nnote_any _ cb mb n R F 10 t.place ?_).mono ?_;exact h1e;rintro e w2 ⟨rfl,h2,k2⟩;have fx:=unhide FIN w2 _ h2 (Kept.two (a:=w1) (by first | exact k2 | exact k2.undrew | exact k2.undrew.undrew | exact k2.undrew.undrew.undrew) mb) e2.symm;obtain ⟨w9,hrun,h9,k9⟩:=fx;have s2:=(k2.2 _ (by show _ < w1.heap.size;omega) (by omega)).trans s1;have d2:=bk5 s2;have c2:=bk3 h2.blk)
   all_goals go_wp2
   all_goals go_region
   all_goals go_end0
   all_goals exact ⟨rfl,h9,k9⟩
def NExOK (m:Nat):Prop:=∀(e:Ex) (w:World) (cb mb n:Nat) (R:ByteArray→Int) (F:Flt) (Q:Nat→Prop) (v:Value),szE e≤m→NcAt w cb mb n R F→RepV w Q v e→AllE TokB e→(∀k,Q k→k≠cb) →
 Calls Tryz.prog 118 #[.pointer (some ⟨cb,0,none⟩),v] w fun e' w'=>e' = .returned (.tuple #[])∧NcAt w' cb mb n R (nx1 R e F)∧Kept cb w w'
set_option maxHeartbeats 16000000 in
theorem nexpr_step {m:Nat} (hm:m≤100000) (ih:NExOK m):NExOK (m+1):=by
 intro e w cb mb n R F Q v hsz h hv hall hQ
 obtain ⟨b,o,t,k,r,sv,rfl,rfl,hk⟩:=hv
 obtain ⟨ao,c,rfl,rep⟩:=hk.a
 clear hk
 have hsz':szE (.node 0 0 t k .nil)≤m+1:=by simp [szE] at hsz ⊢;omega
 have hlen:lenE k≤100000:=by have:=lenE_le k;simp [szE] at hsz';omega
 have hlt:=h.lt
 have hmt:=h.map.lt
 have htb:=hall.1.1
 obtain ⟨w1,hw1⟩:∃w1,w.alloc (.cells #[.int .i64 (kP t),.int .i64 t.place,.string (wP t),.int .i32 (nP t),.int .i32 (sP t),.slice ao (lenE k) c] 119)=w1:=⟨_,rfl⟩
 have s1:w1.heap[w.heap.size]?=some (.cells #[.int .i64 (kP t),.int .i64 t.place,.string (wP t),.int .i32 (nP t),.int .i32 (sP t),.slice ao (lenE k) c] 119 (0,0)):=by rw [←hw1];exact heap_alloc_new w _
 have h1:NcAt w1 cb mb n R F:=by rw [←hw1];exact h.later (Below.heap_alloc w _ _ hlt) (Below.heap_alloc w _ _ hmt)
 have k1:Kept cb w w1:=by rw [←hw1];exact Kept.alloc cb w _
 have rep1:RepFa w1 Q k ao 0:=by rw [←hw1];exact rep.later (fun j _ hl=>Below.heap_alloc w _ j hl)
 have lt1:w.heap.size < w1.heap.size:=(Array.getElem?_eq_some_iff.1 s1).1
 clear h rep
 unfold exV
 show Calls _ _ _ _ fun e' w'=>e' = .returned (.tuple #[])∧NcAt w' cb mb n R (nxE R k (nxH R t F))∧Kept cb w w'
 go_enter Tryz.func118,Tryz.ntmps118
 go_wp2
 clear hw1
 obtain ⟨⟨t0,t1,t2,t3,t4,t5⟩,_⟩:=blk6 s1
 have h1d:NcAt w1.drew cb mb n R F:=h1.later rfl rfl
 have onw:∀w2,Below w1.drew.heap.size w1.drew w2→NcAt w2 cb mb n R F∧w2.heap[w.heap.size]?=some (.cells #[.int .i64 (kP t),.int .i64 t.place,.string (wP t),.int .i32 (nP t),.int .i32 (sP t),.slice ao (lenE k) c] 119 (0,0))∧Kept cb w w2∧RepFa w2 Q k ao 0∧(Instr.lookup 156 (.map (some mb)) (.string (wP t)) false).run Tryz.prog w2 = .ok (.int .i64 (R (wP t))) w2:=fun w2 B2=>by
  have n2:=h1d.below B2
  exact ⟨n2,(B2.block _ lt1).trans s1,k1.trans (⟨B2.size,fun j hj _=>B2.block j hj,⟨B2.os,B2.tape,B2.output⟩⟩:Kept cb w1 w2),RepFa.later (w:=w1) (fun j _ hl=>B2.block j hl) rep1,n2.look htb⟩
 have ONW:=hide onw
 clear onw h1d
 cases hnm:nmT t
 ·have es:((kP t==2) && !kwsP.any (fun u=>(wP t).toList==u.toList))=false:=hnm
  have e2:nxH R t F=F:=by unfold nxH;rw [hnm];rfl
  first | (go_region_with (go_at_call 112;refine (isName_any _ (kP t) t.place (nP t) (sP t) (wP t)).mono ?_;rintro e w2 ⟨rfl,B2⟩;rw [es];have fx:=unhide ONW w2 B2;obtain ⟨h2,s2,K2,rep2,hl2⟩:=fx;have d2:=(blk6 s2).1;have c2:=bk3 h2.blk;rw [←e2] at h2)) | fail
  all_goals clear ONW
  all_goals go_wp2
  all_goals
   go_loopg [30] (lenE k) (fun q v wr=>∃rest F',v = .int .i64 ((lenE k-q:Nat):Int)∧q≤lenE k∧lenE rest=q∧szE rest≤szE k∧AllE TokB rest∧NcAt wr cb mb n R F'∧Kept cb w wr∧nxE R rest F'=nxE R k (nxH R t F)∧RepFa wr Q rest ao (lenE k-q))
   case atStart=>exact ⟨k,_,by rw [Nat.sub_self];rfl,Nat.le_refl _,rfl,Nat.le_refl _,hall.2.1,h2,K2,rfl,by rw [Nat.sub_self];exact rep2⟩
   case round=>
    clear h2 K2 rep2
    obtain ⟨rest,F',rfl,hq,hlr,hsr,har,hnc,kw,hfold,hrep⟩:=hrel
    cases rest with
    | nil=>
     have hq0:gk=0:=by rw [←hlr];rfl
     subst hq0
     have hge:decide (((lenE k-0:Nat):Int) < (lenE k:Int))=false:=by simp
     have hf:F'=nxE R k (nxH R t F):=hfold
     subst hf
     clear hfold
     go_wp2
     go_end0
     exact ⟨rfl,hnc,kw⟩
    | node b1 o1 t1 k1 r1=>
     have hl1:lenE r1+1=gk:=hlr
     obtain ⟨d,hd⟩:∃d,d+gk=lenE k:=⟨lenE k-gk,by omega⟩
     have hnd:lenE k-gk=d:=by omega
     rw [hnd] at hrep ⊢
     have hlt:decide ((d:Int) < (lenE k:Int))=true:=by simp;omega
     rcases hrep with hn | ⟨g,rfl,hg,hrf⟩
     ·cases hn
     obtain ⟨⟨sv1,hcells,hkids⟩,hrest⟩:=hrf
     obtain ⟨x0,x1,x2,x3,x4,x5⟩:=hcells
     have hv1:RepV wr Q (exV t1 sv1) (.node b1 o1 t1 k1 r1):=⟨b1,o1,t1,k1,r1,sv1,rfl,rfl,hkids⟩
     obtain ⟨so1,sc1,hsv1⟩:=RepK.form hkids
     subst hsv1
     have hsz1:szE (.node b1 o1 t1 k1 r1)≤m:=by have:szE (.node 0 0 t k .nil)≤m+1:=hsz';simp [szE] at this hsr ⊢;omega
     have hszw:=kw.1
     have nextF:∀w3,NcAt w3 cb mb n R (nx1 R (.node b1 o1 t1 k1 r1) F')→Kept cb wr w3→∃rest F'',Value.int .i64 ((d:Int)+1) = .int .i64 ((lenE k-lenE r1:Nat):Int)∧lenE r1≤lenE k∧lenE rest=lenE r1∧szE rest≤szE k∧AllE TokB rest∧NcAt w3 cb mb n R F''∧Kept cb w w3∧nxE R rest F''=nxE R k (nxH R t F)∧RepFa w3 Q rest (some ⟨g,0,none⟩) (lenE k-lenE r1):=fun w3 h3 k3=>by
      refine ⟨r1,_,by congr 1;omega,by omega,rfl,by simp [szE] at hsr;omega,har.2.2,h3,kw.trans k3,hfold,.inr ⟨g,rfl,hg,?_⟩⟩
      rw [show lenE k-lenE r1=d+1 by omega]
      exact RepF.later (fun j hj hl=>k3.2 j hl (hQ j hj)) (fun j hj _=>hj) r1 g (d+1) hg hrest
     have NX:=hide nextF
     have HV1:=hide hv1
     have hgw:g < wr.heap.size:=World.block_lt_of_cell? _ _ x0
     have hgcb:=hQ g hg
     clear nextF hv1 hrest hkids hfold
     go_wp2_with fail
     refine (ih (.node b1 o1 t1 k1 r1) _ cb mb n R F' Q (exV t1 (.slice so1 (lenE k1) sc1)) hsz1 (hnc.later (Below.heap_alloc wr _ _ hnc.lt) (Below.heap_alloc wr _ _ hnc.map.lt)) (RepV.later (fun j _ hl=>Below.heap_alloc wr _ j hl) (fun j hj _=>hj) (unhide HV1)) har hQ).mono ?_
     rintro e w3 ⟨rfl,h3,k3⟩
     have fin3:=unhide NX w3 h3 ((Kept.alloc cb wr _).trans k3)
     clear NX HV1 k3 hnc
     go_wp2
     go_roundg (lenE r1)
     case rel=>exact fin3
     case measure=>omega
 ·have es:((kP t==2) && !kwsP.any (fun u=>(wP t).toList==u.toList))=true:=hnm
  by_cases hR:R (wP t)=0
  ·have e2:nxH R t F=noteF F 10 t.place:=by unfold nxH;rw [hnm,hR];rfl
   have onn:∀w2,NcAt w2 cb mb n R F→w2.heap[w.heap.size]?=some (.cells #[.int .i64 (kP t),.int .i64 t.place,.string (wP t),.int .i32 (nP t),.int .i32 (sP t),.slice ao (lenE k) c] 119 (0,0))→Kept cb w w2→RepFa w2 Q k ao 0→∀w3,NcAt w3 cb mb n R (noteF F 10 t.place)→Kept cb w2.drew w3→NcAt w3 cb mb n R (nxH R t F)∧w3.heap[w.heap.size]?=some (.cells #[.int .i64 (kP t),.int .i64 t.place,.string (wP t),.int .i32 (nP t),.int .i32 (sP t),.slice ao (lenE k) c] 119 (0,0))∧Kept cb w w3∧RepFa w3 Q k ao 0:=fun w2 a1 a2 a3 a4 w3 b1 b2=>by
    have l2:=(Array.getElem?_eq_some_iff.1 a2).1
    exact ⟨by rw [e2];exact b1,(b2.2 _ l2 (by omega)).trans a2,a3.trans b2.undrew,RepFa.later (w:=w2) (fun j hj hl=>b2.2 j hl (hQ j hj)) a4⟩
   have ONN:=hide onn
   clear onn
   first | (go_region_with (go_at_call 112;refine (isName_any _ (kP t) t.place (nP t) (sP t) (wP t)).mono ?_;rintro e w2 ⟨rfl,B2⟩;rw [es];have fx:=unhide ONW w2 B2;obtain ⟨h2,s2,K2,rep2,hl2⟩:=fx;have d2:=(blk6 s2).1;have c2:=bk3 h2.blk;have ON3:=hide (unhide ONN w2 h2 s2 K2 rep2);rw [hR] at hl2)) | fail
   all_goals clear ONW ONN
   all_goals go_wp2
   all_goals first | (go_region_with (go_at_call 117;refine (nnote_any _ cb mb n R F 10 t.place ?_).mono ?_;exact h2.later rfl rfl;rintro e w3 ⟨rfl,h3,k3⟩;have fx:=unhide ON3 w3 h3 k3;clear h2 s2 K2 rep2 d2 hl2;obtain ⟨h2,s2,K2,rep2⟩:=fx;have d2:=(blk6 s2).1)) | fail
   all_goals clear ON3
   all_goals go_wp2
   all_goals
    go_loopg [30] (lenE k) (fun q v wr=>∃rest F',v = .int .i64 ((lenE k-q:Nat):Int)∧q≤lenE k∧lenE rest=q∧szE rest≤szE k∧AllE TokB rest∧NcAt wr cb mb n R F'∧Kept cb w wr∧nxE R rest F'=nxE R k (nxH R t F)∧RepFa wr Q rest ao (lenE k-q))
    case atStart=>exact ⟨k,_,by rw [Nat.sub_self];rfl,Nat.le_refl _,rfl,Nat.le_refl _,hall.2.1,h2,K2,rfl,by rw [Nat.sub_self];exact rep2⟩
    case round=>
     clear h2 K2 rep2
     obtain ⟨rest,F',rfl,hq,hlr,hsr,har,hnc,kw,hfold,hrep⟩:=hrel
     cases rest with
     | nil=>
      have hq0:gk=0:=by rw [←hlr];rfl
      subst hq0
      have hge:decide (((lenE k-0:Nat):Int) < (lenE k:Int))=false:=by simp
      have hf:F'=nxE R k (nxH R t F):=hfold
      subst hf
      clear hfold
      go_wp2
      go_end0
      exact ⟨rfl,hnc,kw⟩
     | node b1 o1 t1 k1 r1=>
      have hl1:lenE r1+1=gk:=hlr
      obtain ⟨d,hd⟩:∃d,d+gk=lenE k:=⟨lenE k-gk,by omega⟩
      have hnd:lenE k-gk=d:=by omega
      rw [hnd] at hrep ⊢
      have hlt:decide ((d:Int) < (lenE k:Int))=true:=by simp;omega
      rcases hrep with hn | ⟨g,rfl,hg,hrf⟩
      ·cases hn
      obtain ⟨⟨sv1,hcells,hkids⟩,hrest⟩:=hrf
      obtain ⟨x0,x1,x2,x3,x4,x5⟩:=hcells
      have hv1:RepV wr Q (exV t1 sv1) (.node b1 o1 t1 k1 r1):=⟨b1,o1,t1,k1,r1,sv1,rfl,rfl,hkids⟩
      obtain ⟨so1,sc1,hsv1⟩:=RepK.form hkids
      subst hsv1
      have hsz1:szE (.node b1 o1 t1 k1 r1)≤m:=by have:szE (.node 0 0 t k .nil)≤m+1:=hsz';simp [szE] at this hsr ⊢;omega
      have hszw:=kw.1
      have nextF:∀w3,NcAt w3 cb mb n R (nx1 R (.node b1 o1 t1 k1 r1) F')→Kept cb wr w3→∃rest F'',Value.int .i64 ((d:Int)+1) = .int .i64 ((lenE k-lenE r1:Nat):Int)∧lenE r1≤lenE k∧lenE rest=lenE r1∧szE rest≤szE k∧AllE TokB rest∧NcAt w3 cb mb n R F''∧Kept cb w w3∧nxE R rest F''=nxE R k (nxH R t F)∧RepFa w3 Q rest (some ⟨g,0,none⟩) (lenE k-lenE r1):=fun w3 h3 k3=>by
       refine ⟨r1,_,by congr 1;omega,by omega,rfl,by simp [szE] at hsr;omega,har.2.2,h3,kw.trans k3,hfold,.inr ⟨g,rfl,hg,?_⟩⟩
       rw [show lenE k-lenE r1=d+1 by omega]
       exact RepF.later (fun j hj hl=>k3.2 j hl (hQ j hj)) (fun j hj _=>hj) r1 g (d+1) hg hrest
      have NX:=hide nextF
      have HV1:=hide hv1
      have hgw:g < wr.heap.size:=World.block_lt_of_cell? _ _ x0
      have hgcb:=hQ g hg
      clear nextF hv1 hrest hkids hfold
      go_wp2_with fail
      refine (ih (.node b1 o1 t1 k1 r1) _ cb mb n R F' Q (exV t1 (.slice so1 (lenE k1) sc1)) hsz1 (hnc.later (Below.heap_alloc wr _ _ hnc.lt) (Below.heap_alloc wr _ _ hnc.map.lt)) (RepV.later (fun j _ hl=>Below.heap_alloc wr _ j hl) (fun j hj _=>hj) (unhide HV1)) har hQ).mono ?_
      rintro e w3 ⟨rfl,h3,k3⟩
      have fin3:=unhide NX w3 h3 ((Kept.alloc cb wr _).trans k3)
      clear NX HV1 k3 hnc
      go_wp2
      go_roundg (lenE r1)
      case rel=>exact fin3
      case measure=>omega
  ·have e2:nxH R t F=F:=by unfold nxH;rw [hnm];simp [hR]
   first | (go_region_with (go_at_call 112;refine (isName_any _ (kP t) t.place (nP t) (sP t) (wP t)).mono ?_;rintro e w2 ⟨rfl,B2⟩;rw [es];have fx:=unhide ONW w2 B2;obtain ⟨h2,s2,K2,rep2,hl2⟩:=fx;have d2:=(blk6 s2).1;have c2:=bk3 h2.blk;rw [←e2] at h2)) | fail
   all_goals clear ONW
   all_goals go_wp2
   all_goals
    go_loopg [30] (lenE k) (fun q v wr=>∃rest F',v = .int .i64 ((lenE k-q:Nat):Int)∧q≤lenE k∧lenE rest=q∧szE rest≤szE k∧AllE TokB rest∧NcAt wr cb mb n R F'∧Kept cb w wr∧nxE R rest F'=nxE R k (nxH R t F)∧RepFa wr Q rest ao (lenE k-q))
    case atStart=>exact ⟨k,_,by rw [Nat.sub_self];rfl,Nat.le_refl _,rfl,Nat.le_refl _,hall.2.1,h2,K2,rfl,by rw [Nat.sub_self];exact rep2⟩
    case round=>
     clear h2 K2 rep2
     obtain ⟨rest,F',rfl,hq,hlr,hsr,har,hnc,kw,hfold,hrep⟩:=hrel
     cases rest with
     | nil=>
      have hq0:gk=0:=by rw [←hlr];rfl
      subst hq0
      have hge:decide (((lenE k-0:Nat):Int) < (lenE k:Int))=false:=by simp
      have hf:F'=nxE R k (nxH R t F):=hfold
      subst hf
      clear hfold
      go_wp2
      go_end0
      exact ⟨rfl,hnc,kw⟩
     | node b1 o1 t1 k1 r1=>
      have hl1:lenE r1+1=gk:=hlr
      obtain ⟨d,hd⟩:∃d,d+gk=lenE k:=⟨lenE k-gk,by omega⟩
      have hnd:lenE k-gk=d:=by omega
      rw [hnd] at hrep ⊢
      have hlt:decide ((d:Int) < (lenE k:Int))=true:=by simp;omega
      rcases hrep with hn | ⟨g,rfl,hg,hrf⟩
      ·cases hn
      obtain ⟨⟨sv1,hcells,hkids⟩,hrest⟩:=hrf
      obtain ⟨x0,x1,x2,x3,x4,x5⟩:=hcells
      have hv1:RepV wr Q (exV t1 sv1) (.node b1 o1 t1 k1 r1):=⟨b1,o1,t1,k1,r1,sv1,rfl,rfl,hkids⟩
      obtain ⟨so1,sc1,hsv1⟩:=RepK.form hkids
      subst hsv1
      have hsz1:szE (.node b1 o1 t1 k1 r1)≤m:=by have:szE (.node 0 0 t k .nil)≤m+1:=hsz';simp [szE] at this hsr ⊢;omega
      have hszw:=kw.1
      have nextF:∀w3,NcAt w3 cb mb n R (nx1 R (.node b1 o1 t1 k1 r1) F')→Kept cb wr w3→∃rest F'',Value.int .i64 ((d:Int)+1) = .int .i64 ((lenE k-lenE r1:Nat):Int)∧lenE r1≤lenE k∧lenE rest=lenE r1∧szE rest≤szE k∧AllE TokB rest∧NcAt w3 cb mb n R F''∧Kept cb w w3∧nxE R rest F''=nxE R k (nxH R t F)∧RepFa w3 Q rest (some ⟨g,0,none⟩) (lenE k-lenE r1):=fun w3 h3 k3=>by
       refine ⟨r1,_,by congr 1;omega,by omega,rfl,by simp [szE] at hsr;omega,har.2.2,h3,kw.trans k3,hfold,.inr ⟨g,rfl,hg,?_⟩⟩
       rw [show lenE k-lenE r1=d+1 by omega]
       exact RepF.later (fun j hj hl=>k3.2 j hl (hQ j hj)) (fun j hj _=>hj) r1 g (d+1) hg hrest
      have NX:=hide nextF
      have HV1:=hide hv1
      have hgw:g < wr.heap.size:=World.block_lt_of_cell? _ _ x0
      have hgcb:=hQ g hg
      clear nextF hv1 hrest hkids hfold
      go_wp2_with fail
      refine (ih (.node b1 o1 t1 k1 r1) _ cb mb n R F' Q (exV t1 (.slice so1 (lenE k1) sc1)) hsz1 (hnc.later (Below.heap_alloc wr _ _ hnc.lt) (Below.heap_alloc wr _ _ hnc.map.lt)) (RepV.later (fun j _ hl=>Below.heap_alloc wr _ j hl) (fun j hj _=>hj) (unhide HV1)) har hQ).mono ?_
      rintro e w3 ⟨rfl,h3,k3⟩
      have fin3:=unhide NX w3 h3 ((Kept.alloc cb wr _).trans k3)
      clear NX HV1 k3 hnc
      go_wp2
      go_roundg (lenE r1)
      case rel=>exact fin3
      case measure=>omega
end Go.Proofs.YthmmgiaobakilaaGreat
