import Derived.Test.YthmmgiaobakilaaGreatK40
import Derived.Test.YthmmgiaobakilaaGreatK46
set_option maxRecDepth 100000
namespace Go.Proofs.YthmmgiaobakilaaGreat
open Go.RowKit Go.Deep
def pdOf (sw sh:Int) (xs ys:List Int):PD:=⟨0,0,0,0,0,sw,sh,none,none,0,0,xs,ys,⟨#[]⟩⟩
def PD.data (D:PD):PD:=pdOf D.sw D.sh D.opens D.hids
theorem word_data (D:PD) (S:PSt) (u:ByteArray) (vs:List Int):wordP D S u vs=wordP D.data S u vs:=by cases D;rfl
theorem head_data (D:PD) (S:PSt) (t:Tok) (vs:List Int):headP D S t vs=headP D.data S t vs:=by
 unfold headP;rw [word_data]
theorem evE_data (D:PD):∀(e:Ex) (S:PSt),evE D e S=evE D.data e S
 | .nil,_=>rfl
 | .node _ _ t k r,S=>by
  rw [evE,evE,evE_data D k S,head_data D,evE_data D r]
theorem ev1_data (D:PD) (e:Ex) (S:PSt):ev1 D e S=ev1 D.data e S:=by
 cases e with
 | nil=>rfl
 | node b o t k r=>rw [ev1,ev1,evE_data D k S,head_data D]
theorem put_data (D:PD) (S:PSt) (b:Bool) (v:Int):putP D S b v=putP D.data S b v:=by cases D;rfl
theorem rounds_data {f g:PSt→PSt} (h:∀T,f T=g T) (nm:ByteArray) (q:Nat):∀(i:Int) (S:PSt),roundsP f nm q i S=roundsP g nm q i S:=by
 have e:f=g:=funext h
 intro i S;rw [e]
theorem stP_data (D:PD) (n:Nat):∀(s:Sx),szS s≤n→∀S,stP D s S=stP D.data s S:=by
 induction n with
 | zero=>
  intro s hs S
  cases s with
  | nil=>rfl
  | node b o p k r=>simp [szS] at hs
 | succ n ih=>
  intro s hs S
  cases s with
  | nil=>rfl
  | node b o p k r=>
   simp only [szS] at hs
   by_cases hov:20000 < S.steps
   ·rw [stP_over hov,stP_over hov]
   have hr:∀T,stP D r T=stP D.data r T:=ih r (by omega)
   by_cases t0:p.tag=0
   ·rw [stP_0 hov t0,stP_0 hov t0,ev1_data D,hr]
   by_cases t1:p.tag=1
   ·cases k with
    | nil=>
     have e:∀E:PD,stP E (.node b o p .nil r) S=stP E r (ev1 E p.e (stepP S)).2:=fun E=>by
      show (if 20000 < S.steps then S else stP E r (if p.tag=0 then _ else if p.tag=1 then _ else _))=_
      rw [if_neg hov,if_neg t0,if_pos t1]
     rw [e D,e D.data,ev1_data D,hr]
    | node b1 o1 q s u=>
     simp only [szS] at hs
     rw [stP_1 hov t1,stP_1 hov t1,ev1_data D,ih s (by omega),ih u (by omega),hr]
   by_cases t2:p.tag=2
   ·rw [stP_2 hov t2,stP_2 hov t2,rounds_data (ih k (by omega)),hr]
   ·have e:∀E:PD,stP E (.node b o p k r) S=stP E r (putP E (ev1 E p.e (stepP S)).2 (decide (wP p.t=sOUT)) (ev1 E p.e (stepP S)).1):=fun E=>by
     cases k <;> (show (if 20000 < S.steps then S else stP E r (if p.tag=0 then _ else if p.tag=1 then _ else if p.tag=2 then _ else _))=_;rw [if_neg hov,if_neg t0,if_neg t1,if_neg t2])
    rw [e D,e D.data,ev1_data D,put_data D,hr]
theorem goP_data (D:PD) (t:Sx):∀(l:List (Int×Int)) (S:PSt),goP D t l S=goP D.data t l S
 | [],_=>rfl
 | x::l,S=>by
  have e:ptOne D t S x=ptOne D.data t S x:=stP_data D _ t (Nat.le_refl _) _
  rw [goP,goP,e,goP_data D t l]
def PntOut (w:World) (sw sh:Int) (xs ys:List Int) (src:ByteArray) (e:Ending) (w':World):Prop:=
 (shapeE sw sh xs ys≠0∧Below w.heap.size w w'∧e = .returned (.tuple #[emptyR,.int .i64 (shapeE sw sh xs ys),.int .i64 0])) ∨
 (shapeE sw sh xs ys=0∧(readF src).1≠0∧Below w.heap.size w w'∧e = .returned (.tuple #[emptyR,.int .i64 (readF src).1,.int .i64 (readF src).2])) ∨
 (shapeE sw sh xs ys=0∧readF src=(0,0)∧∃ds t,IsTree src ds t∧PicOut w (goP (pdOf sw sh xs ys) t (ptsOf sw.toNat sh.toNat) (startP (sw.toNat*sh.toNat))) e w')
theorem pscene_any (w:World) (sw sh:Int) (so sd:Option Addr) (c1 c2:Nat) (xs ys:List Int) (src:ByteArray) (hx:IntsAt w.heap.size w so xs) (hy:IntsAt w.heap.size w sd ys) (hlx:xs.length≤maxLen) (hly:ys.length≤maxLen) (hsrc:src.size≤maxLen) :
  Calls Tryz.prog 21 #[scV sw sh so sd c1 c2 xs ys src] w (PntOut w sw sh xs ys src):=by
 by_cases h1:shapeE sw sh xs ys=0
 ·by_cases h2:(readF src).1=0
  ·obtain ⟨ds,t,hT,hR⟩:=tree_is h2
   obtain ⟨wf,sz,wt⟩:=tree_wf hT
   obtain ⟨⟨a1,a2⟩,⟨b1,b2⟩,_,_⟩:=shape_ok h1
   obtain ⟨pw,hpw⟩:∃pw:Nat,sw=pw:=⟨sw.toNat,by omega⟩
   obtain ⟨ph,hph⟩:∃ph:Nat,sh=ph:=⟨sh.toNat,by omega⟩
   subst hpw
   subst hph
   refine (scene_paint w pw ph so sd c1 c2 xs ys src hx hy hlx hly h1 hsrc hR ds t hT wf sz wt).mono ?_
   rintro e w' ⟨D,d1,d2,d3,d4,ho⟩
   refine .inr (.inr ⟨h1,hR,ds,t,hT,?_⟩)
   rw [goP_data] at ho
   have e:D.data=pdOf pw ph xs ys:=by unfold PD.data;rw [d1,d2,d3,d4]
   rw [e] at ho
   exact ho
  ·exact (scene_read w sw sh so sd c1 c2 xs ys src hx hy hlx hly h1 hsrc h2).mono fun e w' ⟨a,b⟩=>.inr (.inl ⟨h1,h2,a,b⟩)
 ·exact (scene_shape w sw sh so sd c1 c2 xs ys src hx hy hlx hly h1).mono fun e w' ⟨a,b⟩=>.inl ⟨h1,a,b⟩
def PntRes (w:World) (E P:Int) (r:Option PSt) (e:Ending) (w':World):Prop:=Below w.heap.size w w'∧match r with
 | none=>e = .returned (.tuple #[emptyR,.int .i64 E,.int .i64 P])
 | some S=>∃ob hb rv,e = .returned (.tuple #[.agg #[.slice (some ⟨ob,0,none⟩) S.opn.length S.opn.length,.slice (some ⟨hb,0,none⟩) S.hid.length S.hid.length,.int .i64 S.steps,.int .i64 S.touched,rv],.int .i64 E,.int .i64 P])∧w'.heap[ob]?=some (picO S.opn)∧w'.heap[hb]?=some (picO S.hid)∧w'.ownsRow w.heap.size 61 2 rv S.trace.length (tchsC S.trace)∧w.heap.size≤ob∧w.heap.size≤hb∧ob≠hb∧rv.ownBlock≠some ob∧rv.ownBlock≠some hb
def Ans (sw sh:Int) (xs ys:List Int) (src:ByteArray) (E P:Int) (r:Option PSt):Prop:=
 (shapeE sw sh xs ys≠0∧E=shapeE sw sh xs ys∧P=0∧r=none) ∨
 (shapeE sw sh xs ys=0∧(readF src).1≠0∧E=(readF src).1∧P=(readF src).2∧r=none) ∨
 (shapeE sw sh xs ys=0∧readF src=(0,0)∧P=0∧∃ds t,IsTree src ds t∧r=goP (pdOf sw sh xs ys) t (ptsOf sw.toNat sh.toNat) (startP (sw.toNat*sh.toNat))∧E=if r.isSome then 0 else 12)
theorem pnt_res {w:World} {sw sh:Int} {xs ys:List Int} {src:ByteArray} {e:Ending} {w':World} (h:PntOut w sw sh xs ys src e w'):∃E P r,Ans sw sh xs ys src E P r∧PntRes w E P r e w':=by
 rcases h with ⟨h1,hb,he⟩ | ⟨h1,h2,hb,he⟩ | ⟨h1,h2,ds,t,hT,ho⟩
 ·exact ⟨_,_,none,.inl ⟨h1,rfl,rfl,rfl⟩,hb,he⟩
 ·exact ⟨_,_,none,.inr (.inl ⟨h1,h2,rfl,rfl,rfl⟩),hb,he⟩
 ·cases hg:goP (pdOf sw sh xs ys) t (ptsOf sw.toNat sh.toNat) (startP (sw.toNat*sh.toNat)) with
  | none=>
   rw [hg] at ho
   exact ⟨12,0,none,.inr (.inr ⟨h1,h2,rfl,ds,t,hT,hg.symm,rfl⟩),ho.1,ho.2⟩
  | some S=>
   rw [hg] at ho
   exact ⟨0,0,some S,.inr (.inr ⟨h1,h2,rfl,ds,t,hT,hg.symm,rfl⟩),ho.1,ho.2⟩
theorem PntRes.form {w:World} {E P:Int} {r:Option PSt} {e:Ending} {w':World} (h:PntRes w E P r e w'):∃ao n c bo m d i j to k f,e = .returned (.tuple #[.agg #[.slice ao n c,.slice bo m d,.int .i64 i,.int .i64 j,.slice to k f],.int .i64 E,.int .i64 P]):=by
 cases r with
 | none=>exact ⟨none,0,0,none,0,0,0,0,none,0,0,h.2⟩
 | some S=>
  obtain ⟨hb,ob,hb',rv,he,_,_,hr,_⟩:=h
  rcases hr.2 with ⟨h1,h0⟩ | ⟨g,cap,cur,rfl,_⟩
  ·rw [h1] at he;exact ⟨_,_,_,_,_,_,_,_,_,_,_,he⟩
  ·exact ⟨_,_,_,_,_,_,_,_,_,_,_,he⟩
theorem PntRes.later {w w1:World} {E P:Int} {r:Option PSt} {e:Ending} {w' w3:World} (h:PntRes w1 E P r e w') (hb:Below w.heap.size w w1) (hk:∀k,w1.heap.size≤k→w3.heap[k]?=w'.heap[k]?) (h3:Below w.heap.size w w3):PntRes w E P r e w3:=by
 have hsz:=hb.size
 cases r with
 | none=>exact ⟨h3,h.2⟩
 | some S=>
  obtain ⟨hb',ob,hb2,rv,he,a1,a2,a3,a4,a5,a6,a7,a8⟩:=h
  refine ⟨h3,ob,hb2,rv,he,(hk _ a4).trans a1,(hk _ a5).trans a2,?_,by omega,by omega,a6,a7,a8⟩
  exact own_base (own_sameP a3 (fun k e=>hk k (a3.lt k e).1)) hsz
set_option maxHeartbeats 1000000 in
theorem paint_any (w:World) (sw sh:Int) (so sd:Option Addr) (c1 c2:Nat) (xs ys:List Int) (src:ByteArray) (hx:IntsAt w.heap.size w so xs) (hy:IntsAt w.heap.size w sd ys) (hlx:xs.length≤maxLen) (hly:ys.length≤maxLen) (hsrc:src.size≤maxLen) :
  Calls Tryz.prog 8 #[scV sw sh so sd c1 c2 xs ys src] w fun e w'=>∃E P r,Ans sw sh xs ys src E P r∧PntRes w E P r e w':=by
 obtain ⟨w1,hw1⟩:∃w1,(w.alloc (.cells #[.int .i64 sw,.int .i64 sh,.slice so xs.length c1,.slice sd ys.length c2,.string src] 24)).alloc (.cells #[.slice none 0 0,.slice none 0 0,.int .i64 0,.int .i64 0,.slice none 0 0] 36)=w1:=⟨_,rfl⟩
 have b1:Below w.heap.size w w1:=by rw [←hw1];exact ((Below.refl _ w).alloc (Nat.le_refl _) _).alloc (by simp) _
 have z1:w1.heap.size=w.heap.size+2:=by rw [←hw1];simp
 have s1:w1.heap[w.heap.size+1]?=some (.cells #[.slice none 0 0,.slice none 0 0,.int .i64 0,.int .i64 0,.slice none 0 0] 36 (0,0)):=by
  rw [←hw1];exact (by simpa using heap_alloc_new (w.alloc _) (.cells #[.slice none 0 0,.slice none 0 0,.int .i64 0,.int .i64 0,.slice none 0 0] 36))
 have s0:w1.heap[w.heap.size]?=some (.cells #[.int .i64 sw,.int .i64 sh,.slice so xs.length c1,.slice sd ys.length c2,.string src] 24 (0,0)):=by
  rw [←hw1];exact (Below.heap_alloc _ _ _ (by simp)).trans (heap_alloc_new w _)
 obtain ⟨x0,x1,x2,x3,x4⟩:=(bk5 s0).1
 have SC:=hide (pscene_any w1 sw sh so sd c1 c2 xs ys src ((hx.later b1 (Nat.le_refl _)).mono (by omega)) ((hy.later b1 (Nat.le_refl _)).mono (by omega)) hlx hly hsrc)
 have HB1:=hide b1
 have HZ1:=hide z1
 clear hx hy hlx hly hsrc b1
 unfold scV at SC ⊢
 go_enter Tryz.func8,Tryz.ntmps8
 go_wp2_with fail
 clear hw1 z1 x0 x1 x2 x3 x4
 refine (unhide SC).mono ?_
 intro e w2 ho
 obtain ⟨E,P,r,hans,hres⟩:=pnt_res ho
 obtain ⟨ao,n,c,bo,m,d,i,j,to,k,f,he⟩:=hres.form
 have s2:=(hres.1.block _ (by have:=unhide HZ1;omega)).trans s1
 obtain ⟨⟨y0,y1,y2,y3,y4⟩,yz⟩:=bk5 s2
 have s3:=set5 s2 (.slice ao n c) (.slice bo m d) (.int .i64 i) (.int .i64 j) (.slice to k f)
 have FIN:Hid (∃E' P' r',Ans sw sh xs ys src E' P' r'∧PntRes w E' P' r' (.returned (.tuple #[.agg #[.slice ao n c,.slice bo m d,.int .i64 i,.int .i64 j,.slice to k f],.int .i64 E,.int .i64 P])) (((((w2.setCell ⟨w.heap.size+1,0,none⟩ (.slice ao n c)).setCell ⟨w.heap.size+1,1,none⟩ (.slice bo m d)).setCell ⟨w.heap.size+1,2,none⟩ (.int .i64 i)).setCell ⟨w.heap.size+1,3,none⟩ (.int .i64 j)).setCell ⟨w.heap.size+1,4,none⟩ (.slice to k f))):=by
  have hz:=unhide HZ1
  refine ⟨E,P,r,hans,?_⟩
  rw [←he]
  refine hres.later (unhide HB1) (fun q hq=>?_) ?_
  ·have ne:q≠w.heap.size+1:=by omega
   exact (Below.heap_setCell _ _ _ _ ne).trans ((Below.heap_setCell _ _ _ _ ne).trans ((Below.heap_setCell _ _ _ _ ne).trans ((Below.heap_setCell _ _ _ _ ne).trans (Below.heap_setCell _ _ _ _ ne))))
  ·have b2:Below w.heap.size w w2:=(unhide HB1).trans (hres.1.mono (by omega))
   exact ((((b2.setCell (p:=⟨w.heap.size+1,0,none⟩) (by simp) _).setCell (p:=⟨w.heap.size+1,1,none⟩) (by simp) _).setCell (p:=⟨w.heap.size+1,2,none⟩) (by simp) _).setCell (p:=⟨w.heap.size+1,3,none⟩) (by simp) _).setCell (p:=⟨w.heap.size+1,4,none⟩) (by simp) _
 obtain ⟨z0,z1,z2,z3,z4⟩:=(bk5 s3).1
 subst he
 have Z0:=hide z0
 have Z1:=hide z1
 have Z2:=hide z2
 have Z3:=hide z3
 have Z4:=hide z4
 clear z0 z1 z2 z3 z4 s3 s2 s1 s0 hres hans ho HB1 HZ1 SC
 go_wp2
 refine bodyPost_ret (v:=.tuple #[.agg #[.slice ao n c,.slice bo m d,.int .i64 i,.int .i64 j,.slice to k f],.int .i64 E,.int .i64 P]) (by simp [results,Tryz.results8,go_sem,unhide Z0,unhide Z1,unhide Z2,unhide Z3,unhide Z4]) rfl (unhide FIN)
end Go.Proofs.YthmmgiaobakilaaGreat
