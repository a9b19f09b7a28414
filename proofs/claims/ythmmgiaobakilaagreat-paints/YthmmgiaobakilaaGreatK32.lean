import Derived.Test.YthmmgiaobakilaaGreatK30
import Derived.Test.YthmmgiaobakilaaGreatK31
set_option maxRecDepth 100000
namespace Go.Proofs.YthmmgiaobakilaaGreat
open Go.RowKit Go.Deep
def hidDs (ds:List (Tok×Bool)):List ByteArray:=(ds.filter (·.2)).map (fun d=>wP d.1)
def flowF (ds:List (Tok×Bool)) (s:Sx):Flt:=flS (hidDs ds) s (0,0)
theorem infoStr:(Tryz.prog.info? 9).map (fun i=>(i.zero,i.size,i.bytes))=some (some (.string ⟨#[]⟩),1,16):=by kernel_rfl
theorem hidDs_snoc (ds:List (Tok×Bool)) (t:Tok) (h:Bool):hidDs (ds++[(t,h)])=if h then hidDs ds++[wP t] else hidDs ds:=by
 cases h <;> simp [hidDs]
theorem hidDs_len (ds:List (Tok×Bool)):(hidDs ds).length≤ds.length:=by
 unfold hidDs
 rw [List.length_map]
 exact List.length_filter_le _ _
theorem AllZ.y:∀ {s:Sx},AllZ s→AllY s
 | .nil,_=>trivial
 | .node _ _ _ _ _,⟨a,b,c⟩=>⟨a,AllZ.y b,AllZ.y c⟩
theorem own_strs {w:World} {base:Nat} {so:Option Addr} {sl sc:Nat} {l:List ByteArray} (h:w.ownsRow base 9 1 (.slice so sl sc) l.length (l.map Value.string)):sl=l.length∧StrsA w so l∧∀b,so.map (·.block)=some b→base≤b:=by
 rcases h.2 with ⟨e,h0⟩ | ⟨g,cap,cur,e,hb,hg,hn,hc,hs,ht⟩
 ·cases e
  exact ⟨h0.symm,.inl (List.length_eq_zero_iff.1 h0),fun b hb=>by cases hb⟩
 ·cases e
  refine ⟨rfl,.inr ⟨g,0,rfl,fun j hj=>?_⟩,fun b e=>by cases e;exact hb⟩
  have:=h.cellAt j (by omega)
  rw [Nat.zero_add,this,List.getElem?_map,List.getElem?_eq_getElem hj]
  rfl
set_option maxHeartbeats 16000000 in
theorem checkFlow_any (w:World) (Q:Nat→Prop) (hQ:∀k,Q k→k < w.heap.size) (ds:List (Tok×Bool)) (s:Sx) (nv bv:Value) (hd:RepD w Q nv ds) (hs:RepL w Q bv s) (has:AllZ s) (hdn:ds.length≤1000) (hn:szS s < 100000) :
  Calls Tryz.prog 60 #[.agg #[nv,bv]] w fun e w'=>e = .returned (.agg #[.int .i64 (flowF ds s).1,.int .i64 (flowF ds s).2])∧Below w.heap.size w w':=by
 obtain ⟨no,nc,rfl,hda⟩:=hd.a
 obtain ⟨bo,bc,hbf⟩:=RepL.form hs
 subst hbf
 obtain ⟨bl,hbl⟩:∃bl,lenS s=bl:=⟨_,rfl⟩
 rw [hbl] at hs ⊢
 clear hbl hd
 obtain ⟨i0,hi0,hz0,hz1,hz2⟩:=info_parts infoStr
 obtain ⟨w4,hw4⟩:∃w4,((w.alloc (.cells #[.slice no ds.length nc,.slice bo bl bc] 68)).alloc (.cells #[.int .i64 0,.int .i64 0] 105)).alloc (.cells #[.slice none 0 0,.int .i64 0,.int .i64 0] 163)=w4:=⟨_,rfl⟩
 have z4:w4.heap.size=w.heap.size+3:=by rw [←hw4];simp
 have b4:∀(W:World) (o:Obj) (k:Nat),k < W.heap.size→(W.alloc o).heap[k]?=W.heap[k]?:=fun W o k hk=>Below.heap_alloc W o k hk
 have t4:w4.heap[w.heap.size]?=some (.cells #[.slice no ds.length nc,.slice bo bl bc] 68 (0,0)):=by rw [←hw4,b4 _ _ _ (by simp;omega),b4 _ _ _ (by simp)];exact heap_alloc_new w _
 have r4:w4.heap[w.heap.size+1]?=some (.cells #[.int .i64 0,.int .i64 0] 105 (0,0)):=by rw [←hw4,b4 _ _ _ (by simp)];exact (by simpa using heap_alloc_new (w.alloc (.cells #[.slice no ds.length nc,.slice bo bl bc] 68)) (.cells #[.int .i64 0,.int .i64 0] 105))
 have c4:w4.heap[w.heap.size+2]?=some (.cells #[.slice none 0 0,.int .i64 0,.int .i64 0] 163 (0,0)):=by rw [←hw4];exact (by simpa using heap_alloc_new ((w.alloc (.cells #[.slice no ds.length nc,.slice bo bl bc] 68)).alloc (.cells #[.int .i64 0,.int .i64 0] 105)) (.cells #[.slice none 0 0,.int .i64 0,.int .i64 0] 163))
 have sm4:Same w w4:=by rw [←hw4];exact ⟨rfl,rfl,rfl⟩
 have B4:∀j,j < w.heap.size→w4.heap[j]?=w.heap[j]?:=fun j hj=>by rw [←hw4,b4 _ _ _ (by simp;omega),b4 _ _ _ (by simp;omega),b4 _ _ _ hj]
 have d4:RepDa w4 Q ds no:=hda.later (fun j hj hl=>B4 j hl) (by omega)
 have hb4:=hide (hs.later (w':=w4) (fun j hj hl=>B4 j hl) (fun j hj _=>hj))
 have hlen:ds.length≤100000:=by omega
 have hcne:∀k,Q k→k≠w.heap.size+2:=fun k hk=>by have:=hQ k hk;omega
 clear hda hs b4
 have x4:=(bk2 t4).1
 go_enter Tryz.func60,Tryz.ntmps60
 go_wp2
 clear hw4
 rw [show w.heap.size+1+1=w.heap.size+2 from rfl]
 go_loopg [9] ds.length (fun q v wr=>∃so sl sc,v = .int .i64 ((ds.length-q:Nat):Int)∧q≤ds.length∧wr.heap[w.heap.size+2]?=some (.cells #[.slice so sl sc,.int .i64 0,.int .i64 0] 163 (0,0))∧wr.ownsRow (w.heap.size+3) 9 1 (.slice so sl sc) (hidDs (ds.take (ds.length-q))).length ((hidDs (ds.take (ds.length-q))).map Value.string)∧Kept (w.heap.size+2) w4 wr)
 case atStart=>exact ⟨none,0,0,by rw [Nat.sub_self];rfl,Nat.le_refl _,c4,by rw [Nat.sub_self];exact World.ownsRow_nil _ _ _ _,Kept.refl _ _⟩
 case round=>
 clear c4
 obtain ⟨so,sl,sc,rfl,hq,hcb,own,kw⟩:=hrel
 have hszw:=kw.1
 have tr:=(kw.2 _ (by omega) (by omega)).trans t4
 have rr:=(kw.2 _ (by omega) (by omega)).trans r4
 have xr:=(bk2 tr).1
 cases gk with
 | zero=>
  have hge:decide (((ds.length-0:Nat):Int) < (ds.length:Int))=false:=by simp
  rw [Nat.sub_zero,List.take_length] at own
  obtain ⟨hsl,hstr,hbase⟩:=own_strs own
  have fc:FcAt wr (w.heap.size+2) so sc (hidDs ds) (0,0):=⟨by rw [←hsl];exact hcb,hstr,fun e=>by have:=hbase _ e;omega,by have:=hidDs_len ds;omega⟩
  go_wp2_with fail
  refine (fstm_all (szS s+1) s wr _ sc so (hidDs ds) (0,0) Q (.slice bo bl bc) (by omega) fc (RepL.later (fun j hj hl=>kw.2 j hl (hcne j hj)) (fun j hj _=>hj) (unhide hb4)) has.y hcne (by omega)).mono ?_
  rintro e w5 ⟨rfl,h5,k5⟩
  have l5:=k5.1
  have r5:=(k5.2 _ (by omega) (by omega)).trans rr
  obtain ⟨⟨y0,y1⟩,v0,v1⟩:=bk2 r5
  have c5:=(bk3 h5.blk).1
  have fin:∀W:World,Same w5 W→w5.heap.size≤W.heap.size→(∀j,j≠w.heap.size+1→W.heap[j]?=w5.heap[j]?)→Below w.heap.size w W:=by
   intro W smW a b
   have smA:=((sm4.trans kw.same).trans k5.same).trans smW
   exact ⟨smA.os,smA.tape,smA.output,by omega,fun j hj=>(b j (by omega)).trans ((k5.2 j (by omega) (by omega)).trans ((kw.2 j (by omega) (by omega)).trans (B4 j hj)))⟩
  have FIN:=hide fin
  clear kw k5 tr rr fin own fc hcb
  go_wp2
  refine bodyPost_ret (v:=.agg #[.int .i64 (flowF ds s).1,.int .i64 (flowF ds s).2]) (by simp [results,Tryz.results60,go_sem,y0,y1,flowF]) rfl ⟨rfl,unhide FIN _ (((Same.refl _).set _ _).set _ _) (by simp) (fun j hj=>(Below.heap_setCell _ _ _ _ hj).trans (Below.heap_setCell _ _ _ _ hj))⟩
 | succ gk=>
  obtain ⟨d,hd⟩:∃d,d+(gk+1)=ds.length:=⟨ds.length-(gk+1),by omega⟩
  have hnd:ds.length-(gk+1)=d:=by omega
  rw [hnd] at own ⊢
  have hlt:decide ((d:Int) < (ds.length:Int))=true:=by simp;omega
  obtain ⟨⟨t,hb⟩,hget⟩:∃p,ds[d]?=some p:=⟨ds[d],List.getElem?_eq_getElem (by omega)⟩
  have htk:ds.take (d+1)=ds.take d++[(t,hb)]:=by rw [List.take_add_one,hget];rfl
  have dr:=d4.later (w':=wr) (fun j hj hl=>kw.2 j hl (hcne j hj)) kw.1
  rcases dr with hn0 | ⟨g,rfl,hg,hgl,hcs⟩
  ·rw [hn0] at hd;simp at hd
  obtain ⟨q0,q1,q2,q3,q4,q5⟩:=dec_cells hcs hget
  have hgw:=hQ g hg
  have hl1:=hidDs_len (ds.take d)
  have hl2:(ds.take d).length≤ds.length:=List.length_take_le' _ _
  have HTK:=hide htk
  clear hcs htk
  obtain ⟨⟨e0,e1,e2⟩,f0,f1,f2⟩:=bk3 hcb
  cases hb
  ·have nx:∃so' sl' sc',Value.int .i64 ((d:Int)+1) = .int .i64 ((ds.length-gk:Nat):Int)∧gk≤ds.length∧(wr.alloc (.cells #[.int .i64 (kP t),.int .i64 t.place,.string (wP t),.int .i32 (nP t),.int .i32 (sP t),.bool false] 160)).heap[w.heap.size+2]?=some (.cells #[.slice so' sl' sc',.int .i64 0,.int .i64 0] 163 (0,0))∧(wr.alloc (.cells #[.int .i64 (kP t),.int .i64 t.place,.string (wP t),.int .i32 (nP t),.int .i32 (sP t),.bool false] 160)).ownsRow (w.heap.size+3) 9 1 (.slice so' sl' sc') (hidDs (ds.take (ds.length-gk))).length ((hidDs (ds.take (ds.length-gk))).map Value.string)∧Kept (w.heap.size+2) w4 (wr.alloc (.cells #[.int .i64 (kP t),.int .i64 t.place,.string (wP t),.int .i32 (nP t),.int .i32 (sP t),.bool false] 160)):=by
    refine ⟨so,sl,sc,by congr 1;omega,by omega,(Below.heap_alloc wr _ _ (by omega)).trans hcb,?_,kw.trans (Kept.alloc _ _ _)⟩
    rw [show ds.length-gk=d+1 by omega,unhide HTK,hidDs_snoc]
    exact own.alloc _
   have NX:=hide nx
   clear nx own kw tr rr
   go_wp2
   go_roundg gk
   case rel=>exact unhide NX
   case measure=>omega
  ·have hlw:w.heap.size+2 < wr.heap.size:=by have:=kw.1;omega
   have hlx:¬ w.heap.size+2=wr.heap.size:=by omega
   go_wp2_with (at_builtin;refine wpList_append_lies _ rfl _ _ 88 rfl (w.heap.size+3) 9 i0 (.string ⟨#[]⟩) 1 16 Tryz.underlying88 hi0 hz0 hz1 hz2 rfl (by decide) (.slice so sl sc) (hidDs (ds.take d)).length ((hidDs (ds.take d)).map Value.string) rfl ((own.alloc _).alloc _) ⟨wr.heap.size+1,0,none⟩ 1 1 [.string (wP t)] rfl rfl (World.news_of_block (by simpa using heap_alloc_new (wr.alloc _) _)) (by simp [Value.oneCell']) (by decide) (by unfold maxLen;omega) (by omega) (by simp;omega) (wr.heap.size+2) (by simp) ?_;intro g' cap' wn hown hgrow hat hltn;have hzn:=hgrow.size;simp at hzn;have cbn:wn.heap[w.heap.size+2]?=some (.cells #[.slice so sl sc,.int .i64 0,.int .i64 0] 163 (0,0)):=(hgrow.block _ (by simp;omega) (fun e=>by have:=(own.lt _ e.symm).1;omega)).trans ((Below.heap_alloc _ _ _ (by simp;omega)).trans ((Below.heap_alloc wr _ _ (by omega)).trans hcb));have e9:=(bk3 cbn).1.1;have f9:=(bk3 cbn).2.1)
   have nx:∃so' sl' sc',Value.int .i64 ((d:Int)+1) = .int .i64 ((ds.length-gk:Nat):Int)∧gk≤ds.length∧(wn.setCell ⟨w.heap.size+2,0,none⟩ (.slice (some ⟨g',0,none⟩) ((hidDs (ds.take d)).length+1) cap')).heap[w.heap.size+2]?=some (.cells #[.slice so' sl' sc',.int .i64 0,.int .i64 0] 163 (0,0))∧(wn.setCell ⟨w.heap.size+2,0,none⟩ (.slice (some ⟨g',0,none⟩) ((hidDs (ds.take d)).length+1) cap')).ownsRow (w.heap.size+3) 9 1 (.slice so' sl' sc') (hidDs (ds.take (ds.length-gk))).length ((hidDs (ds.take (ds.length-gk))).map Value.string)∧Kept (w.heap.size+2) w4 (wn.setCell ⟨w.heap.size+2,0,none⟩ (.slice (some ⟨g',0,none⟩) ((hidDs (ds.take d)).length+1) cap')):=by
    refine ⟨_,_,_,by congr 1;omega,by omega,heap_setCell_same _ (w.heap.size+2) 0 _ _ _ cbn,?_,?_⟩
    ·rw [show ds.length-gk=d+1 by omega,unhide HTK,hidDs_snoc,if_pos rfl]
     have:=rowP_same hown (w':=wn.setCell ⟨w.heap.size+2,0,none⟩ (.slice (some ⟨g',0,none⟩) ((hidDs (ds.take d)).length+1) cap')) (fun k hk=>Below.heap_setCell _ _ _ _ (by have:=(hown.lt k hk).1;show k≠w.heap.size+2;omega))
     simpa using this
    ·refine ⟨by simp;omega,fun k hk hn=>?_,?_⟩
     ·refine (Below.heap_setCell _ _ _ _ hn).trans ((hgrow.block k (by simp;omega) (fun e=>by have:=(own.lt _ e.symm).1;omega)).trans ((Below.heap_alloc _ _ _ (by simp;omega)).trans ((Below.heap_alloc wr _ _ (by omega)).trans (kw.2 k hk hn))))
     ·exact kw.same.trans (((((Same.refl wr).alloc _).alloc _).trans (Same.grown hgrow)).set _ _)
   have NX:=hide nx
   clear nx own kw tr rr hown hgrow cbn
   go_wp2
   go_roundg gk
   case rel=>exact unhide NX
   case measure=>omega
end Go.Proofs.YthmmgiaobakilaaGreat
