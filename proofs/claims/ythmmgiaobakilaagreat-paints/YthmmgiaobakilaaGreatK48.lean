import Derived.Test.YthmmgiaobakilaaGreatK24
import Derived.Test.YthmmgiaobakilaaGreatK25
set_option maxRecDepth 100000
namespace Go.Proofs.YthmmgiaobakilaaGreat
open Go.RowKit
theorem start3 {E:Env} (hm:E.mode=3) (σ:St):putVR (putVR (xyS σ) 0 (E.point % E.sw)) 1 (E.point / E.sw)=startS E σ:=by
 unfold putVR xyS startS
 rw [hm]
 rfl
theorem WkAt.drewX {w:World} {wb:Nat} {HS:List (Nat×Obj)} {E:Env} {σ:St} {tv lv so sd ov hv rv:Value} (h:WkAt w wb HS E σ tv lv so sd ov hv rv):WkAt w.drew wb HS E σ tv lv so sd ov hv rv:=
 ⟨h.blk,h.tokens,h.tokLow,h.tokSome,h.tokFew,h.rowL,h.rowR,h.rowO,h.rowH,h.apLR,h.apLO,h.apLH,h.apRO,h.apRH,h.apOH,h.ints1,h.ints2,h.held⟩
set_option maxHeartbeats 8000000 in
theorem source_hi (n:Nat) (w:World) (wb:Nat) (HS:List (Nat×Obj)) (E:Env) (σ σ':St) (h:Wk w wb HS E σ) (hok:OkS σ) (hm3:E.mode=3) (hsw:1≤E.sw∧E.sw≤6) (hpt:0≤E.point∧E.point < 1000) (hM:sourceM n E σ=some σ') :
  Calls Tryz.prog 25 #[.pointer (some ⟨wb,0,none⟩)] w (SrcOut wb HS E w σ'):=by
 have tf:=h.some
 unfold sourceM at hM
 split at hM
 ·cases hM
 rename_i hg
 clear hg
 obtain ⟨q,hq,hM⟩:=Option.bind_eq_some_iff.1 hM
 have HQ:=hide hq
 have HM:=hide hM
 clear hq hM
 have oks:OkS (startS E σ):=⟨by simp [startS],hok.2⟩
 obtain ⟨tv,lv,so,sd,ov,hv,rv,hc⟩:=h
 have hlt:=hc.lt
 have c4:=hc.cell 4
 have f4:=hc.thaw 4
 simp at c4
 obtain ⟨W1,hW1⟩:∃W1,((w.setCell ⟨wb,4,none⟩ (.slice (some ⟨w.heap.size,0,none⟩) 2 2)).alloc (.cells #[.string ⟨#[120]⟩,.int .i64 0,.bool false,.bool false,.string ⟨#[121]⟩,.int .i64 0,.bool false,.bool false] 91))=W1:=⟨_,rfl⟩
 have n1:=hc.newL
 rw [hW1] at n1
 have b1:Below wb w W1:=by rw [←hW1];exact ((Below.refl wb w).setCell (by show wb≤wb;omega) _).alloc (by simp;omega) _
 have d1:=n1.cell 1
 have d4:=n1.cell 4
 have d5:=n1.cell 5
 have d15:=n1.cell 15
 simp at d1 d4 d5 d15
 rw [hm3] at d1
 have r1:W1.cell? ⟨w.heap.size,1,none⟩=some (.int .i64 0):=by
  have:=n1.rowL.cellAt 1 (by show 1 < 2*4;decide)
  exact this
 have r5:W1.cell? ⟨w.heap.size,5,none⟩=some (.int .i64 0):=by
  have:=n1.rowL.cellAt 5 (by show 5 < 2*4;decide)
  exact this
 have fz:∀o,W1.frozen? ⟨w.heap.size,o,none⟩=false:=fun o=>by
  rcases n1.rowL.2 with ⟨e,_⟩ | ⟨g',cap,cur,e,hb,hg,_⟩
  ·cases e
  ·cases e
   simp [World.frozen?,hg]
 have fz1:=fz 1
 have fz5:=fz 5
 obtain ⟨sw,hsw'⟩:∃x,E.sw=x:=⟨_,rfl⟩
 obtain ⟨pt,hpt'⟩:∃x,E.point=x:=⟨_,rfl⟩
 rw [hsw'] at hsw d5
 rw [hpt'] at hpt d15
 obtain ⟨hs1,hs2⟩:=hsw
 obtain ⟨hp1,hp2⟩:=hpt
 have em:pt.tmod sw=pt % sw:=Int.tmod_eq_emod_of_nonneg hp1
 have eq:pt.tdiv sw=pt / sw:=Int.tdiv_eq_ediv_of_nonneg hp1
 have m0:0≤pt % sw:=Int.emod_nonneg _ (by omega)
 have m1:pt % sw < sw:=Int.emod_lt_of_pos _ (by omega)
 have q0:0≤pt / sw:=Int.ediv_nonneg hp1 (by omega)
 have q1:pt / sw≤pt:=Int.ediv_le_self _ hp1
 obtain ⟨vm,hvm⟩:∃x,pt % sw=x:=⟨_,rfl⟩
 obtain ⟨vq,hvq⟩:∃x,pt / sw=x:=⟨_,rfl⟩
 rw [hvm] at em m0 m1
 rw [hvq] at eq q0 q1
 have hsne:¬ sw=0:=by omega
 have hne:¬ wb=w.heap.size:=by omega
 have hne':¬ w.heap.size=wb:=by omega
 have n1d:WkAt W1.drew wb HS E (xyS σ) tv (.slice (some ⟨w.heap.size,0,none⟩) (xyS σ).cells.length 2) so sd ov hv rv:=n1.drewX
 obtain ⟨W2,hW2⟩:∃W2,W1.drew.setCell ⟨w.heap.size,1,none⟩ (.int .i64 vm)=W2:=⟨_,rfl⟩
 have n2:WkAt W2 wb HS E (putVR (xyS σ) 0 vm) tv (.slice (some ⟨w.heap.size,0,none⟩) (xyS σ).cells.length 2) so sd ov hv rv:=by
  rw [←hW2];exact n1d.setL (k:=0) vm (by show 0 < 2;decide)
 have b2:Below wb w W2:=by rw [←hW2];exact b1.drew.setCell (p:=⟨w.heap.size,1,none⟩) (by show wb≤w.heap.size;omega) _
 have g1:=n2.cell 1
 have g4:=n2.cell 4
 have g5:=n2.cell 5
 have g15:=n2.cell 15
 simp at g1 g4 g5 g15
 rw [show (xyS σ).cells.length=2 from rfl] at g4
 rw [hsw'] at g5
 rw [hpt'] at g15
 have s5:W2.cell? ⟨w.heap.size,5,none⟩=some (.int .i64 0):=by
  rw [←hW2];exact (World.cell?_setCell_other _ _ _ _ (by simp)).trans r5
 have fy5:W2.frozen? ⟨w.heap.size,5,none⟩=false:=by rw [←hW2];exact (World.frozen?_setCell _ _ _ _).trans fz5
 obtain ⟨W3,hW3⟩:∃W3,W2.drew.setCell ⟨w.heap.size,5,none⟩ (.int .i64 vq)=W3:=⟨_,rfl⟩
 have n2d:WkAt W2.drew wb HS E (putVR (xyS σ) 0 vm) tv (.slice (some ⟨w.heap.size,0,none⟩) (putVR (xyS σ) 0 vm).cells.length 2) so sd ov hv rv:=n2.drewX
 have n3:WkAt W3 wb HS E (putVR (putVR (xyS σ) 0 vm) 1 vq) tv (.slice (some ⟨w.heap.size,0,none⟩) (putVR (xyS σ) 0 vm).cells.length 2) so sd ov hv rv:=by
  rw [←hW3];exact n2d.setL (k:=1) vq (by show 1 < 2;decide)
 have b3:Below wb w W3:=by rw [←hW3];exact b2.drew.setCell (p:=⟨w.heap.size,5,none⟩) (by show wb≤w.heap.size;omega) _
 obtain ⟨σ0,hσ0⟩:∃s,startS E σ=s:=⟨_,rfl⟩
 have hnew:Hid (Wk W3 wb HS E σ0):=by
  rw [←hσ0,←start3 hm3,hsw',hpt',hvm,hvq]
  exact ⟨_,_,_,_,_,_,_,n3⟩
 rw [hσ0] at HQ oks
 have HB0:=hide b3
 clear n1 n1d n2 n2d n3 b1 b2 b3 fz hc hσ0
 go_enter Tryz.func25,Tryz.ntmps25
 go_wp2
 clear hW1 c4 f4
 go_region
 clear hW2 d1 d4 d5 d15 r1 r5 fz1 fz5
 go_wp2
 go_region
 clear hW3 g1 g4 g5 g15 s5 fy5 em eq m0 m1 q0 q1 hvm hvq
 go_wp2_with fail
 obtain ⟨oa,HO⟩:∃oa,Hid (isB E σ0 0 sOPEN=oa):=⟨_,rfl⟩
 refine (is_any _ wb E σ0 0 sOPEN (unhide hnew) tf.1).mono ?_
 rintro e W0 ⟨rfl,hw⟩
 have h0:Wk W0 wb HS E σ0:=by rw [hw];exact (unhide hnew)
 have hb0:Below wb w W0:=by rw [hw];exact unhide HB0
 clear hw
 rw [unhide HO]
 go_wp2_with fail
 refine (is_any _ wb E σ0 0 sHIDDEN h0 tf.1).mono ?_
 rintro e wq ⟨rfl,hw⟩
 obtain rfl:=hw.symm
 clear HB0 hnew
 go_wp2
 go_loopg [2,3,4] n (fun k si sa sb wr=>∃x:SR,si = .int .i64 (x.to:Int)∧sa = .bool (isB E x.σ x.to sOPEN)∧sb = .bool (isB E x.σ x.to sHIDDEN)∧Wk wr wb HS E x.σ∧Below wb w wr∧GoodR E x∧declsM E n k x=some q)
 case atStart=>exact ⟨⟨0,σ0⟩,rfl,by rw [←unhide HO],rfl,h0,hb0,⟨tf.1,oks⟩,unhide HQ⟩
 case round=>
  clear HQ h0 hb0 HO
  obtain ⟨x,rfl,rfl,rfl,hx,hbx,gx,hch⟩:=hrel
  cases gk with
  | zero=>exact absurd hch (by simp [declsM])
  | succ gk=>
   rw [declsM] at hch
   obtain ⟨a,ha⟩:∃a,isB E x.σ x.to sOPEN=a:=⟨_,rfl⟩
   obtain ⟨b,hb⟩:∃b,isB E x.σ x.to sHIDDEN=b:=⟨_,rfl⟩
   rw [ha,hb] at hch ⊢
   have HA:=hide ha
   have HBb:=hide hb
   clear ha hb
   by_cases hab:(a||b)=true
   ·rw [if_pos hab] at hch
    split at hch
    case isFalse=>cases hch
    rename_i hi1
    obtain ⟨y,hy,hch⟩:=Option.bind_eq_some_iff.1 hch
    have gy:=declGo_good _ _ _ _ _ hy
    have HCH:=hide hch
    clear hch
    have hi2:(x.to:Int)+1 < 1000:=by omega
    cases a
    ·cases b
     ·simp at hab
     ·go_wp2_with fail
      refine (declared_any n true _ wb HS E x.σ (x.to+1) y hx hi1 gx.2 hy).mono ?_
      rintro e w3 ⟨rfl,h3,hb3⟩
      have HB3:=hide (hbx.trans hb3)
      clear hx hbx hb3 hy HA HBb
      go_wp2_with fail
      refine (is_any _ wb E y.σ y.to sOPEN h3 gy.1).mono ?_
      rintro e wq ⟨rfl,hw⟩
      obtain rfl:=hw.symm
      go_wp2_with fail
      refine (is_any _ wb E y.σ y.to sHIDDEN h3 gy.1).mono ?_
      rintro e wq ⟨rfl,hw⟩
      obtain rfl:=hw.symm
      go_wp2
      go_roundg gk
      case measure=>omega
      case rel=>exact ⟨y,rfl,rfl,rfl,h3,unhide HB3,gy,unhide HCH⟩
    ·go_wp2_with fail
     refine (declared_any n b _ wb HS E x.σ (x.to+1) y hx hi1 gx.2 hy).mono ?_
     rintro e w3 ⟨rfl,h3,hb3⟩
     have HB3:=hide (hbx.trans hb3)
     clear hx hbx hb3 hy HA HBb
     go_wp2_with fail
     refine (is_any _ wb E y.σ y.to sOPEN h3 gy.1).mono ?_
     rintro e wq ⟨rfl,hw⟩
     obtain rfl:=hw.symm
     go_wp2_with fail
     refine (is_any _ wb E y.σ y.to sHIDDEN h3 gy.1).mono ?_
     rintro e wq ⟨rfl,hw⟩
     obtain rfl:=hw.symm
     go_wp2
     go_roundg gk
     case measure=>omega
     case rel=>exact ⟨y,rfl,rfl,rfl,h3,unhide HB3,gy,unhide HCH⟩
   ·obtain ⟨rfl,rfl⟩:a=false∧b=false:=by cases a <;> cases b <;> simp at hab <;> simp
    rw [if_neg (by simp)] at hch
    have ex:=Option.some.inj hch
    subst ex
    clear hch hab
    go_wp2
    go_loopg [2] n (fun k si wr=>∃y:SR,si = .int .i64 (y.to:Int)∧Wk wr wb HS E y.σ∧Below wb w wr∧GoodR E y∧bodyM (SBR n).1 E k y=some σ')
    case atStart=>exact ⟨x,rfl,hx,hbx,gx,unhide HM⟩
    case round=>
     clear HM hx hbx gx HA HBb
     obtain ⟨y,rfl,hy,hby,gy,hch⟩:=hrel
     cases gk with
     | zero=>exact absurd hch (by simp [bodyM])
     | succ gk=>
      rw [bodyM] at hch
      have HCH:=hide hch
      clear hch
      have hc:=hy
      obtain ⟨tv,lv,so,sd,ov,hv,rv,hc⟩:=hc
      obtain ⟨tb,cap,rfl,htb⟩:=hc.tokv
      have c0:=hc.cell 0
      have c16:=hc.cell 16
      simp at c0 c16
      obtain ⟨t0,_,_,_⟩:=hc.tokcell y.to gy.1
      have hyi:(y.to:Int) < (E.toks.length:Int):=by have:=gy.1;omega
      clear hc
      go_wp2_with fail
      refine (stopped_any _ wb E y.σ hy).mono ?_
      rintro e wq ⟨rfl,hw⟩
      obtain rfl:=hw.symm
      have hch:=unhide HCH
      clear HCH
      obtain ⟨kd,HK⟩:∃kd,Hid ((tokAt E y.to).kind=kd):=⟨_,rfl⟩
      rw [unhide HK] at hch t0
      clear HK
      obtain ⟨dd,HD⟩:∃dd,Hid (y.σ.dead=dd):=⟨_,rfl⟩
      rw [unhide HD] at hch c16
      cases hst:stopB E y.σ
      ·cases dd
       ·cases hk4:(kd==4)
        ·rw [if_neg (by rw [hst,hk4];simp)] at hch
         obtain ⟨z,hz,hch⟩:=Option.bind_eq_some_iff.1 hch
         have gz:=(SB_ok n).1.2 _ _ _ _ _ hz
         have HCH:=hide hch
         clear hch
         go_wp2_with fail
         refine ((SB_ok n).1.1 _ wb HS E y.σ y.to true z hy gy.1 gy.2 hz).mono ?_
         rintro e w3 ⟨rfl,h3,hb3⟩
         have HB3:=hide (hby.trans hb3)
         clear hz hy hby hb3 c0 c16 t0
         go_wp2
         go_roundg gk
         case measure=>omega
         case rel=>exact ⟨z,rfl,h3,unhide HB3,gz,unhide HCH⟩
        ·rw [if_pos (by rw [hk4];simp)] at hch
         have HE:=hide (Option.some.inj hch)
         clear hch
         go_wp2
         refine bodyPost_ret (results_none rfl _ _ _) rfl ?_
         rw [←unhide HE]
         exact ⟨rfl,hy,hby⟩
       ·rw [if_pos (by simp)] at hch
        have HE:=hide (Option.some.inj hch)
        clear hch
        go_wp2
        refine bodyPost_ret (results_none rfl _ _ _) rfl ?_
        rw [←unhide HE]
        exact ⟨rfl,hy,hby⟩
      ·rw [if_pos (by rw [hst];simp)] at hch
       have HE:=hide (Option.some.inj hch)
       clear hch
       go_wp2
       refine bodyPost_ret (results_none rfl _ _ _) rfl ?_
       rw [←unhide HE]
       exact ⟨rfl,hy,hby⟩
end Go.Proofs.YthmmgiaobakilaaGreat
