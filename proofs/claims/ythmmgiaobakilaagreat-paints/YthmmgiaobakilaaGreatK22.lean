import Derived.Test.YthmmgiaobakilaaGreatK21
import Derived.Deep.LoopGhost
set_option maxRecDepth 100000
namespace Go.Proofs.YthmmgiaobakilaaGreat
open Go.RowKit
abbrev OkS (σ:St):Prop:=σ.cells.length≤1000∧0≤σ.steps∧0≤σ.touched∧σ.touched≤1000000000000
abbrev GoodA (E:Env) (r:RAns):Prop:=r.to < E.toks.length∧OkS r.σ∧In32 r.v
def chk (E:Env) (r:RAns):Option RAns:=if GoodA E r then some r else none
def SubOK (fn:Nat) (M:Env→St→Nat→Bool→Option RAns):Prop:=∀(w:World) (wb:Nat) (HS:List (Nat×Obj)) (E:Env) (σ:St) (i:Nat) (live:Bool) (r:RAns),Wk w wb HS E σ→i < E.toks.length→OkS σ→M E σ i live=some r →
 Calls Tryz.prog fn #[.pointer (some ⟨wb,0,none⟩),.int .i64 (i:Int),.bool live] w (AnsOut wb HS E w r)
def SubGood (M:Env→St→Nat→Bool→Option RAns):Prop:=∀E σ i live r,M E σ i live=some r→GoodA E r
def chainM (M:Env→St→Nat→Bool→Option RAns) (ops:List ByteArray) (E:Env) (live:Bool):Nat→RAns→Option RAns
 | 0,_=>none
 | n+1,r=>if (opF E r.σ r.to ops).toList.isEmpty then some r else
   if r.to+1 < E.toks.length then (M E (stepS E r.σ live) (r.to+1) live).bind fun x=>chainM M ops E live n ⟨doesV (opF E r.σ r.to ops) r.v x.v,r.h||x.h,x.to,x.σ⟩ else none
def levelM (M:Env→St→Nat→Bool→Option RAns) (ops:List ByteArray) (n:Nat) (E:Env) (σ:St) (i:Nat) (live:Bool):Option RAns:=(M E σ i live).bind (chainM M ops E live n)
theorem Wk.alloc {w:World} {wb:Nat} {HS:List (Nat×Obj)} {E:Env} {σ:St} (h:Wk w wb HS E σ) (o:Obj):Wk (w.alloc o) wb HS E σ:=by
 obtain ⟨tv,lv,so,sd,ov,hv,rv,h⟩:=h
 have hlt:=h.lt
 have keep:∀k,k < w.heap.size→(w.alloc o).heap[k]?=w.heap[k]?:=fun k hk=>Below.heap_alloc w o k hk
 refine ⟨tv,lv,so,sd,ov,hv,rv,(keep wb hlt).trans h.blk,own_same h.tokens (fun k hk=>keep k (by have:=h.tokLow k hk;omega)),h.tokLow,h.tokSome,h.tokFew,h.rowL.alloc _,h.rowR.alloc _,h.rowO.alloc _,h.rowH.alloc _,h.apLR,h.apLO,h.apLH,h.apRO,h.apRH,h.apOH,?_,?_,fun p hp=>⟨(keep p.1 (Array.getElem?_eq_some_iff.1 (h.held p hp).1).1).trans (h.held p hp).1,(h.held p hp).2⟩⟩
 ·obtain ⟨ao,c,e,hi⟩:=h.ints1;exact ⟨ao,c,e,hi.same (fun k hk=>keep k (by omega))⟩
 ·obtain ⟨ao,c,e,hi⟩:=h.ints2;exact ⟨ao,c,e,hi.same (fun k hk=>keep k (by omega))⟩
theorem stepS_ok {E:Env} {σ:St} {live:Bool} (h:OkS σ):OkS (stepS E σ live):=by
 obtain ⟨a,b,c,d⟩:=h
 unfold stepS
 split
 ·split
  ·exact ⟨a,b,c,d⟩
  ·exact ⟨a,by show 0≤σ.steps+1;omega,c,d⟩
 ·exact ⟨a,b,c,d⟩
set_option maxHeartbeats 2000000 in
theorem term_any {M:Env→St→Nat→Bool→Option RAns} (hsub:SubOK 143 M) (hgood:SubGood M) (n:Nat):SubOK 137 (levelM M opsT n):=by
 intro w wb HS E σ i live r h hi hok hM
 obtain ⟨r0,hM0,hM1⟩:=Option.bind_eq_some_iff.1 hM
 have g0:=hgood E σ i live r0 hM0
 have HM:=hide hM1
 have tf:=h.some.2
 have hii:(i:Int) < (E.toks.length:Int):=by omega
 clear hM hM1
 go_enter Tryz.func137,Tryz.ntmps137
 go_wp2_with fail
 refine (hsub w wb HS E σ i live r0 h hi hok hM0).mono ?_
 clear hM0 h hok
 rintro e w1 ⟨rfl,h1,hb1⟩
 go_wp2_with fail
 refine (op_any _ wb E _ r0.to (some ⟨w1.heap.size,0,none⟩) 2 opsT (h1.alloc _) g0.1 (StrsAt.newAt _ opsT _ _ rfl (by simp)) (by decide)).mono ?_
 rintro e w2 ⟨rfl,rfl⟩
 go_wp2
 go_loopg [9,10,11,12] n (fun k sv sh st ss wr=>∃q:RAns,sv = .int .i64 q.v∧sh = .bool q.h∧st = .int .i64 (q.to:Int)∧ss = .string (opF E q.σ q.to opsT)∧Wk wr wb HS E q.σ∧Below wb w wr∧GoodA E q∧chainM M opsT E live k q=some r)
 case atStart=>exact ⟨r0,rfl,rfl,rfl,rfl,h1.alloc _,hb1.alloc (by obtain ⟨_,_,_,_,_,_,_,hh⟩:=h1;have:=hh.lt;omega) _,g0,unhide HM⟩
 case round=>
  clear HM h1 hb1
  obtain ⟨q,rfl,rfl,rfl,rfl,hq,hbq,gq,hch⟩:=hrel
  cases gk with
  | zero=>exact absurd hch (by simp [chainM])
  | succ gk=>
   obtain ⟨op,HO⟩:∃op,Hid (opF E q.σ q.to opsT=op):=⟨_,rfl⟩
   rw [unhide HO]
   rw [chainM,unhide HO] at hch
   cases hop:op.toList.isEmpty
   ·have hop':¬ op.toList.isEmpty=true:=by rw [hop];simp
    rw [if_neg hop'] at hch
    by_cases hto:q.to+1 < E.toks.length
    ·rw [if_pos hto] at hch
     obtain ⟨x,hx,hch⟩:=Option.bind_eq_some_iff.1 hch
     have gx:=hgood _ _ _ _ _ hx
     have HCH:=hide hch
     clear hch hop'
     have hq1:(q.to:Int)+1 < 1000:=by omega
     go_wp2_with fail
     refine (rstep_any _ wb E q.σ live hq gq.2.1.2.1).mono ?_
     rintro e w2 ⟨rfl,h2,hb2⟩
     go_wp2_with fail
     refine (hsub w2 wb HS E _ (q.to+1) live x h2 hto (stepS_ok gq.2.1) hx).mono ?_
     clear h2 hx
     rintro e w3 ⟨rfl,h3,hb3⟩
     go_wp2_with fail
     refine (does_any op q.v x.v w3 gq.2.2 gx.2.2).mono ?_
     rintro e w4 ⟨rfl,hw⟩
     obtain rfl:=hw.symm
     obtain ⟨q2,hq2⟩:∃q2:RAns,q2=⟨doesV op q.v x.v,q.h||x.h,x.to,x.σ⟩:=⟨_,rfl⟩
     have G2:GoodA E q2:=by rw [hq2];exact ⟨gx.1,gx.2.1,doesV_in gq.2.2 gx.2.2⟩
     have HQ:=hide hq2
     rw [←hq2] at HCH
     have H3:Hid (Wk w3 wb HS E q2.σ):=by rw [hq2];exact h3
     have hgt:x.to < E.toks.length:=gx.1
     have hBel:=hide ((hbq.trans hb2).trans hb3)
     clear hq2 hsub hgood h3 hbq hb2 hb3 gq gx
     have hwlt:Hid (wb≤w3.heap.size):=by obtain ⟨_,_,_,_,_,_,_,hh⟩:=unhide H3;have:=hh.lt;show _≤_;omega
     cases hqh:q.h
     ·go_wp2_with fail
      refine (op_any _ wb E q2.σ x.to (some ⟨w3.heap.size,0,none⟩) 2 opsT ((unhide H3).alloc _) hgt (StrsAt.newAt _ opsT _ _ rfl (by simp)) (by decide)).mono ?_
      rintro e w4 ⟨rfl,rfl⟩
      go_wp2
      go_roundg gk
      case measure=>omega
      case rel=>exact ⟨q2,by rw [unhide HQ],by rw [unhide HQ,hqh];simp,by rw [unhide HQ],by rw [unhide HQ],(unhide H3).alloc _,(unhide hBel).alloc (unhide hwlt) _,G2,unhide HCH⟩
     ·go_wp2_with fail
      refine (op_any _ wb E q2.σ x.to (some ⟨w3.heap.size,0,none⟩) 2 opsT ((unhide H3).alloc _) hgt (StrsAt.newAt _ opsT _ _ rfl (by simp)) (by decide)).mono ?_
      rintro e w4 ⟨rfl,rfl⟩
      go_wp2
      go_roundg gk
      case measure=>omega
      case rel=>exact ⟨q2,by rw [unhide HQ],by rw [unhide HQ,hqh];simp,by rw [unhide HQ],by rw [unhide HQ],(unhide H3).alloc _,(unhide hBel).alloc (unhide hwlt) _,G2,unhide HCH⟩
    ·rw [if_neg hto] at hch
     cases hch
   ·rw [if_pos hop] at hch
    have HCH:=hide (Option.some.inj hch)
    clear hch
    go_wp2
    go_ret3
    rw [←unhide HCH]
    exact ⟨rfl,hq,hbq⟩
set_option maxHeartbeats 2000000 in
theorem sum_any {M:Env→St→Nat→Bool→Option RAns} (hsub:SubOK 137 M) (hgood:SubGood M) (n:Nat):SubOK 125 (levelM M opsS n):=by
 intro w wb HS E σ i live r h hi hok hM
 obtain ⟨r0,hM0,hM1⟩:=Option.bind_eq_some_iff.1 hM
 have g0:=hgood E σ i live r0 hM0
 have HM:=hide hM1
 have tf:=h.some.2
 have hii:(i:Int) < (E.toks.length:Int):=by omega
 clear hM hM1
 go_enter Tryz.func125,Tryz.ntmps125
 go_wp2_with fail
 refine (hsub w wb HS E σ i live r0 h hi hok hM0).mono ?_
 clear hM0 h hok
 rintro e w1 ⟨rfl,h1,hb1⟩
 go_wp2_with fail
 refine (op_any _ wb E _ r0.to (some ⟨w1.heap.size,0,none⟩) 2 opsS (h1.alloc _) g0.1 (StrsAt.newAt _ opsS _ _ rfl (by simp)) (by decide)).mono ?_
 rintro e w2 ⟨rfl,rfl⟩
 go_wp2
 go_loopg [9,10,11,12] n (fun k sv sh st ss wr=>∃q:RAns,sv = .int .i64 q.v∧sh = .bool q.h∧st = .int .i64 (q.to:Int)∧ss = .string (opF E q.σ q.to opsS)∧Wk wr wb HS E q.σ∧Below wb w wr∧GoodA E q∧chainM M opsS E live k q=some r)
 case atStart=>exact ⟨r0,rfl,rfl,rfl,rfl,h1.alloc _,hb1.alloc (by obtain ⟨_,_,_,_,_,_,_,hh⟩:=h1;have:=hh.lt;omega) _,g0,unhide HM⟩
 case round=>
  clear HM h1 hb1
  obtain ⟨q,rfl,rfl,rfl,rfl,hq,hbq,gq,hch⟩:=hrel
  cases gk with
  | zero=>exact absurd hch (by simp [chainM])
  | succ gk=>
   obtain ⟨op,HO⟩:∃op,Hid (opF E q.σ q.to opsS=op):=⟨_,rfl⟩
   rw [unhide HO]
   rw [chainM,unhide HO] at hch
   cases hop:op.toList.isEmpty
   ·have hop':¬ op.toList.isEmpty=true:=by rw [hop];simp
    rw [if_neg hop'] at hch
    by_cases hto:q.to+1 < E.toks.length
    ·rw [if_pos hto] at hch
     obtain ⟨x,hx,hch⟩:=Option.bind_eq_some_iff.1 hch
     have gx:=hgood _ _ _ _ _ hx
     have HCH:=hide hch
     clear hch hop'
     have hq1:(q.to:Int)+1 < 1000:=by omega
     go_wp2_with fail
     refine (rstep_any _ wb E q.σ live hq gq.2.1.2.1).mono ?_
     rintro e w2 ⟨rfl,h2,hb2⟩
     go_wp2_with fail
     refine (hsub w2 wb HS E _ (q.to+1) live x h2 hto (stepS_ok gq.2.1) hx).mono ?_
     clear h2 hx
     rintro e w3 ⟨rfl,h3,hb3⟩
     go_wp2_with fail
     refine (does_any op q.v x.v w3 gq.2.2 gx.2.2).mono ?_
     rintro e w4 ⟨rfl,hw⟩
     obtain rfl:=hw.symm
     obtain ⟨q2,hq2⟩:∃q2:RAns,q2=⟨doesV op q.v x.v,q.h||x.h,x.to,x.σ⟩:=⟨_,rfl⟩
     have G2:GoodA E q2:=by rw [hq2];exact ⟨gx.1,gx.2.1,doesV_in gq.2.2 gx.2.2⟩
     have HQ:=hide hq2
     rw [←hq2] at HCH
     have H3:Hid (Wk w3 wb HS E q2.σ):=by rw [hq2];exact h3
     have hgt:x.to < E.toks.length:=gx.1
     have hBel:=hide ((hbq.trans hb2).trans hb3)
     clear hq2 hsub hgood h3 hbq hb2 hb3 gq gx
     have hwlt:Hid (wb≤w3.heap.size):=by obtain ⟨_,_,_,_,_,_,_,hh⟩:=unhide H3;have:=hh.lt;show _≤_;omega
     cases hqh:q.h
     ·go_wp2_with fail
      refine (op_any _ wb E q2.σ x.to (some ⟨w3.heap.size,0,none⟩) 2 opsS ((unhide H3).alloc _) hgt (StrsAt.newAt _ opsS _ _ rfl (by simp)) (by decide)).mono ?_
      rintro e w4 ⟨rfl,rfl⟩
      go_wp2
      go_roundg gk
      case measure=>omega
      case rel=>exact ⟨q2,by rw [unhide HQ],by rw [unhide HQ,hqh];simp,by rw [unhide HQ],by rw [unhide HQ],(unhide H3).alloc _,(unhide hBel).alloc (unhide hwlt) _,G2,unhide HCH⟩
     ·go_wp2_with fail
      refine (op_any _ wb E q2.σ x.to (some ⟨w3.heap.size,0,none⟩) 2 opsS ((unhide H3).alloc _) hgt (StrsAt.newAt _ opsS _ _ rfl (by simp)) (by decide)).mono ?_
      rintro e w4 ⟨rfl,rfl⟩
      go_wp2
      go_roundg gk
      case measure=>omega
      case rel=>exact ⟨q2,by rw [unhide HQ],by rw [unhide HQ,hqh];simp,by rw [unhide HQ],by rw [unhide HQ],(unhide H3).alloc _,(unhide hBel).alloc (unhide hwlt) _,G2,unhide HCH⟩
    ·rw [if_neg hto] at hch
     cases hch
   ·rw [if_pos hop] at hch
    have HCH:=hide (Option.some.inj hch)
    clear hch
    go_wp2
    go_ret3
    rw [←unhide HCH]
    exact ⟨rfl,hq,hbq⟩
theorem chain_good {M:Env→St→Nat→Bool→Option RAns} (hgood:SubGood M) (ops:List ByteArray) (E:Env) (live:Bool) (n:Nat):∀q r,GoodA E q→chainM M ops E live n q=some r→GoodA E r:=by
 induction n with
 | zero=>intro q r _ h;simp [chainM] at h
 | succ n ih=>
  intro q r gq h
  rw [chainM] at h
  split at h
  ·cases h;exact gq
  ·split at h
   ·obtain ⟨x,hx,h⟩:=Option.bind_eq_some_iff.1 h
    have gx:=hgood _ _ _ _ _ hx
    refine ih _ r ?_ h
    exact ⟨gx.1,gx.2.1,doesV_in gq.2.2 gx.2.2⟩
   ·cases h
theorem level_good {M:Env→St→Nat→Bool→Option RAns} (hgood:SubGood M) (ops:List ByteArray) (n:Nat):SubGood (levelM M ops n):=by
 intro E σ i live r h
 obtain ⟨x,hx,h⟩:=Option.bind_eq_some_iff.1 h
 exact chain_good hgood ops E live n x r (hgood _ _ _ _ _ hx) h
def pairM (M:Env→St→Nat→Bool→Option RAns) (E:Env) (live:Bool) (r:RAns):Option RAns:=
 if (opF E r.σ r.to opsE).toList.isEmpty then some r else
  if r.to+1 < E.toks.length then (M E (stepS E r.σ live) (r.to+1) live).bind fun x=>some ⟨doesV (opF E r.σ r.to opsE) r.v x.v,r.h||x.h,x.to,x.σ⟩ else none
def exprM (M:Env→St→Nat→Bool→Option RAns) (E:Env) (σ:St) (i:Nat) (live:Bool):Option RAns:=(M E σ i live).bind (pairM M E live)
theorem expr_good {M:Env→St→Nat→Bool→Option RAns} (hgood:SubGood M):SubGood (exprM M):=by
 intro E σ i live r h
 obtain ⟨q,hq,h⟩:=Option.bind_eq_some_iff.1 h
 have gq:=hgood _ _ _ _ _ hq
 unfold pairM at h
 split at h
 ·cases h;exact gq
 ·split at h
  ·obtain ⟨x,hx,h⟩:=Option.bind_eq_some_iff.1 h
   have gx:=hgood _ _ _ _ _ hx
   cases h
   exact ⟨gx.1,gx.2.1,doesV_in gq.2.2 gx.2.2⟩
  ·cases h
set_option maxHeartbeats 2000000 in
theorem expr_any {M:Env→St→Nat→Bool→Option RAns} (hsub:SubOK 125 M) (hgood:SubGood M):SubOK 100 (exprM M):=by
 intro w wb HS E σ i live r h hi hok hM
 obtain ⟨q,hM0,hch⟩:=Option.bind_eq_some_iff.1 hM
 have gq:=hgood E σ i live q hM0
 have tf:=h.some.2
 have hii:(i:Int) < (E.toks.length:Int):=by omega
 clear hM
 obtain ⟨op,HO⟩:∃op,Hid (opF E q.σ q.to opsE=op):=⟨_,rfl⟩
 rw [pairM,unhide HO] at hch
 have HCH:=hide hch
 clear hch
 go_enter Tryz.func100,Tryz.ntmps100
 go_wp2_with fail
 refine (hsub w wb HS E σ i live q h hi hok hM0).mono ?_
 clear hM0 h hok
 rintro e w1 ⟨rfl,h1,hb1⟩
 go_wp2_with fail
 refine (op_any _ wb E _ q.to (some ⟨w1.heap.size,0,none⟩) 4 opsE (h1.alloc _) gq.1 (StrsAt.newAt _ opsE _ _ rfl (by simp)) (by decide)).mono ?_
 rintro e w2 ⟨rfl,hw2⟩
 rw [unhide HO]
 have h2:Wk w2 wb HS E q.σ:=by rw [hw2];exact h1.alloc _
 have hb2:Below wb w w2:=by rw [hw2];exact hb1.alloc (by obtain ⟨_,_,_,_,_,_,_,hh⟩:=h1;have:=hh.lt;omega) _
 clear h1 hb1 hw2
 cases hop:op.toList.isEmpty
 ·have hop':¬ op.toList.isEmpty=true:=by rw [hop];simp
  have hch:=unhide HCH
  clear HCH
  rw [if_neg hop'] at hch
  by_cases hto:q.to+1 < E.toks.length
  ·rw [if_pos hto] at hch
   obtain ⟨x,hx,hch⟩:=Option.bind_eq_some_iff.1 hch
   have gx:=hgood _ _ _ _ _ hx
   have HCH:=hide (Option.some.inj hch)
   clear hch hop'
   have hq1:(q.to:Int)+1 < 1000:=by omega
   go_wp2_with fail
   refine (rstep_any _ wb E q.σ live h2 gq.2.1.2.1).mono ?_
   rintro e w3 ⟨rfl,h3,hb3⟩
   go_wp2_with fail
   refine (hsub w3 wb HS E _ (q.to+1) live x h3 hto (stepS_ok gq.2.1) hx).mono ?_
   clear h3 hx
   rintro e w4 ⟨rfl,h4,hb4⟩
   go_wp2_with fail
   refine (does_any op q.v x.v w4 gq.2.2 gx.2.2).mono ?_
   rintro e w5 ⟨rfl,hw⟩
   obtain rfl:=hw.symm
   have HW:=hide h4
   have HB:=hide ((hb2.trans hb3).trans hb4)
   clear hsub hgood h4 hb2 hb3 hb4 gq gx h2
   cases hqh:q.h
   ·rw [hqh] at HCH
    go_wp2
    go_ret3
    rw [←unhide HCH]
    exact ⟨rfl,unhide HW,unhide HB⟩
   ·rw [hqh] at HCH
    go_wp2
    go_ret3
    rw [←unhide HCH]
    exact ⟨rfl,unhide HW,unhide HB⟩
  ·rw [if_neg hto] at hch
   cases hch
 ·have hch:=unhide HCH
  clear HCH
  rw [if_pos hop] at hch
  have HCH:=hide (Option.some.inj hch)
  clear hch
  go_wp2
  go_ret3
  rw [←unhide HCH]
  exact ⟨rfl,h2,hb2⟩
variable {HS:List (Nat×Obj)}
theorem wrongS_ok {E:Env} {σ:St} {i:Nat} {e:Int} (h:OkS σ):OkS (wrongS E σ i e):=by
 unfold wrongS
 split
 ·exact h
 ·exact h
theorem needS_ok {E:Env} {σ:St} {i:Nat} {s:ByteArray} (h:OkS σ):OkS (needS E σ i s):=by
 unfold needS
 split
 ·exact h
 ·exact wrongS_ok h
def flowS (E:Env) (σ:St) (i:Nat) (b:Bool):St:=if (E.mode==2)&&b then wrongS E σ i 11 else σ
def placeR (E:Env) (a b:Int):Int:=min (max a 0) (E.sw-1)+E.sw*min (max b 0) (E.sh-1)
def texEnd (E:Env) (i:Nat) (live hid:Bool) (a b:RAns):Option RAns:=
 let n:=needI E b.σ b.to sBC
 let σ5:=flowS E (needS E b.σ b.to sBC) i (a.h||b.h)
 if livesB E σ5 live then
  (if 1≤E.sw∧E.sw≤6∧1≤E.sh∧E.sh≤6∧0≤placeR E a.v b.v∧placeR E a.v b.v < E.opens.length∧placeR E a.v b.v < E.hids.length then
   chk E ⟨(if hid then E.hids else E.opens).getD (placeR E a.v b.v).toNat 0,hid,n,touchS σ5 (truthV hid) (placeR E a.v b.v)⟩
  else none)
 else chk E ⟨0,hid||a.h||b.h,n,σ5⟩
def texelM (X:Env→St→Nat→Bool→Option RAns) (hid:Bool) (E:Env) (σ:St) (i:Nat) (live:Bool):Option RAns:=
 if i+1 < E.toks.length∧needI E (stepS E σ live) (i+1) sBO < E.toks.length then
  (X E (needS E (stepS E σ live) (i+1) sBO) (needI E (stepS E σ live) (i+1) sBO) live).bind fun a=>
   if needI E a.σ a.to sCM < E.toks.length then
    (X E (needS E a.σ a.to sCM) (needI E a.σ a.to sCM) live).bind fun b=>texEnd E i live hid a b
   else none
 else none
theorem chk_good {E:Env} {r q:RAns} (h:chk E r=some q):GoodA E q:=by
 unfold chk at h
 split at h
 ·cases h;assumption
 ·cases h
theorem chk_eq {E:Env} {r q:RAns} (h:chk E r=some q):q=r∧GoodA E r:=by
 unfold chk at h
 split at h
 ·cases h;exact ⟨rfl,by assumption⟩
 ·cases h
theorem texel_good (X:Env→St→Nat→Bool→Option RAns) (hid:Bool):SubGood (texelM X hid):=by
 intro E σ i live r h
 unfold texelM at h
 split at h
 ·obtain ⟨a,_,h⟩:=Option.bind_eq_some_iff.1 h
  split at h
  ·obtain ⟨b,_,h⟩:=Option.bind_eq_some_iff.1 h
   unfold texEnd at h
   simp only at h
   split at h
   ·split at h
    ·exact chk_good h
    ·cases h
   ·exact chk_good h
  ·cases h
 ·cases h
set_option maxRecDepth 100000 in
set_option maxHeartbeats 4000000 in
theorem rtexel_any {X:Env→St→Nat→Bool→Option RAns} (hsub:SubOK 100 X) (hgood:SubGood X) (hid:Bool) :
  ∀(w:World) (wb:Nat) (HS:List (Nat×Obj)) (E:Env) (σ:St) (i:Nat) (live:Bool) (r:RAns),Wk w wb HS E σ→i < E.toks.length→OkS σ→texelM X hid E σ i live=some r →
  Calls Tryz.prog 147 #[.pointer (some ⟨wb,0,none⟩),.int .i64 (i:Int),.bool live,.bool hid] w (AnsOut wb HS E w r):=by
 intro w wb HS E σ i live r h hi hok hM
 have tf:=h.some.2
 unfold texelM at hM
 split at hM
 case isFalse=>cases hM
 case isTrue hg1=>
 obtain ⟨hi1,hn1⟩:=hg1
 obtain ⟨a,hXa,hM⟩:=Option.bind_eq_some_iff.1 hM
 have ga:=hgood _ _ _ _ _ hXa
 split at hM
 case isFalse=>cases hM
 case isTrue hn2=>
 obtain ⟨b,hXb,hM⟩:=Option.bind_eq_some_iff.1 hM
 have gb:=hgood _ _ _ _ _ hXb
 have HM:=hide hM
 clear hM
 have hii:(i:Int)+1 < 1000:=by omega
 have hiN:((i+1:Nat):Int)=(i:Int)+1:=by omega
 go_enter Tryz.func147,Tryz.ntmps147
 go_wp2_with fail
 refine (rstep_any _ wb E σ live h hok.2.1).mono ?_
 clear h
 rintro e w1 ⟨rfl,h1,hb1⟩
 go_wp2_with fail
 refine (need_any _ wb E _ (i+1) sBO h1 hi1).mono ?_
 clear h1
 rintro e w2 ⟨rfl,h2,hb2⟩
 go_wp2_with fail
 refine (hsub w2 wb HS E _ _ live a h2 hn1 (needS_ok (stepS_ok hok)) hXa).mono ?_
 clear h2 hXa
 rintro e w3 ⟨rfl,h3,hb3⟩
 go_wp2_with fail
 refine (need_any _ wb E _ a.to sCM h3 ga.1).mono ?_
 clear h3
 rintro e w4 ⟨rfl,h4,hb4⟩
 go_wp2_with fail
 refine (hsub w4 wb HS E _ _ live b h4 hn2 (needS_ok ga.2.1) hXb).mono ?_
 clear h4 hXb
 rintro e w5 ⟨rfl,h5,hb5⟩
 go_wp2_with fail
 refine (need_any _ wb E _ b.to sBC h5 gb.1).mono ?_
 clear h5
 rintro e w6 ⟨rfl,h6,hb6⟩
 have HB:=hide (((((hb1.trans hb2).trans hb3).trans hb4).trans hb5).trans hb6)
 clear hb1 hb2 hb3 hb4 hb5 hb6
 have HM2:=unhide HM
 unfold texEnd at HM2
 simp only at HM2
 clear HM
 have ok6:OkS (needS E b.σ b.to sBC):=needS_ok gb.2.1
 obtain ⟨i32a,i32b⟩:In32 a.v∧In32 b.v:=⟨ga.2.2,gb.2.2⟩
 have HI:=hide (And.intro i32a i32b)
 clear i32a i32b
 clear hgood hsub hn1 hn2 ga gb
 generalize needI E b.σ b.to sBC=nE at *
 generalize needS E b.σ b.to sBC=s4 at *
 have hc:=h6
 obtain ⟨tv,lv,so,sd,ov,hv,rv,hc⟩:=hc
 have c1:=hc.cell 1
 simp at c1
 clear hc
 cases hm:(E.mode==2)
 ·have e5:flowS E s4 i (a.h||b.h)=s4:=by simp [flowS,hm]
  rw [e5] at HM2
  have HM:=hide HM2
  clear HM2 e5
  obtain ⟨s5,rfl⟩:∃s5,s5=s4:=⟨_,rfl⟩
  go_wp2_with fail
  refine (lives_any _ wb E _ live h6).mono ?_
  rintro e wl ⟨rfl,hw⟩
  obtain rfl:=hw.symm
  cases hl:livesB E s5 live
  ·have hm5:=unhide HM
   clear HM
   rw [hl,if_neg (by simp)] at hm5
   obtain ⟨rfl,_⟩:=chk_eq hm5
   clear hm5
   cases hid <;> cases hah:a.h <;> cases hbh:b.h <;> (go_wp2;go_ret3;exact ⟨by simp [hah,hbh],h6,unhide HB⟩)
  ·have hm5:=unhide HM
   clear HM
   rw [hl,if_pos rfl] at hm5
   split at hm5
   case isFalse=>cases hm5
   case isTrue hg=>
   obtain ⟨w0,w1,v0,v1,p0,p1,p2⟩:=hg
   obtain ⟨hr,gr⟩:=chk_eq hm5
   have HR:=hide hr
   have HG:=hide gr
   clear hr gr
   have h9:=h6
   obtain ⟨tv,lv,so,sd,ov,hv,rv,h9⟩:=h9
   have c5:=h9.cell 5
   have c6:=h9.cell 6
   simp at c5 c6
   clear h9 hm5
   have hmb0:0≤min (max b.v 0) (E.sh-1)∧min (max b.v 0) (E.sh-1)≤5:=by omega
   have hma0:0≤min (max a.v 0) (E.sw-1)∧min (max a.v 0) (E.sw-1)≤5:=by omega
   have hmul:0≤E.sw*min (max b.v 0) (E.sh-1)∧E.sw*min (max b.v 0) (E.sh-1)≤30:=by
    refine ⟨Int.mul_nonneg (by omega) hmb0.1,?_⟩
    calc E.sw*min (max b.v 0) (E.sh-1)≤6*min (max b.v 0) (E.sh-1):=Int.mul_le_mul_of_nonneg_right w1 hmb0.1
     _≤30:=by omega
   obtain ⟨mu0,mu1⟩:=hmul
   obtain ⟨mb0,mb1⟩:=hmb0
   obtain ⟨ma0,ma1⟩:=hma0
   have HX:=hide h6
   go_wp2
   go_quiet (fail)
   go_wp2_with fail
   refine (truth_any hid _).mono ?_
   rintro e wt ⟨rfl,hw⟩
   obtain rfl:=hw.symm
   go_wp2_with fail
   obtain ⟨P,hP⟩:∃P:Nat,placeR E a.v b.v=(P:Int):=⟨(placeR E a.v b.v).toNat,by omega⟩
   have hP':min (max a.v 0) (E.sw-1)+E.sw*min (max b.v 0) (E.sh-1)=(P:Int):=hP
   rw [hP']
   rw [hP] at HR HG p1 p2
   clear hP hP' p0 mu0 mu1 mb0 mb1 ma0 ma1 c5 c6 c1
   refine (touch_any _ wb E s5 (truthV hid) _ ((unhide HX).drewN _) ok6.2.2.1 ok6.2.2.2).mono ?_
   rintro e w7 ⟨rfl,h7,hb7⟩
   have HB7:=hide ((below_dr (unhide HB) _).trans hb7)
   clear hb7 HX
   have HW7:=hide h7
   obtain ⟨tv,lv,so,sd,ov,hv,rv,h9⟩:=h7
   obtain ⟨ao1,cp1,rfl,I1⟩:=h9.ints1
   obtain ⟨ao2,cp2,rfl,I2⟩:=h9.ints2
   have c7:=h9.cell 7
   have c8:=h9.cell 8
   simp at c7 c8
   clear h9
   cases hid
   ·rcases I1 with I1 | ⟨b1,off1,rfl,hb1,hcell⟩
    ·simp [I1] at p1
     omega
    have x1:=hcell P (by omega)
    have HR2:Hid (r=⟨E.opens.getD P 0,false,nE,touchS s5 (truthV false) P⟩):=by show _=_;rw [unhide HR];simp
    clear hcell I2 HR HG
    generalize E.opens.getD P 0=val at *
    go_wp2
    go_ret3
    rw [unhide HR2]
    exact ⟨rfl,unhide HW7,unhide HB7⟩
   ·rcases I2 with I2 | ⟨b1,off1,rfl,hb1,hcell⟩
    ·simp [I2] at p2
     omega
    have x1:=hcell P (by omega)
    have HR2:Hid (r=⟨E.hids.getD P 0,true,nE,touchS s5 (truthV true) P⟩):=by show _=_;rw [unhide HR];simp
    clear hcell I1 HR HG
    generalize E.hids.getD P 0=val at *
    go_wp2
    go_ret3
    rw [unhide HR2]
    exact ⟨rfl,unhide HW7,unhide HB7⟩
 ·have hm3:(E.mode==3)=false:=by
   have:E.mode=2:=by simpa using hm
   rw [this];rfl
  cases hah:a.h
  ·cases hbh:b.h
   ·have e5:flowS E s4 i (a.h||b.h)=s4:=by simp [flowS,hah,hbh]
    rw [e5] at HM2
    clear e5
    have hl:livesB E s4 live=false:=by simp [livesB,hm3]
    have HM:=hide HM2
    clear HM2
    go_wp2_with fail
    refine (lives_any _ wb E _ live h6).mono ?_
    rintro e wl ⟨rfl,hw⟩
    obtain rfl:=hw.symm
    have hm5:=unhide HM
    clear HM
    rw [hl,if_neg (by simp)] at hm5
    obtain ⟨hr,_⟩:=chk_eq hm5
    have HR:=hide hr
    clear hm5 hr
    rw [hl]
    cases hid
    ·go_wp2
     go_ret3
     rw [unhide HR]
     exact ⟨by simp [hah,hbh],h6,unhide HB⟩
    ·go_wp2
     go_ret3
     rw [unhide HR]
     exact ⟨by simp [hah,hbh],h6,unhide HB⟩
   ·have e5:flowS E s4 i (a.h||b.h)=wrongS E s4 i 11:=by simp [flowS,hm,hbh]
    rw [e5] at HM2
    clear e5
    have hl:livesB E (wrongS E s4 i 11) live=false:=by simp [livesB,hm3]
    have HM:=hide HM2
    clear HM2
    go_wp2_with fail
    refine (wrong_any _ wb E _ i 11 h6 hi).mono ?_
    clear c1
    rintro e w7 ⟨rfl,h7,hb7⟩
    go_wp2_with fail
    refine (lives_any _ wb E _ live h7).mono ?_
    rintro e wl ⟨rfl,hw⟩
    obtain rfl:=hw.symm
    have hm5:=unhide HM
    clear HM
    rw [hl,if_neg (by simp)] at hm5
    obtain ⟨hr,_⟩:=chk_eq hm5
    have HR:=hide hr
    clear hm5 hr
    rw [hl]
    cases hid
    ·go_wp2
     go_ret3
     rw [unhide HR]
     exact ⟨by simp [hah,hbh],h7,(unhide HB).trans hb7⟩
    ·go_wp2
     go_ret3
     rw [unhide HR]
     exact ⟨by simp [hah,hbh],h7,(unhide HB).trans hb7⟩
  ·have e5:flowS E s4 i (a.h||b.h)=wrongS E s4 i 11:=by simp [flowS,hm,hah]
   rw [e5] at HM2
   clear e5
   have hl:livesB E (wrongS E s4 i 11) live=false:=by simp [livesB,hm3]
   have HM:=hide HM2
   clear HM2
   go_wp2_with fail
   refine (wrong_any _ wb E _ i 11 h6 hi).mono ?_
   clear c1
   rintro e w7 ⟨rfl,h7,hb7⟩
   go_wp2_with fail
   refine (lives_any _ wb E _ live h7).mono ?_
   rintro e wl ⟨rfl,hw⟩
   obtain rfl:=hw.symm
   have hm5:=unhide HM
   clear HM
   rw [hl,if_neg (by simp)] at hm5
   obtain ⟨hr,_⟩:=chk_eq hm5
   have HR:=hide hr
   clear hm5 hr
   rw [hl]
   cases hid
   ·go_wp2
    go_ret3
    rw [unhide HR]
    exact ⟨by simp [hah],h7,(unhide HB).trans hb7⟩
   ·go_wp2
    go_ret3
    rw [unhide HR]
    exact ⟨by simp [hah],h7,(unhide HB).trans hb7⟩
end Go.Proofs.YthmmgiaobakilaaGreat

set_option maxRecDepth 100000
namespace Go.Proofs.YthmmgiaobakilaaGreat
open Go.RowKit
theorem infoIntB:(Tryz.prog.info? 3).map (fun i=>(i.zero,i.size,i.bytes))=some (some (.int .i64 0),1,8):=by kernel_rfl
theorem WkAt.frame {w w2:World} {wb:Nat} {HS HS':List (Nat×Obj)} {E:Env} {σ:St} {tv lv so sd ov hv rv x:Value} (h:WkAt w wb HS' E σ tv lv so sd ov hv rv) (hsub:∀p∈HS,p∈HS') (hx:∀k,x.ownBlock=some k→wb < k∧lv.ownBlock≠some k∧rv.ownBlock≠some k∧ov.ownBlock≠some k∧hv.ownBlock≠some k)
  (hx2:∀p∈HS,x.ownBlock≠some p.1) (hg:∀k,k < w.heap.size→some k≠x.ownBlock→w2.heap[k]?=w.heap[k]?):WkAt w2 wb HS E σ tv lv so sd ov hv rv:=by
 have hlt:=h.lt
 have low:∀k,k≤wb→w2.heap[k]?=w.heap[k]?:=fun k hk=>hg k (by omega) (fun e=>by have:=(hx k e.symm).1;omega)
 refine ⟨(low wb (Nat.le_refl _)).trans h.blk,own_same h.tokens (fun k hk=>low k (by have:=h.tokLow k hk;omega)),h.tokLow,h.tokSome,h.tokFew,?_,?_,?_,?_,h.apLR,h.apLO,h.apLH,h.apRO,h.apRH,h.apOH,?_,?_,?_⟩
 ·exact own_same h.rowL (fun k hk=>hg k (h.rowL.lt k hk).2 (fun e=>(hx k e.symm).2.1 hk))
 ·exact own_same h.rowR (fun k hk=>hg k (h.rowR.lt k hk).2 (fun e=>(hx k e.symm).2.2.1 hk))
 ·exact own_same h.rowO (fun k hk=>hg k (h.rowO.lt k hk).2 (fun e=>(hx k e.symm).2.2.2.1 hk))
 ·exact own_same h.rowH (fun k hk=>hg k (h.rowH.lt k hk).2 (fun e=>(hx k e.symm).2.2.2.2 hk))
 ·obtain ⟨ao,c,e,hi⟩:=h.ints1;exact ⟨ao,c,e,hi.same (fun k hk=>low k (by omega))⟩
 ·obtain ⟨ao,c,e,hi⟩:=h.ints2;exact ⟨ao,c,e,hi.same (fun k hk=>low k (by omega))⟩
 ·intro p hp
  obtain ⟨a,b⟩:=h.held p (hsub p hp)
  exact ⟨(hg p.1 (Array.getElem?_eq_some_iff.1 a).1 (fun e=>hx2 p hp e.symm)).trans a,b⟩
def LHeld (wb:Nat) (HS:List (Nat×Obj)) (E:Env) (σ:St) (l:Value) (vs:List Int) (w:World):Prop:=
 ∃HS',Wk w wb HS' E σ∧(∀p∈HS,p∈HS')∧(∀k,l.ownBlock=some k→∃o,(k,o)∈HS')∧(∀p∈HS,l.ownBlock≠some p.1)∧w.ownsRow (wb+1) 3 1 l vs.length (vs.map (Value.int .i64))
theorem LHeld.snoc {w w2:World} {wb:Nat} {HS:List (Nat×Obj)} {E:Env} {σ:St} {l l':Value} {vs:List Int} {v:Int} (U:Obj) (h:LHeld wb HS E σ l vs w) (hown:w2.ownsRow (wb+1) 3 1 l' (vs.length+1) (vs.map (Value.int .i64)++[.int .i64 v])) (hg:(w.alloc U).grownBy w2 l.ownBlock) (hat:l'.ownBlock=l.ownBlock∨l'.ownBlock=some (w.heap.size+1)) :
  LHeld wb HS E σ l' (vs++[v]) w2:=by
 obtain ⟨HS',hw,h1,h2,h3,h4⟩:=h
 obtain ⟨tv,lv,so,sd,ov,hv,rv,hw⟩:=hw
 have hx:∀k,l.ownBlock=some k→wb < k∧lv.ownBlock≠some k∧rv.ownBlock≠some k∧ov.ownBlock≠some k∧hv.ownBlock≠some k:=fun k hk=>by
  obtain ⟨o,ho⟩:=h2 k hk
  exact ⟨(h4.lt k hk).1,(hw.held _ ho).2.2⟩
 have hk2:∀k,k < w.heap.size→some k≠l.ownBlock→w2.heap[k]?=w.heap[k]?:=fun k hk hne=>(hg.block k (by simp;omega) hne).trans (Below.heap_alloc w U k hk)
 have F:=hw.frame h1 hx h3 hk2
 have hp1:∀p∈HS,l'.ownBlock≠some p.1:=fun p hp e=>by
  rcases hat with e2 | e2
  ·exact h3 p hp (e2.symm.trans e)
  ·have:=(Array.getElem?_eq_some_iff.1 (hw.held p (h1 p hp)).1).1
   rw [e2] at e
   simp at e
   omega
 have hown':w2.ownsRow (wb+1) 3 1 l' (vs++[v]).length ((vs++[v]).map (Value.int .i64)):=by simpa using hown
 obtain ⟨g,cap,hl'⟩:=own_succ hown
 have hgo:l'.ownBlock=some g:=by rw [hl'];rfl
 obtain ⟨o,ho⟩:∃o,w2.heap[g]?=some o:=by
  have:=(hown.lt g hgo).2
  exact ⟨_,Array.getElem?_eq_getElem this⟩
 refine ⟨(g,o)::HS,⟨tv,lv,so,sd,ov,hv,rv,{ F with held:=?_ }⟩,fun p hp=>List.mem_cons_of_mem _ hp,fun k hk=>⟨o,?_⟩,hp1,hown'⟩
 ·intro p hp
  rcases List.mem_cons.1 hp with rfl | hp
  ·refine ⟨ho,by have:=(hown.lt g hgo).1;show g≠wb;omega,?_⟩
   rcases hat with e2 | e2
   ·exact (hx g (e2.symm.trans hgo)).2
   ·have hge:g=w.heap.size+1:=by rw [hgo] at e2;simpa using e2
    refine ⟨fun e=>?_,fun e=>?_,fun e=>?_,fun e=>?_⟩
    ·have:=(hw.rowL.lt _ e).2;simp at this;omega
    ·have:=(hw.rowR.lt _ e).2;simp at this;omega
    ·have:=(hw.rowO.lt _ e).2;simp at this;omega
    ·have:=(hw.rowH.lt _ e).2;simp at this;omega
  ·exact F.held p hp
 ·rw [hgo] at hk
  cases hk
  exact List.mem_cons_self
theorem LHeld.later {w:World} {wb:Nat} {HS:List (Nat×Obj)} {E:Env} {σ σ':St} {l:Value} {vs:List Int} (h:LHeld wb HS E σ l vs w):∃HS',Wk w wb HS' E σ∧∀w2,Wk w2 wb HS' E σ'→LHeld wb HS E σ' l vs w2:=by
 obtain ⟨HS',hw,h1,h2,h3,h4⟩:=h
 refine ⟨HS',hw,fun w2 hw2=>⟨HS',hw2,h1,h2,h3,own_same h4 (fun k hk=>?_)⟩⟩
 obtain ⟨o,ho⟩:=h2 k hk
 obtain ⟨_,_,_,_,_,_,_,a⟩:=hw
 obtain ⟨_,_,_,_,_,_,_,b⟩:=hw2
 exact (b.held _ ho).1.trans (a.held _ ho).1.symm
structure LS where
 vs:List Int
 h:Bool
 to:Nat
 σ:St
def preI (E:Env) (q:LS):Nat:=if q.vs.length=0 then q.to else needI E q.σ q.to sCM
def preS (E:Env) (q:LS):St:=if q.vs.length=0 then q.σ else needS E q.σ q.to sCM
def itemsM (X:Env→St→Nat→Bool→Option RAns) (E:Env) (live:Bool):Nat→LS→Option LS
 | 0,q=>some q
 | m+1,q=>if preI E q < E.toks.length then (X E (preS E q) (preI E q) live).bind fun x=>itemsM X E live m ⟨q.vs++[x.v],q.h||x.h,x.to,x.σ⟩ else none
def listM (X:Env→St→Nat→Bool→Option RAns) (n:Nat) (E:Env) (σ:St) (i:Nat) (live:Bool):Option LS:=
 if i+1 < E.toks.length∧needI E (stepS E σ live) (i+1) sPO < E.toks.length then
  (itemsM X E live n ⟨[],false,needI E (stepS E σ live) (i+1) sPO,needS E (stepS E σ live) (i+1) sPO⟩).bind fun q=>some ⟨q.vs,q.h,needI E q.σ q.to sPC,needS E q.σ q.to sPC⟩
 else none
def GoodL (E:Env) (q:LS):Prop:=q.to < E.toks.length∧OkS q.σ∧∀v∈q.vs,In32 v
def LOutR (wb:Nat) (HS:List (Nat×Obj)) (E:Env) (w:World) (r:LS) (e:Ending) (w':World):Prop:=
 ∃l,e = .returned (.tuple #[l,.bool r.h,.int .i64 (r.to:Int)])∧LHeld wb HS E r.σ l r.vs w'∧Below wb w w'
set_option maxRecDepth 100000 in
set_option maxHeartbeats 4000000 in
theorem list_any {X:Env→St→Nat→Bool→Option RAns} (hsub:SubOK 100 X) (hgood:SubGood X) (n:Nat) (hn:n≤3) (w:World) (wb:Nat) (HS:List (Nat×Obj)) (E:Env) (σ:St) (i:Nat) (live:Bool) (r:LS) (h:Wk w wb HS E σ) (hok:OkS σ) (hM:listM X n E σ i live=some r) :
  Calls Tryz.prog 148 #[.pointer (some ⟨wb,0,none⟩),.int .i64 (i:Int),.bool live,.int .i64 (n:Int)] w (LOutR wb HS E w r):=by
 have tf:=h.some.2
 unfold listM at hM
 split at hM
 case isFalse=>cases hM
 case isTrue hg1=>
 obtain ⟨hi1,hn1⟩:=hg1
 obtain ⟨qe,hIt,hM2⟩:=Option.bind_eq_some_iff.1 hM
 have HM:=hide (Option.some.inj hM2)
 have HI:=hide hIt
 clear hM hIt hM2
 have hii:(i:Int)+1 < 1000:=by omega
 have hiN:((i+1:Nat):Int)=(i:Int)+1:=by omega
 obtain ⟨i0,hi0,hz0,hz1,hz2⟩:=info_parts infoIntB
 go_enter Tryz.func148,Tryz.ntmps148
 go_wp2_with fail
 refine (rstep_any _ wb E σ live h hok.2.1).mono ?_
 clear h
 rintro e w1 ⟨rfl,h1,hb1⟩
 go_wp2_with fail
 refine (need_any _ wb E _ (i+1) sPO h1 hi1).mono ?_
 clear h1
 rintro e w2 ⟨rfl,h2,hb2⟩
 have ok2:OkS (needS E (stepS E σ live) (i+1) sPO):=needS_ok (stepS_ok hok)
 have HB:=hide (hb1.trans hb2)
 clear hb1 hb2 hok
 go_wp2
 go_loopg [11,12,13,14] n (fun m st sl sh sk wr=>∃q:LS,q.vs.length+m=n∧st = .int .i64 (q.to:Int)∧sh = .bool q.h∧sk = .int .i64 (q.vs.length:Int)∧LHeld wb HS E q.σ sl q.vs wr∧Below wb w wr∧GoodL E q∧itemsM X E live m q=some qe)
 case atStart=>exact ⟨⟨[],false,_,_⟩,by simp,rfl,rfl,rfl,⟨HS,h2,fun p hp=>hp,fun k hk=>by simp [Value.ownBlock] at hk,fun p hp=>by simp [Value.ownBlock],⟨rfl,.inl ⟨rfl,rfl⟩⟩⟩,unhide HB,⟨hn1,ok2,fun v hv=>by simp at hv⟩,unhide HI⟩
 case round=>
  clear HI HB h2 ok2 hn1
  obtain ⟨q,hcnt,rfl,rfl,rfl,hl,hb,gq,hit⟩:=hrel
  cases gk with
  | zero=>
   have HQ:=hide (Option.some.inj hit)
   clear hit
   have hlt:decide ((q.vs.length:Int) < (n:Int))=false:=by simp;omega
   obtain ⟨HS',hW,hlat⟩:=LHeld.later (σ':=needS E q.σ q.to sPC) hl
   have HLA:=hide hlat
   clear hlat hl
   go_wp2_with fail
   refine (need_any _ wb E q.σ q.to sPC hW gq.1).mono ?_
   rintro e w3 ⟨rfl,h3,hb3⟩
   have HO:=hide (unhide HLA w3 h3)
   go_wp2
   go_ret3
   rw [←unhide HM,←unhide HQ]
   exact ⟨_,rfl,unhide HO,hb.trans hb3⟩
  | succ gk=>
   have hlt:(q.vs.length:Int) < (n:Int):=by omega
   rw [itemsM] at hit
   split at hit
   case isFalse=>cases hit
   case isTrue hpre=>
   obtain ⟨x,hx,hit2⟩:=Option.bind_eq_some_iff.1 hit
   have HIT:=hide hit2
   clear hit hit2
   have gx:=hgood _ _ _ _ _ hx
   by_cases hz:q.vs.length=0
   ·have ei:preI E q=q.to:=by simp [preI,hz]
    have es:preS E q=q.σ:=by simp [preS,hz]
    rw [ei] at hx hpre
    rw [es] at hx
    clear ei es
    obtain ⟨HS',hW,hlat⟩:=LHeld.later (σ':=x.σ) hl
    have HLA:=hide hlat
    clear hlat hl
    go_wp2_with fail
    refine (hsub _ wb HS' E q.σ q.to live x hW gq.1 gq.2.1 hx).mono ?_
    clear hx hW
    rintro e w4 ⟨rfl,h4,hb4⟩
    have HL4:=hide (unhide HLA w4 h4)
    have HB4:=hide (hb.trans hb4)
    have hw4:wb < w4.heap.size:=by obtain ⟨_,_,_,_,_,_,_,hh⟩:=h4;exact hh.lt
    obtain ⟨_,_,_,_,_,ho⟩:=unhide HL4
    have HO:=hide ho
    clear ho HLA h4 hb4 hb hz
    go_wp2_with (at_builtin;refine wpList_append_own_at _ rfl _ _ 22 rfl (wb+1) 3 i0 (.int .i64 0) 1 8 Tryz.underlying22 hi0 hz0 hz1 hz2 rfl (by decide) _ _ _ rfl ((unhide HO).alloc _) ⟨w4.heap.size,0,none⟩ 1 1 [.int .i64 x.v] rfl rfl ?c1 ?c2 ?c3 ?c4 ?c5 ?_)
    case c1=>exact cell_one_new _ _ _
    case c2=>exact ints_oneCell .i64 [x.v]
    case c3=>unfold maxLen;omega
    case c4=>omega
    case c5=>simp;omega
    intro l' w5 g1 hg _ hat
    have R:=hide (LHeld.snoc _ (unhide HL4) g1 hg (by simpa using hat))
    have RB:=hide (((unhide HB4).alloc (by omega) _).grown hg (by simp;omega) (fun q hq=>by have:=((unhide HO).lt q hq).1;omega))
    clear g1 hg hat HL4 HB4 HO
    cases hqh:q.h
    ·go_wp2
     go_roundg gk
     case measure=>omega
     case rel=>exact ⟨⟨q.vs++[x.v],q.h||x.h,x.to,x.σ⟩,by simp;omega,rfl,by rw [hqh];rfl,by simp,unhide R,unhide RB,⟨gx.1,gx.2.1,fun v hv=>by rcases List.mem_append.1 hv with hv | hv;exact gq.2.2 v hv;simp at hv;rw [hv];exact gx.2.2⟩,unhide HIT⟩
    ·go_wp2
     go_roundg gk
     case measure=>omega
     case rel=>exact ⟨⟨q.vs++[x.v],q.h||x.h,x.to,x.σ⟩,by simp;omega,rfl,by rw [hqh];rfl,by simp,unhide R,unhide RB,⟨gx.1,gx.2.1,fun v hv=>by rcases List.mem_append.1 hv with hv | hv;exact gq.2.2 v hv;simp at hv;rw [hv];exact gx.2.2⟩,unhide HIT⟩
   ·have ei:preI E q=needI E q.σ q.to sCM:=by simp [preI,hz]
    have es:preS E q=needS E q.σ q.to sCM:=by simp [preS,hz]
    rw [ei] at hx hpre
    rw [es] at hx
    have hz':(0:Int) < (q.vs.length:Int):=by omega
    obtain ⟨HS',hW,hlat⟩:=LHeld.later (σ':=needS E q.σ q.to sCM) hl
    have HLA:=hide hlat
    clear hlat hl ei es hz
    go_wp2_with fail
    refine (need_any _ wb E q.σ q.to sCM hW gq.1).mono ?_
    rintro e w3 ⟨rfl,h3,hb3⟩
    have hl3:=unhide HLA w3 h3
    clear HLA h3 hW
    obtain ⟨HS',hW,hlat⟩:=LHeld.later (σ':=x.σ) hl3
    have HLA:=hide hlat
    clear hlat hl3
    go_wp2_with fail
    refine (hsub _ wb HS' E _ _ live x hW hpre (needS_ok gq.2.1) hx).mono ?_
    clear hx hW
    rintro e w4 ⟨rfl,h4,hb4⟩
    have HL4:=hide (unhide HLA w4 h4)
    have HB4:=hide ((hb.trans hb3).trans hb4)
    have hw4:wb < w4.heap.size:=by obtain ⟨_,_,_,_,_,_,_,hh⟩:=h4;exact hh.lt
    obtain ⟨_,_,_,_,_,ho⟩:=unhide HL4
    have HO:=hide ho
    clear ho HLA h4 hb4 hb hb3
    go_wp2_with (at_builtin;refine wpList_append_own_at _ rfl _ _ 22 rfl (wb+1) 3 i0 (.int .i64 0) 1 8 Tryz.underlying22 hi0 hz0 hz1 hz2 rfl (by decide) _ _ _ rfl ((unhide HO).alloc _) ⟨w4.heap.size,0,none⟩ 1 1 [.int .i64 x.v] rfl rfl ?c1 ?c2 ?c3 ?c4 ?c5 ?_)
    case c1=>exact cell_one_new _ _ _
    case c2=>exact ints_oneCell .i64 [x.v]
    case c3=>unfold maxLen;omega
    case c4=>omega
    case c5=>simp;omega
    intro l' w5 g1 hg _ hat
    have R:=hide (LHeld.snoc _ (unhide HL4) g1 hg (by simpa using hat))
    have RB:=hide (((unhide HB4).alloc (by omega) _).grown hg (by simp;omega) (fun q hq=>by have:=((unhide HO).lt q hq).1;omega))
    clear g1 hg hat HL4 HB4 HO
    cases hqh:q.h
    ·go_wp2
     go_roundg gk
     case measure=>omega
     case rel=>exact ⟨⟨q.vs++[x.v],q.h||x.h,x.to,x.σ⟩,by simp;omega,rfl,by rw [hqh];rfl,by simp,unhide R,unhide RB,⟨gx.1,gx.2.1,fun v hv=>by rcases List.mem_append.1 hv with hv | hv;exact gq.2.2 v hv;simp at hv;rw [hv];exact gx.2.2⟩,unhide HIT⟩
    ·go_wp2
     go_roundg gk
     case measure=>omega
     case rel=>exact ⟨⟨q.vs++[x.v],q.h||x.h,x.to,x.σ⟩,by simp;omega,rfl,by rw [hqh];rfl,by simp,unhide R,unhide RB,⟨gx.1,gx.2.1,fun v hv=>by rcases List.mem_append.1 hv with hv | hv;exact gq.2.2 v hv;simp at hv;rw [hv];exact gx.2.2⟩,unhide HIT⟩
def opsF:List ByteArray:=[⟨#[40]⟩,⟨#[45]⟩,⟨#[112,101,101,107]⟩,⟨#[115,112,121]⟩,⟨#[115,101,108]⟩,⟨#[109,105,110]⟩,⟨#[109,97,120]⟩]
def bothM (E:Env) (s:ByteArray) (q:LS):Option RAns:=if q.vs.length=2∧In32 (q.vs.getD 0 0)∧In32 (q.vs.getD 1 0) then chk E ⟨doesV s (q.vs.getD 0 0) (q.vs.getD 1 0),q.h,q.to,q.σ⟩ else none
def selM (E:Env) (q:LS):Option RAns:=if q.vs.length=3 then (if q.vs.getD 0 0=0 then chk E ⟨q.vs.getD 2 0,q.h,q.to,q.σ⟩ else chk E ⟨q.vs.getD 1 0,q.h,q.to,q.σ⟩) else none
def signM (X F:Env→St→Nat→Bool→Option RAns) (E:Env) (σ:St) (i:Nat) (live:Bool) (s:ByteArray):Option RAns:=
 if s.toList==[40] then (if i+1 < E.toks.length then (X E σ (i+1) live).bind fun r=>chk E ⟨r.v,r.h,needI E r.σ r.to sPC,needS E r.σ r.to sPC⟩ else none) else
 if s.toList==[45] then (if i+1 < E.toks.length then (F E (stepS E σ live) (i+1) live).bind fun r=>chk E ⟨wrapV (-r.v),r.h,r.to,r.σ⟩ else none) else
 if s.toList==[112,101,101,107] then texelM X false E σ i live else
 if s.toList==[115,112,121] then texelM X true E σ i live else
 if s.toList==[109,105,110] then (listM X 2 E σ i live).bind (bothM E s) else
 if s.toList==[109,97,120] then (listM X 2 E σ i live).bind (bothM E s) else
 if s.toList==[115,101,108] then (listM X 3 E σ i live).bind (selM E) else
 chk E ⟨0,false,E.toks.length-1,wrongS E σ i 9⟩
def factorM (X F:Env→St→Nat→Bool→Option RAns) (E:Env) (σ:St) (i:Nat) (live:Bool):Option RAns:=
 if stopB E σ then chk E ⟨0,false,E.toks.length-1,σ⟩ else
 if (tokAt E i).kind==2 then chk E (namedA E σ i live) else
 if (tokAt E i).kind==1 then chk E (namedA E σ i live) else signM X F E σ i live (opF E σ i opsF)
theorem factor_good {X F:Env→St→Nat→Bool→Option RAns} : SubGood (factorM X F):=by
 intro E σ i live r h
 unfold factorM at h
 split at h
 ·exact chk_good h
 split at h
 ·exact chk_good h
 split at h
 ·exact chk_good h
 unfold signM at h
 split at h
 ·split at h
  ·obtain ⟨x,_,h⟩:=Option.bind_eq_some_iff.1 h
   exact chk_good h
  ·cases h
 split at h
 ·split at h
  ·obtain ⟨x,_,h⟩:=Option.bind_eq_some_iff.1 h
   exact chk_good h
  ·cases h
 split at h
 ·exact texel_good X false E σ i live r h
 split at h
 ·exact texel_good X true E σ i live r h
 split at h
 ·obtain ⟨x,_,h⟩:=Option.bind_eq_some_iff.1 h
  unfold bothM at h
  split at h
  ·exact chk_good h
  ·cases h
 split at h
 ·obtain ⟨x,_,h⟩:=Option.bind_eq_some_iff.1 h
  unfold bothM at h
  split at h
  ·exact chk_good h
  ·cases h
 split at h
 ·obtain ⟨x,_,h⟩:=Option.bind_eq_some_iff.1 h
  unfold selM at h
  split at h
  ·split at h
   ·exact chk_good h
   ·exact chk_good h
  ·cases h
 ·exact chk_good h
theorem Wk.fewer {w:World} {wb:Nat} {HS HS':List (Nat×Obj)} {E:Env} {σ:St} (h:Wk w wb HS' E σ) (hs:∀p∈HS,p∈HS'):Wk w wb HS E σ:=by
 obtain ⟨tv,lv,so,sd,ov,hv,rv,h⟩:=h
 exact ⟨tv,lv,so,sd,ov,hv,rv,{ h with held:=fun p hp=>h.held p (hs p hp) }⟩
end Go.Proofs.YthmmgiaobakilaaGreat
