import Derived.Test.YthmmgiaobakilaaGreatJ46
import Derived.Laws.CopyOwn
set_option maxRecDepth 100000
set_option maxHeartbeats 8000000
set_option linter.all false
namespace Go.Proofs.YthmmgiaobakilaaGreat
open Go.RowKit Go.Deep
variable {l:List Int} {w:World}
theorem Uq (w:World) (k:Nat) (hk:k<=17592186043906):(Instr.makeSlice 22 (.int .i64 (k:Int)) (.int .i64 (k:Int))).run Tryz.prog w=.ok (.slice (some ⟨w.heap.size,0,none⟩) k k) (w.alloc (kY (List.replicate k 0))):=by
 obtain⟨i0,hi0,hz0,hz1,hz2⟩:=dG XH;have:=run_make (P:=Tryz.prog) w 22 3 i0 (.int .i64 0) Tryz.underlying22 hi0 hz0 .i64 .i64 (k:Int) (k:Int) (by omega) (dn _) (by rw[hz2];omega) (by omega);rw[this,gU,hz1,QU];rfl
theorem Na {b:Nat} (h:w.heap[b]?=some (kY l)) {i:Nat} (v:Int):(w.setCell ⟨b,i,none⟩ (.int .i64 v)).heap[b]?=some (kY (l.set i v)):=by
 refine(aM w b i _ _ (.int .i64 v) h).trans ?_;simp[kY,List.map_set]
theorem Yd:(Tryz.prog.info? 3).map (·.size)=some 1:=by kernel_rfl
theorem Ua (w0 w:World) (g:Nat) (ao:Option Addr) (c B:Nat) (xs:List Int) (hx:aF B w ao xs) (hg:w.heap[g]?=some (kY (List.replicate (xs.length+2) 0))) (hb:Below w0.heap.size w0 w) (hB:w0.heap.size<=g) :
  ∃w',(Builtin.copy_ #[22,22] 3 #[.slice (some ⟨g,0,none⟩) (xs.length+2) (xs.length+2),.slice ao xs.length c]).run Tryz.prog w=.ok (goInt xs.length) w'/\w'.heap[g]?=some (kY (xs++[0,0]))/\Below w0.heap.size w0 w':=by
 have hmin:Nat.min xs.length (xs.length+2)=xs.length:=by show min _ _=_;omega
 rcases hx with hx|⟨b,off,rfl,hb',hc⟩
 .subst hx;have:=run_copy_none (P:=Tryz.prog) w 22 22 3 3 (some ⟨g,0,none⟩) ao 2 2 0 c Tryz.underlying22 Yd (by decide);exact⟨w,this,hg,hb⟩
 .have hsrc:∀j v,(xs.map (Value.int .i64))[j]?=some v->w.cell? ((⟨b,off,none⟩:Addr).add j)=some v:=λj v hj=>by
   rw[lY]at hj
   cases hq:xs[j]? with
   | none=>rw[hq]at hj;cases hj
   | some q=>
    rw[hq]at hj;cases hj;have hjl:=(rR.1 hq).1;have h2:=hc j hjl;rw[List.getD_eq_getElem?_getD,hq]at h2;unfold Addr.add;split
    .rename_i h0;subst h0;exact h2
    .exact h2
  have:=run_copy_row (P:=Tryz.prog) w 22 22 3 3 g 0 (xs.length+2) (xs.length+2) ⟨b,off,none⟩ xs.length c _ 3 (xs.map (Value.int .i64)) Tryz.underlying22 Yd hg (by rw[tK,hmin]) hsrc (by simp) (λv hv=>by
   rw[List.mem_map]at hv;obtain⟨q,_,rfl⟩:=hv;rfl)
  rw[tK]at this;refine⟨_,this,?_,below_setRow hb hB _⟩;refine(setRow_heap w g _ _ 3 _ hg).trans ?_;simp[kY,List.drop_replicate]
theorem NI (ao:Option Addr) (c:Nat) (xs:List Int) (w:World) (hx:aF w.heap.size w ao xs) (hl:xs.length<=17592186043904) :
  Calls Tryz.prog 12 #[.slice ao xs.length c] w λe w'=>e=.returned (.slice (some ⟨w.heap.size,0,none⟩) xs.length (xs.length+2))/\w'.heap[w.heap.size]?=some (kY (xs++[77,77]))/\Below w.heap.size w w':=by
 have mk:=λw=>Uq w (xs.length+2) (by omega);obtain⟨w1,hw1⟩:∃w1,w.alloc (kY (List.replicate (xs.length+2) 0))=w1:=⟨_,rfl⟩;have b1:Below w.heap.size w w1:=by rw[<-hw1];exact jV _ _
 have h1:w1.heap[w.heap.size]?=some (.cells ((List.replicate (xs.length+2) (0:Int)).map (Value.int .i64)).toArray 3 (0,0)):=by rw[<-hw1];exact qh w _
 have mk1:=mk w;rw[hw1]at mk1;have mk2:((xs.length+2:Nat):Int)=(xs.length:Int)+2:=by omega
 rw[mk2]at mk1;have z1:w.heap.size<w1.heap.size:=by rw[<-hw1];simp
 obtain⟨w2,hr,h2,b2⟩:=Ua w w1 w.heap.size ao c w.heap.size xs (hx.later b1 (af _)) h1 b1 (af _);have c0:=(lZ h2 (i:=xs.length) (by simp)).1;have c1:=(lZ h2 (i:=xs.length+1) (by simp)).1;have f0:=(lZ h2 (i:=xs.length) (by simp)).2;have f1:=(lZ h2 (i:=xs.length+1) (by simp)).2;have H2:=aj h2;have B2:=aj b2;have HR:=aj hr;have MK:=aj mk1;clear mk mk2 mk1 hw1 h1 b1 hx h2 b2 hr z1;go_enter Tryz.func12,Tryz.ntmps12;go_wp2_with fail;rw[aa MK];simp only[Result.andThen_ok];go_wp2_with fail;rw[aa HR];simp only[Result.andThen_ok];go_wp2;go_ret;refine⟨rfl,?_,((aa B2).setCell (af _) _).setCell (af _) _⟩;refine(Na (Na (aa H2) (i:=xs.length) 77) (i:=xs.length+1) 77).trans ?_;simp
theorem EA {g:Nat} {xs us:List Int} (h:w.heap[g]?=some (kY (xs++us))):aF (g+1) w (some ⟨g,0,none⟩) xs:=by
 refine .inr ⟨g,0,rfl,by omega,λj hj=>?_⟩;have:=(lZ h (i:=j) (by simp;omega)).1;rw[pM,this,List.getD_eq_getElem?_getD,pI hj,<-List.getD_eq_getElem?_getD]
theorem Gr (g:Nat) (ao:Option Addr) (c:Nat) (xs:List Int) (w:World) (hg:w.heap[g]?=some (kY (xs++[77,77]))) (hx:aF w.heap.size w ao xs) (hl:xs.length<=17592186043904) :
  Calls Tryz.prog 17 #[.slice (some ⟨g,0,none⟩) xs.length (xs.length+2),.slice ao xs.length c] w λe w'=>e=.returned (.bool true)/\Below w.heap.size w w':=by
 have hlt:g<w.heap.size:=(az.1 hg).1;have SI:=aj (DY (some ⟨g,0,none⟩) ao (xs.length+2) c xs w ((EA hg).mono hlt) hx (by unfold maxLen;omega));have HG:Hid (g<w.heap.size/\w.heap[g]?=some (kY (xs++[77,77]))):=⟨hlt,hg⟩;clear hx hg hlt;go_enter Tryz.func17,Tryz.ntmps17;go_wp2_with fail;refine(aa SI).mono ?_;rintro e w2 ⟨rfl,b2⟩;have h2:=(b2.block g (aa HG).1).trans (aa HG).2;have c0:w2.cell? ⟨g,xs.length,none⟩=some (.int .i64 77):=by rw[(lZ h2 (i:=xs.length) (by simp)).1];simp
 have c1:w2.cell? ⟨g,xs.length+1,none⟩=some (.int .i64 77):=by rw[(lZ h2 (i:=xs.length+1) (by simp)).1];simp
 have B2:=aj b2;clear b2 h2 SI HG;go_wp2;go_ret;exact⟨rfl,aa B2⟩
end Go.Proofs.YthmmgiaobakilaaGreat
