import Derived.Test.YthmmgiaobakilaaGreatK01
import Derived.Test.YthmmgiaobakilaaGreatK07
import Derived.Deep.RegionLaw
import Derived.Deep.AppendLies
set_option maxRecDepth 100000
namespace Go.Proofs.YthmmgiaobakilaaGreat
open Go.RowKit Go.Deep
theorem infoExpr:(Tryz.prog.info? 119).map (fun i=>(i.zero,i.size,i.bytes))=some (some (.agg #[.int .i64 0,.int .i64 0,.string ⟨#[]⟩,.int .i32 0,.int .i32 0,.slice none 0 0]),6,64):=by kernel_rfl
theorem rowP_same {w w':World} {base:Nat} {e:TypeId} {size:Nat} {v:Value} {n:Nat} {xs:List Value} (h:w.ownsRow base e size v n xs) (hs:∀k,v.ownBlock=some k→w'.heap[k]?=w.heap[k]?):w'.ownsRow base e size v n xs:=by
 refine ⟨h.1,?_⟩
 rcases h.2 with h0 | ⟨g,cap,cur,rfl,hb,hg,rest⟩
 ·exact .inl h0
 ·exact .inr ⟨g,cap,cur,rfl,hb,(hs g rfl).trans hg,rest⟩
def mapR {α β:Type} (g:α→β):Except Nat (α×Nat)→Except Nat (β×Nat)
 | .ok (a,j)=>.ok (g a,j)
 | .error y=>.error y
theorem args_open {α β:Type} {r1:Except Nat (Unit×Nat)} {P:Nat→PR α} {g:α→β} {x:Except Nat (β×Nat)} (h:andThen (some r1) (fun _ j=>andThen (P j) fun ls j=>got (g ls) j)=some x):∃fin,seqR r1 (fun _ j=>P j)=some fin∧x=mapR g fin:=by
 cases r1 with
 | error y=>cases h;exact ⟨.error y,rfl,rfl⟩
 | ok p=>
  obtain ⟨_,j⟩:=p
  have h:andThen (P j) (fun ls j=>got (g ls) j)=some x:=h
  cases hp:P j with
  | none=>rw [hp] at h;cases h
  | some q=>
   rw [hp] at h
   refine ⟨q,hp,?_⟩
   cases q with
   | error y=>cases h;rfl
   | ok p=>obtain ⟨a,k⟩:=p;cases h;rfl
def slB (so:Option Addr) (sl sc:Nat):Option Nat:=(Value.slice so sl sc).ownBlock
def CallAt (X:PE) (T:List Tok) (r:ByteArray) (w:World) (Q:Nat→Prop) (cs:List Value) (pb tb cap:Nat) (f pl:Int) (fin:Except Nat (List Ex×Nat)) (n k:Nat):Prop:=
 ∃cur:Except Nat (List Ex×Nat),StAt w pb tb cap T f pl cur∧(∀acc j,cur = .ok (acc,j)→ExsC w Q cs acc∧acc.length+k=n)∧seqR cur (fun acc j=>pArgs X T r k acc j)=some fin
def CallInv (X:PE) (T:List Tok) (r:ByteArray) (pb tb cap:Nat) (f pl:Int) (fin:Except Nat (List Ex×Nat)) (rb eb:Nat) (t:Tok) (n:Nat) (w0:World) (k:Nat) (w:World):Prop:=
 ∃so sl sc cs,ebk w eb (kP t) t.place (wP t) (nP t) (sP t) (.slice so sl sc)∧ebk w rb 0 0 ⟨#[]⟩ 0 0 (.slice none 0 0)∧Kept pb w0 w∧w.ownsRow (eb+1) 119 6 (.slice so sl sc) (n-k) cs ∧
  CallAt X T r w (fun g=>eb < g∧slB so sl sc≠some g) cs pb tb cap f pl fin n k
theorem call_step {X:PE} {T:List Tok} {r:ByteArray} {pb tb cap:Nat} {f pl:Int} {fin r1:Except Nat (List Ex×Nat)} {r2:Except Nat (Ex×Nat)} {rb eb:Nat} {t:Tok} {n d gk:Nat} {w0 wc w4 w5:World} {so ao:Option Addr} {sl sc al ac g cap':Nat} {cs:List Value} {a0 a1 a3 a4:Int} {a2:ByteArray} {U:Obj}
  (hpr:pb < rb) (hre:rb < eb) (hew:eb < wc.heap.size) (h0:w0.heap.size≤rb) (hd:d+(gk+1)=n)
  (he:ebk wc eb (kP t) t.place (wP t) (nP t) (sP t) (.slice so sl sc)) (hz:ebk wc rb 0 0 ⟨#[]⟩ 0 0 (.slice none 0 0)) (K:Kept pb w0 wc)
  (own:wc.ownsRow (eb+1) 119 6 (.slice so sl sc) d cs)
  (exs:∀acc j,r1 = .ok (acc,j)→ExsC wc (fun g=>eb < g∧slB so sl sc≠some g) cs acc∧acc.length+(gk+1)=n)
  (hpa:seqR r1 (fun acc j=>andThen (X T j) fun a j=>pArgs X T r gk (acc++[a]) j)=some fin) (hX2:seqR r1 (fun _ j=>X T j)=some r2)
  (k4:Kept pb wc w4) (h4:ERes w4 (fun g=>wc.heap.size≤g) pb tb cap T f pl (exW a0 a1 a2 a3 a4 (.slice ao al ac)) r2)
  (hown:w5.ownsRow (eb+1) 119 6 (.slice (some ⟨g,0,none⟩) (d+1) cap') (d+1) (cs++[.int .i64 a0,.int .i64 a1,.string a2,.int .i32 a3,.int .i32 a4,.slice ao al ac]))
  (hgrow:(w4.alloc U).grownBy w5 (Value.slice so sl sc).ownBlock) (hat:(Value.slice so sl sc).ownBlock=some g∨g=w4.heap.size+1) :
  CallInv X T r pb tb cap f pl fin rb eb t n w0 gk (w5.setCell ⟨eb,5,none⟩ (.slice (some ⟨g,0,none⟩) (d+1) cap')):=by
 have sz4:=k4.1
 have far:∀k,k < w4.heap.size→(Value.slice so sl sc).ownBlock≠some k→w5.heap[k]?=w4.heap[k]?:=fun k hk hn=>(hgrow.block k (by simp;omega) (fun e=>hn e.symm)).trans (Below.heap_alloc w4 U k hk)
 have low:∀k,k≤eb→(Value.slice so sl sc).ownBlock≠some k:=fun k hk e=>by have:=(own.lt k e).1;omega
 have hgg:=(hown.lt g rfl).1
 have he5:ebk w5 eb (kP t) t.place (wP t) (nP t) (sP t) (.slice so sl sc):=(far eb (by omega) (low eb (Nat.le_refl _))).trans ((k4.2 eb hew (by omega)).trans he)
 have hz5:ebk w5 rb 0 0 ⟨#[]⟩ 0 0 (.slice none 0 0):=(far rb (by omega) (low rb (by omega))).trans ((k4.2 rb (by omega) (by omega)).trans hz)
 have sz5:w4.heap.size+1≤w5.heap.size:=by have:=hgrow.size;simpa using this
 have stay:∀k,k≠eb→(w5.setCell ⟨eb,5,none⟩ (.slice (some ⟨g,0,none⟩) (d+1) cap')).heap[k]?=w5.heap[k]?:=fun k hk=>Below.heap_setCell _ _ _ _ hk
 refine ⟨some ⟨g,0,none⟩,d+1,cap',cs++[.int .i64 a0,.int .i64 a1,.string a2,.int .i32 a3,.int .i32 a4,.slice ao al ac],?_,?_,?_,?_,?_⟩
 ·exact heap_setCell_same _ eb 5 _ _ _ he5
 ·exact (stay rb (by omega)).trans hz5
 ·refine ⟨?_,fun k hk hn=>?_,(K.same.trans k4.same).trans ((((Same.refl w4).alloc U).trans (Same.grown hgrow)).set _ _)⟩
  ·have:=K.1;simp;omega
  ·have:=K.1
   exact (stay k (by omega)).trans ((far k (by omega) (low k (by omega))).trans ((k4.2 k (by omega) hn).trans (K.2 k hk hn)))
 ·rw [show n-gk=d+1 by omega]
  exact rowP_same hown (fun k hk=>stay k (by have:=(hown.lt k hk).1;omega))
 ·have two:∀k,k≤pb→(w5.setCell ⟨eb,5,none⟩ (.slice (some ⟨g,0,none⟩) (d+1) cap')).heap[k]?=w4.heap[k]?:=fun k hk=>(stay k (by omega)).trans (far k (by omega) (low k (by omega)))
  cases r1 with
  | error y=>
   cases hX2
   cases hpa
   exact ⟨.error y,StAt.two (r:=.error y) (α:=List Ex) (show StAt w4 pb tb cap T f pl (.error y) from h4) two,fun acc j e=>(by cases e),rfl⟩
  | ok p=>
   obtain ⟨acc,j0⟩:=p
   have hX2:X T j0=some r2:=hX2
   have hpa:andThen (X T j0) (fun a j=>pArgs X T r gk (acc++[a]) j)=some fin:=hpa
   rw [hX2] at hpa
   obtain ⟨ex,hl⟩:=exs acc j0 rfl
   cases r2 with
   | error y=>
    cases hpa
    exact ⟨.error y,StAt.two (r:=.error y) (α:=List Ex) (show StAt w4 pb tb cap T f pl (.error y) from h4) two,fun acc j e=>(by cases e),rfl⟩
   | ok q=>
    obtain ⟨a,j⟩:=q
    refine ⟨.ok (acc++[a],j),StAt.two (r:=.ok (acc++[a],j)) (show StAt w4 pb tb cap T f pl (.ok (acc++[a],j)) from h4.1) two,?_,hpa⟩
    intro acc' j' e
    cases e
    refine ⟨?_,by simp;omega⟩
    have st1:Stay (fun g=>eb < g∧slB so sl sc≠some g) wc (w5.setCell ⟨eb,5,none⟩ (.slice (some ⟨g,0,none⟩) (d+1) cap')):=fun k hk hl=>by
     have h1:eb < k:=hk.1
     exact (stay k (by omega)).trans ((far k (by omega) hk.2).trans (k4.2 k hl (by omega)))
    have st2:Stay (fun g=>wc.heap.size≤g) w4 (w5.setCell ⟨eb,5,none⟩ (.slice (some ⟨g,0,none⟩) (d+1) cap')):=fun k hk hl=>by
     have hk:wc.heap.size≤k:=hk
     exact (stay k (by omega)).trans (far k hl (fun e=>by have:=(own.lt k e).2;omega))
    have hQ:∀k,eb < k→k < w4.heap.size→slB so sl sc≠some k→eb < k∧slB (some ⟨g,0,none⟩) (d+1) cap'≠some k:=fun k h1 h2 h3=>⟨h1,fun e=>by
     have e:g=k:=by simpa [slB,Value.ownBlock] using e
     rcases hat with h | h
     ·exact h3 (by rw [←e];exact h)
     ·omega⟩
    obtain ⟨b,o,ta,ka,ra,sva,ea,ev,hka⟩:=h4.2
    obtain ⟨rfl,rfl,rfl,rfl,rfl,rfl⟩:=exW_inj ev
    subst ea
    refine ExsC.snoc (hka.later st2 (fun k hk hl=>?_)) acc cs (ExsC.later st1 (fun k hk hl=>hQ k hk.1 (by omega) hk.2) acc cs ex)
    have hk:wc.heap.size≤k:=hk
    exact hQ k (by omega) hl (fun e=>by have:=(own.lt k e).2;omega)
theorem pArgs_mid {X:PE} {T:List Tok} {r:ByteArray} {k:Nat} {cur:Except Nat (List Ex×Nat)} {fin:Except Nat (List Ex×Nat)} (h:seqR cur (fun acc j=>pArgs X T r (k+1) acc j)=some fin) :
  ∃rc:Except Nat (Unit×Nat),seqR cur (fun acc j=>if acc.length=0 then got () j else pNeed T sCM j)=some rc ∧
   ∃r1:Except Nat (List Ex×Nat),(∀acc j,r1 = .ok (acc,j)→∃j0,cur = .ok (acc,j0))∧(∀(w:World) (pb tb cap:Nat) (f pl:Int),StAt w pb tb cap T f pl rc→StAt w pb tb cap T f pl r1) ∧
    ∃r2,seqR r1 (fun _ j=>X T j)=some r2∧seqR r1 (fun acc j=>andThen (X T j) fun a j=>pArgs X T r k (acc++[a]) j)=some fin:=by
 cases cur with
 | error y=>cases h;exact ⟨.error y,rfl,.error y,fun acc j e=>(by cases e),fun _ _ _ _ _ _ h=>h,.error y,rfl,rfl⟩
 | ok p=>
  obtain ⟨acc,j⟩:=p
  have h:pArgs X T r (k+1) acc j=some fin:=h
  rw [pArgs] at h
  cases hc:(if acc.length=0 then got () j else pNeed T sCM j:PR Unit) with
  | none=>rw [hc] at h;cases h
  | some rc=>
   rw [hc] at h
   refine ⟨rc,hc,?_⟩
   cases rc with
   | error y=>cases h;exact ⟨.error y,fun acc j e=>(by cases e),fun _ _ _ _ _ _ h=>h,.error y,rfl,rfl⟩
   | ok q=>
    obtain ⟨_,j1⟩:=q
    have h:andThen (X T j1) (fun a j=>pArgs X T r k (acc++[a]) j)=some fin:=h
    cases hx:X T j1 with
    | none=>rw [hx] at h;cases h
    | some r2=>
     refine ⟨.ok (acc,j1),fun acc' j' e=>(by cases e;exact ⟨j,rfl⟩),fun _ _ _ _ _ _ h=>h,r2,hx,?_⟩
     exact h
theorem pArgs_end {X:PE} {T:List Tok} {r:ByteArray} {cur:Except Nat (List Ex×Nat)} {fin:Except Nat (List Ex×Nat)} (h:seqR cur (fun acc j=>pArgs X T r 0 acc j)=some fin) :
  ∃rc:Except Nat (Unit×Nat),seqR cur (fun _ j=>pNeed T r j)=some rc∧(∀(w:World) (pb tb cap:Nat) (f pl:Int),StAt w pb tb cap T f pl rc→StAt w pb tb cap T f pl fin)∧∀ls j,fin = .ok (ls,j)→∃j0,cur = .ok (ls,j0):=by
 cases cur with
 | error y=>cases h;exact ⟨.error y,rfl,fun _ _ _ _ _ _ h=>h,fun ls j e=>(by cases e)⟩
 | ok p=>
  obtain ⟨acc,j⟩:=p
  have h:pArgs X T r 0 acc j=some fin:=h
  rw [pArgs] at h
  obtain ⟨rc,hc⟩:=need_some T r j
  rw [hc] at h
  refine ⟨rc,hc,?_⟩
  cases rc with
  | error y=>cases h;exact ⟨fun _ _ _ _ _ _ h=>h,fun ls j e=>(by cases e)⟩
  | ok q=>obtain ⟨_,j1⟩:=q;cases h;exact ⟨fun _ _ _ _ _ _ h=>h,fun ls j' e=>(by cases e;exact ⟨j,rfl⟩)⟩
theorem comma_skip {T:List Tok} {cur:Except Nat (List Ex×Nat)} {rc:Except Nat (Unit×Nat)} (h:seqR cur (fun acc j=>if acc.length=0 then got () j else pNeed T sCM j)=some rc) (h0:∀acc j,cur = .ok (acc,j)→acc.length=0) {w:World} {pb tb cap:Nat} {f pl:Int} (hs:StAt w pb tb cap T f pl cur):StAt w pb tb cap T f pl rc:=by
 cases cur with
 | error y=>cases h;exact hs
 | ok p=>
  obtain ⟨acc,j⟩:=p
  have h:(if acc.length=0 then got () j else pNeed T sCM j:PR Unit)=some rc:=h
  rw [if_pos (h0 acc j rfl)] at h
  cases h
  exact hs
theorem comma_need {T:List Tok} {cur:Except Nat (List Ex×Nat)} {rc:Except Nat (Unit×Nat)} (h:seqR cur (fun acc j=>if acc.length=0 then got () j else pNeed T sCM j)=some rc) (h0:∀acc j,cur = .ok (acc,j)→acc.length≠0):seqR cur (fun _ j=>pNeed T sCM j)=some rc:=by
 cases cur with
 | error y=>exact h
 | ok p=>
  obtain ⟨acc,j⟩:=p
  have h:(if acc.length=0 then got () j else pNeed T sCM j:PR Unit)=some rc:=h
  rw [if_neg (h0 acc j rfl)] at h
  exact h
set_option maxHeartbeats 8000000 in
theorem pcall_any {X Q:PE} (hX:ParsesE 130 X) (l r:ByteArray) (cl cr:Int) (hl:l∈signs) (hcl:runeOf l=cl) (hrs:r∈signs) (hcr:runeOf r=cr) (n:Nat) (hn0:0 < n) (hn:n≤3)
  (hQ:∀T i,Q T i=andThen (pNeed T l (i+1)) fun _ j=>andThen (pArgs X T r n [] j) fun ls j=>got (nodeL (tkAt T i) ls) j):CallOK Q cl cr n:=by
 intro s w pb tb cap i T f pl x hT h hi hx
 have hp:=h.plt
 have hlow:=h.low
 have hi1:=isT_next hT.last h.lt hi
 rw [hQ] at hx
 obtain ⟨r1,e1⟩:=need_some T l (i+1)
 rw [e1] at hx
 obtain ⟨fin,hfin,rfl⟩:=args_open hx
 have HFIN:=hide hfin
 have E1:=hide e1
 clear hx hfin e1 hi
 obtain ⟨i0,hi0,hz0,hz1,hz2⟩:=info_parts infoExpr
 go_enter Tryz.func151,Tryz.ntmps151
 go_wp2_with fail
 refine (take_any _ pb tb cap i T f pl (h.alloc _) hi1).mono ?_
 rintro e w1 ⟨rfl,h1,k1⟩
 have q1:ebk w1 w.heap.size 0 0 ⟨#[]⟩ 0 0 (.slice none 0 0):=(k1.2 _ (by simp) (by omega)).trans (heap_alloc_new w _)
 have K1:=(Kept.alloc pb w _).trans k1
 have lt1:w.heap.size < w1.heap.size:=(Array.getElem?_eq_some_iff.1 q1).1
 clear h k1
 unfold tokP tkV
 go_wp2_with fail
 refine (takeSign_any hT _ pb tb cap (i+1) f pl cl l hl hcl (h1.alloc _) (unhide E1)).mono ?_
 rintro e w2 hu
 obtain ⟨rfl,k2,h2⟩:=hu.st
 have he2:ebk w2 w1.heap.size (kP (tkAt T i)) (tkAt T i).place (wP (tkAt T i)) (nP (tkAt T i)) (sP (tkAt T i)) (.slice none 0 0):=(k2.2 _ (by simp) (by omega)).trans (heap_alloc_new w1 _)
 have hz2':ebk w2 w.heap.size 0 0 ⟨#[]⟩ 0 0 (.slice none 0 0):=(k2.2 _ (by simp;omega) (by omega)).trans ((Below.heap_alloc w1 _ _ lt1).trans q1)
 have K2:=(K1.trans (Kept.alloc pb w1 _)).trans k2
 have sz2:w1.heap.size+1≤w2.heap.size:=by have:=k2.1;simpa using this
 have inv0:CallInv X T r pb tb cap f pl fin w.heap.size w1.heap.size (tkAt T i) n w n w2:=by
  refine ⟨none,0,0,[],he2,hz2',K2,by rw [Nat.sub_self];exact World.ownsRow_nil _ _ _ _,mapR (fun _=>[]) r1,?_,?_,?_⟩
  ·cases r1 with
   | error y=>exact h2
   | ok p=>exact h2
  ·intro acc j e
   cases r1 with
   | error y=>cases e
   | ok p=>cases e;exact ⟨rfl,by simp⟩
  ·have:=unhide HFIN
   cases r1 with
   | error y=>exact this
   | ok p=>exact this
 clear hu h1 h2 q1 K1 k2 he2 hz2' K2 HFIN E1 hi1
 go_wp2
 go_loopg [18] n (fun k v wr=>k≤n∧v = .int .i64 ((n-k:Nat):Int)∧CallInv X T r pb tb cap f pl fin w.heap.size w1.heap.size (tkAt T i) n w k wr)
 case atStart=>exact ⟨Nat.le_refl _,by rw [Nat.sub_self];rfl,inv0⟩
 case round=>
  clear inv0
  obtain ⟨hkn,rfl,so,sl,sc,cs,he,hz,kw,own,cur,hst,hex,hpa⟩:=hrel
  have hew:w1.heap.size < wr.heap.size:=(Array.getElem?_eq_some_iff.1 he).1
  cases gk with
  | zero=>
   obtain ⟨rc,hrc,hfin,hls⟩:=pArgs_end hpa
   have HF:=hide hfin
   have HL:=hide hls
   have HRC:=hide hrc
   have HEX:=hide hex
   clear hfin hls hrc hpa hex
   have hlt:decide (((n-0:Nat):Int) < (n:Int))=false:=by simp
   go_wp2_with fail
   refine (sign_seq hT _ pb tb cap f pl cr r hrs hcr hst (unhide HRC)).mono ?_
   rintro e w3 ⟨rfl,k3,h3⟩
   have he3:=(k3.2 _ hew (by omega)).trans he
   have hz3:=(k3.2 _ (by omega) (by omega)).trans hz
   have K3:=hide (kw.trans k3)
   have H3:=hide (unhide HF _ _ _ _ _ _ h3)
   obtain ⟨⟨d0,d1,d2,d3,d4,d5⟩,z0,z1,z2,z3,z4,z5⟩:=blk6 hz3
   obtain ⟨⟨x0,x1,x2,x3,x4,x5⟩,y0,y1,y2,y3,y4,y5⟩:=blk6 he3
   have KK:=hide k3
   clear he hz kw h3 hst he3 hz3 k3
   go_wp2
   refine bodyPost_ret (v:=exW (kP (tkAt T i)) (tkAt T i).place (wP (tkAt T i)) (nP (tkAt T i)) (sP (tkAt T i)) (.slice so sl sc)) (by simp [results,Tryz.results151,go_sem,exW,d0,d1,d2,d3,d4,d5]) rfl ⟨(unhide K3).put6 (Nat.le_refl _),_,_,_,_,_,_,_,_,rfl,?_⟩
   have two:∀k,k≠w.heap.size→(put6 w3 w.heap.size (kP (tkAt T i)) (tkAt T i).place (wP (tkAt T i)) (nP (tkAt T i)) (sP (tkAt T i)) (.slice so sl sc)).heap[k]?=w3.heap[k]?:=fun k hk=>put6_other hk
   have st:=StAt.two (unhide H3) (fun k hk=>two k (by omega))
   cases fin with
   | error y=>exact st
   | ok q=>
    obtain ⟨ls,j⟩:=q
    refine ⟨st,?_⟩
    obtain ⟨j0,hcur⟩:=unhide HL ls j rfl
    obtain ⟨ex,hlen⟩:=unhide HEX ls j0 hcur
    refine ⟨0,0,tkAt T i,rowE ls,.nil,.slice so sl sc,rfl,rfl,?_⟩
    rw [Nat.sub_zero] at own
    obtain ⟨g,c,hsv,hg1,hg2⟩:=own.form hn0
    cases hsv
    have stay:Stay (fun g'=>w1.heap.size < g'∧slB (some ⟨g,0,none⟩) n sc≠some g') wr (put6 w3 w.heap.size (kP (tkAt T i)) (tkAt T i).place (wP (tkAt T i)) (nP (tkAt T i)) (sP (tkAt T i)) (.slice (some ⟨g,0,none⟩) n sc)):=fun k hk hl=>by
     have:=hk.1
     exact (two k (by omega)).trans ((unhide KK).2 k hl (by omega))
    have ex2:=ExsC.later stay (Q':=fun g'=>w.heap.size≤g') (fun k hk _=>by have:w1.heap.size < k:=hk.1;show _≤k;omega) ls cs ex
    have own2:(put6 w3 w.heap.size (kP (tkAt T i)) (tkAt T i).place (wP (tkAt T i)) (nP (tkAt T i)) (sP (tkAt T i)) (.slice (some ⟨g,0,none⟩) n sc)).ownsRow (w1.heap.size+1) 119 6 (.slice (some ⟨g,0,none⟩) n sc) n cs:=rowP_same own (fun k hk=>by
     have:=(own.lt k hk)
     exact (two k (by omega)).trans ((unhide KK).2 k this.2 (by omega)))
    have hll:ls.length=n:=by omega
    refine .inr ⟨?_,g,sc,?_,by show _≤g;omega,?_⟩
    ·cases ls with
     | nil=>exact absurd hll (by simp;omega)
     | cons a ls=>obtain ⟨_,_,_,_,_,_,_,ea,_⟩:=ex;rw [ea];exact fun e=>by (cases e)
    ·rw [ExsC.lenE ls cs ex,hll]
    ·refine ExsC.rep cs (fun k hk=>?_) ls cs 0 rfl ex2
     exact (own2.cellAt k (by have:=own.1;omega)).trans (List.getElem?_eq_getElem hk)
  | succ gk=>
   obtain ⟨d,hd⟩:∃d,d+(gk+1)=n:=⟨n-(gk+1),by omega⟩
   have hnd:n-(gk+1)=d:=by omega
   rw [hnd] at own ⊢
   have hlt:decide ((d:Int) < (n:Int))=true:=by simp;omega
   obtain ⟨rc,hrc,ra,hra,hrast,r2,hX2,hfin⟩:=pArgs_mid hpa
   have HF:=hide hfin
   have HX2:=hide hX2
   have HRA:=hide hrast
   have hcl0:∀acc j,cur = .ok (acc,j)→acc.length=d:=fun acc j e=>by have:=(hex acc j e).2;omega
   clear hpa hfin hX2 hrast
   by_cases hd0:d=0
   ·have hst1:=unhide HRA _ _ _ _ _ _ (comma_skip hrc (fun acc j e=>by rw [hcl0 acc j e,hd0]) hst)
    have exs:∀acc j,ra = .ok (acc,j)→ExsC wr (fun g=>w1.heap.size < g∧slB so sl sc≠some g) cs acc∧acc.length+(gk+1)=n:=fun acc j e=>by
     obtain ⟨j0,e0⟩:=hra acc j e
     exact hex acc j0 e0
    subst hd0
    obtain ⟨wc,hwc⟩:∃wc,wc=wr:=⟨_,rfl⟩
    have EXS:=hide exs
    have HST:=hide hst1
    clear hrc hra hst hex hcl0 HRA exs hst1
    go_wp2
    obtain ⟨⟨x0,x1,x2,x3,x4,x5⟩,y0,y1,y2,y3,y4,y5⟩:=blk6 he
    go_region_law (first
      | (refine step_append_lies _ rfl _ _ 117 rfl (w1.heap.size+1) 119 i0 (.agg #[.int .i64 0,.int .i64 0,.string ⟨#[]⟩,.int .i32 0,.int .i32 0,.slice none 0 0]) 6 64 Tryz.underlying117 hi0 hz0 hz1 hz2 rfl (by decide) (.slice so sl sc) 0 cs (by simp [Act.eval]) (own4.alloc _) ⟨w4.heap.size,0,none⟩ 1 1 [.int .i64 a0,.int .i64 a1,.string a2,.int .i32 a3,.int .i32 a4,.slice ao al ac] (by simp [Act.eval]) rfl (World.news_of_block (heap_alloc_new w4 _)) (by simp [Value.oneCell']) (by decide) (by unfold maxLen;omega) (by omega) (by simp;omega) (w4.heap.size+1) (by simp) ?_;intro g cap' w5 hown hgrow hat hlt5;have he5:ebk w5 w1.heap.size (kP (tkAt T i)) (tkAt T i).place (wP (tkAt T i)) (nP (tkAt T i)) (sP (tkAt T i)) (.slice so sl sc):=(hgrow.block _ (by simp;omega) (fun e=>by have:=(own4.lt _ e.symm).1;omega)).trans ((Below.heap_alloc w4 _ _ (by omega)).trans he4);have c5:=(blk6 he5).1.2.2.2.2.2;have z5':=(blk6 he5).2.2.2.2.2.2;have fin5:=fin4 g cap' w5 hown hgrow hat)
      | (go_simp;go_at_call_of 130 (Value.pointer (some ⟨pb,0,none⟩));refine (expr_seq hX hT _ pb tb cap f pl (r1:=ra) (r:=r2) ?_ (unhide HX2)).mono ?_;exact StAt.later (unhide HST) (fun _ _=>rfl);rintro e w4 ⟨k4,a0,a1,a2,a3,a4,ao,al,ac,rfl,h4⟩;have c4:w4.cell? ⟨w1.heap.size,5,none⟩=some (.slice so sl sc):=(blk6 ((k4.2 _ (by show _ < wr.heap.size;omega) (by omega)).trans he)).1.2.2.2.2.2;have he4:ebk w4 w1.heap.size (kP (tkAt T i)) (tkAt T i).place (wP (tkAt T i)) (nP (tkAt T i)) (sP (tkAt T i)) (.slice so sl sc):=(k4.2 _ (by show _ < wr.heap.size;omega) (by omega)).trans he;have own4:=rowP_same own (w':=w4) (fun k hk=>k4.2 k (own.lt k hk).2 (by have:=(own.lt k hk).1;omega));have sz4:wr.heap.size≤w4.heap.size:=k4.1;have m4:w1.heap.size≠w4.heap.size:=(by omega);have l4:w1.heap.size < w4.heap.size:=(by omega);have fin4:=fun (g cap':Nat) (w5:World) hown hgrow hat=>call_step (U:=.cells #[.int .i64 a0,.int .i64 a1,.string a2,.int .i32 a3,.int .i32 a4,.slice ao al ac] 119) (g:=g) (cap':=cap') (w5:=w5) hp lt1 hew (Nat.le_refl _) hd he hz kw own (unhide EXS) (unhide HF) (unhide HX2) (by first | exact k4 | exact k4.undrew | exact k4.undrew.undrew) h4 hown hgrow hat;unfold exW))
    all_goals go_wp2
    all_goals go_roundg gk
    all_goals first | omega | exact ⟨by omega,by (congr 1;omega),fin5⟩
   ·have hcm:=comma_need hrc (fun acc j e=>by rw [hcl0 acc j e];exact hd0)
    have HCM:=hide hcm
    have hgt:(0:Int) < (d:Int):=by omega
    have HEX:=hide hex
    have HRA2:=hide hra
    clear hrc hcm hex hcl0 hra
    go_wp2_with fail
    refine (sign_seq hT _ pb tb cap f pl 44 sCM mem_sg.2.2.2.2.1 rune_CM hst (unhide HCM)).mono ?_
    rintro e wc ⟨rfl,kc,hc⟩
    have hst1:=unhide HRA _ _ _ _ _ _ hc
    have exs:∀acc j,ra = .ok (acc,j)→ExsC wc (fun g=>w1.heap.size < g∧slB so sl sc≠some g) cs acc∧acc.length+(gk+1)=n:=fun acc j e=>by
     obtain ⟨j0,e0⟩:=unhide HRA2 acc j e
     obtain ⟨a,b⟩:=unhide HEX acc j0 e0
     exact ⟨ExsC.later (fun k hk hl=>kc.2 k hl (by have:=hk.1;omega)) (fun k hk _=>hk) acc cs a,b⟩
    have he':ebk wc w1.heap.size (kP (tkAt T i)) (tkAt T i).place (wP (tkAt T i)) (nP (tkAt T i)) (sP (tkAt T i)) (.slice so sl sc):=(kc.2 _ hew (by omega)).trans he
    have hz':ebk wc w.heap.size 0 0 ⟨#[]⟩ 0 0 (.slice none 0 0):=(kc.2 _ (by omega) (by omega)).trans hz
    have kw':=kw.trans kc
    have own':=rowP_same own (w':=wc) (fun k hk=>kc.2 k (own.lt k hk).2 (by have:=(own.lt k hk).1;omega))
    have hew':w1.heap.size < wc.heap.size:=(Array.getElem?_eq_some_iff.1 he').1
    clear he hz kw own hst hc kc HRA HRA2 HEX HCM hew
    have EXS:=hide exs
    have HST:=hide hst1
    clear exs hst1
    go_wp2
    obtain ⟨⟨x0,x1,x2,x3,x4,x5⟩,y0,y1,y2,y3,y4,y5⟩:=blk6 he'
    go_region_law (first
      | (refine step_append_lies _ rfl _ _ 117 rfl (w1.heap.size+1) 119 i0 (.agg #[.int .i64 0,.int .i64 0,.string ⟨#[]⟩,.int .i32 0,.int .i32 0,.slice none 0 0]) 6 64 Tryz.underlying117 hi0 hz0 hz1 hz2 rfl (by decide) (.slice so sl sc) d cs (by simp [Act.eval]) (own4.alloc _) ⟨w4.heap.size,0,none⟩ 1 1 [.int .i64 a0,.int .i64 a1,.string a2,.int .i32 a3,.int .i32 a4,.slice ao al ac] (by simp [Act.eval]) rfl (World.news_of_block (heap_alloc_new w4 _)) (by simp [Value.oneCell']) (by decide) (by unfold maxLen;omega) (by omega) (by simp;omega) (w4.heap.size+1) (by simp) ?_;intro g cap' w5 hown hgrow hat hlt5;have he5:ebk w5 w1.heap.size (kP (tkAt T i)) (tkAt T i).place (wP (tkAt T i)) (nP (tkAt T i)) (sP (tkAt T i)) (.slice so sl sc):=(hgrow.block _ (by simp;omega) (fun e=>by have:=(own4.lt _ e.symm).1;omega)).trans ((Below.heap_alloc w4 _ _ (by omega)).trans he4);have c5:=(blk6 he5).1.2.2.2.2.2;have z5':=(blk6 he5).2.2.2.2.2.2;have fin5:=fin4 g cap' w5 hown hgrow hat)
      | (go_simp;go_at_call_of 130 (Value.pointer (some ⟨pb,0,none⟩));refine (expr_seq hX hT _ pb tb cap f pl (r1:=ra) (r:=r2) ?_ (unhide HX2)).mono ?_;exact StAt.later (unhide HST) (fun _ _=>rfl);rintro e w4 ⟨k4,a0,a1,a2,a3,a4,ao,al,ac,rfl,h4⟩;have c4:w4.cell? ⟨w1.heap.size,5,none⟩=some (.slice so sl sc):=(blk6 ((k4.2 _ (by show _ < wc.heap.size;omega) (by omega)).trans he')).1.2.2.2.2.2;have he4:ebk w4 w1.heap.size (kP (tkAt T i)) (tkAt T i).place (wP (tkAt T i)) (nP (tkAt T i)) (sP (tkAt T i)) (.slice so sl sc):=(k4.2 _ (by show _ < wc.heap.size;omega) (by omega)).trans he';have own4:=rowP_same own' (w':=w4) (fun k hk=>k4.2 k (own'.lt k hk).2 (by have:=(own'.lt k hk).1;omega));have sz4:wc.heap.size≤w4.heap.size:=k4.1;have m4:w1.heap.size≠w4.heap.size:=(by omega);have l4:w1.heap.size < w4.heap.size:=(by omega);have fin4:=fun (g cap':Nat) (w5:World) hown hgrow hat=>call_step (U:=.cells #[.int .i64 a0,.int .i64 a1,.string a2,.int .i32 a3,.int .i32 a4,.slice ao al ac] 119) (g:=g) (cap':=cap') (w5:=w5) hp lt1 hew' (Nat.le_refl _) hd he' hz' kw' own' (unhide EXS) (unhide HF) (unhide HX2) (by first | exact k4 | exact k4.undrew | exact k4.undrew.undrew) h4 hown hgrow hat;unfold exW))
    all_goals go_wp2
    all_goals go_roundg gk
    all_goals first | omega | exact ⟨by omega,by (congr 1;omega),fin5⟩
def lenS:Sx→Nat
 | .nil=>0
 | .node _ _ _ _ r=>lenS r+1
def asgV (t x:Tok) (sv:Value):Value:=.iface 121 (.agg #[.int .i64 (kP t),.int .i64 t.place,.string (wP t),.int .i32 (nP t),.int .i32 (sP t),.int .i64 (kP x),.int .i64 x.place,.string (wP x),.int .i32 (nP x),.int .i32 (sP x),sv])
def putV (t x:Tok) (sv:Value):Value:=.iface 130 (.agg #[.int .i64 (kP t),.int .i64 t.place,.string (wP t),.int .i32 (nP t),.int .i32 (sP t),.int .i64 (kP x),.int .i64 x.place,.string (wP x),.int .i32 (nP x),.int .i32 (sP x),sv])
def ifV (t x:Tok) (sv a b:Value):Value:=.iface 124 (.agg #[.int .i64 (kP t),.int .i64 t.place,.string (wP t),.int .i32 (nP t),.int .i32 (sP t),.int .i64 (kP x),.int .i64 x.place,.string (wP x),.int .i32 (nP x),.int .i32 (sP x),sv,a,b])
def forV (t x y:Tok) (a:Value):Value:=.iface 127 (.agg #[.int .i64 (kP t),.int .i64 t.place,.string (wP t),.int .i32 (nP t),.int .i32 (sP t),.int .i64 (kP x),.int .i64 x.place,.string (wP x),.int .i32 (nP x),.int .i32 (sP x),.int .i64 (kP y),.int .i64 y.place,.string (wP y),.int .i32 (nP y),.int .i32 (sP y),a])
def HeadE (e:Ex) (x:Tok) (k:Ex):Prop:=∃b o r,e = .node b o x k r
def StmV (w:World) (Q:Nat→Prop) (p:SP) (v:Value) (A:Value→Prop) (B:Value→Value→Prop):Prop:=
 (p.tag=0∧∃x k sv,HeadE p.e x k∧v=asgV p.t x sv∧RepK w Q sv k) ∨
 (p.tag=1∧∃x k sv a b,HeadE p.e x k∧v=ifV p.t x sv a b∧RepK w Q sv k∧B a b) ∨
 (p.tag=2∧∃a,v=forV p.t p.a p.b a∧A a) ∨
 ((p.tag=3∨p.tag=4)∧∃x k sv,HeadE p.e x k∧v=putV p.t x sv∧RepK w Q sv k)
theorem StmV.later {w w':World} {Q Q':Nat→Prop} {p:SP} {v:Value} {A A':Value→Prop} {B B':Value→Value→Prop} (hk:Stay Q w w') (hB:∀k,Q k→k < w.heap.size→Q' k) (h:StmV w Q p v A B) (hA:∀a,A a→A' a) (hBB:∀a b,B a b→B' a b):StmV w' Q' p v A' B':=by
 rcases h with ⟨h0,x,k,sv,h1,h2,h3⟩ | ⟨h0,x,k,sv,a,b,h1,h2,h3,h4⟩ | ⟨h0,a,h1,h2⟩ | ⟨h0,x,k,sv,h1,h2,h3⟩
 ·exact .inl ⟨h0,x,k,sv,h1,h2,h3.later hk hB⟩
 ·exact .inr (.inl ⟨h0,x,k,sv,a,b,h1,h2,h3.later hk hB,hBB _ _ h4⟩)
 ·exact .inr (.inr (.inl ⟨h0,a,h1,hA _ h2⟩))
 ·exact .inr (.inr (.inr ⟨h0,x,k,sv,h1,h2,h3.later hk hB⟩))
def RepS (w:World) (Q:Nat→Prop):Sx→Nat→Nat→Prop
 | .nil,_,_=>True
 | .node _ _ p k r,g,o=>(∃v,w.cell? ⟨g,o,none⟩=some v∧StmV w Q p v
   (fun sv=>(k = .nil∧∃ao c,sv = .slice ao 0 c)∨(k≠.nil∧∃g' c,sv = .slice (some ⟨g',0,none⟩) (lenS k) c∧Q g'∧RepS w Q k g' 0))
   (match k with
    | .nil=>fun _ _=>False
    | .node _ _ _ s u=>fun sv sw=>((s = .nil∧∃ao c,sv = .slice ao 0 c)∨(s≠.nil∧∃g' c,sv = .slice (some ⟨g',0,none⟩) (lenS s) c∧Q g'∧RepS w Q s g' 0))∧((u = .nil∧∃ao c,sw = .slice ao 0 c)∨(u≠.nil∧∃g' c,sw = .slice (some ⟨g',0,none⟩) (lenS u) c∧Q g'∧RepS w Q u g' 0))))∧RepS w Q r g (o+1)
def RepL (w:World) (Q:Nat→Prop) (sv:Value) (s:Sx):Prop:=(s = .nil∧∃ao c,sv = .slice ao 0 c)∨(s≠.nil∧∃g c,sv = .slice (some ⟨g,0,none⟩) (lenS s) c∧Q g∧RepS w Q s g 0)
def kidsB (w:World) (Q:Nat→Prop) (k:Sx) (a b:Value):Prop:=match k with
 | .nil=>False
 | .node _ _ _ s u=>RepL w Q a s∧RepL w Q b u
def RepP (w:World) (Q:Nat→Prop) (v:Value):Sx→Prop
 | .nil=>False
 | .node _ _ p k _=>StmV w Q p v (fun sv=>RepL w Q sv k) (kidsB w Q k)
theorem RepS_node {w:World} {Q:Nat→Prop} {b o' g o:Nat} {p:SP} {k r:Sx} : RepS w Q (.node b o' p k r) g o↔(∃v,w.cell? ⟨g,o,none⟩=some v∧RepP w Q v (.node b o' p k r))∧RepS w Q r g (o+1):=by
 cases k with
 | nil=>exact Iff.rfl
 | node _ _ _ _ _=>exact Iff.rfl
theorem RepS.lt {w:World} {Q:Nat→Prop} {k:Sx} {g o:Nat} (hn:k≠.nil) (h:RepS w Q k g o):g < w.heap.size:=by
 cases k with
 | nil=>exact absurd rfl hn
 | node _ _ _ _ _=>rw [RepS_node] at h;obtain ⟨⟨_,hc,_⟩,_⟩:=h;exact World.block_lt_of_cell? _ _ hc
theorem RepL.mk_later {w w':World} {Q Q':Nat→Prop} (hB:∀k,Q k→k < w.heap.size→Q' k) {sv:Value} {s:Sx} (hs:∀g,Q g→RepS w Q s g 0→RepS w' Q' s g 0) (h:RepL w Q sv s):RepL w' Q' sv s:=by
 rcases h with h | ⟨hn,g,c,e,hg,hf⟩
 ·exact .inl h
 ·exact .inr ⟨hn,g,c,e,hB _ hg (hf.lt hn),hs g hg hf⟩
theorem RepS.later {w w':World} {Q Q':Nat→Prop} (hk:Stay Q w w') (hB:∀k,Q k→k < w.heap.size→Q' k):∀(e:Sx) (g o:Nat),Q g→RepS w Q e g o→RepS w' Q' e g o
 | .nil,_,_,_,_=>trivial
 | .node _ _ p .nil r,g,o,hg,⟨⟨v,hc,hs⟩,hr⟩=>by
  refine ⟨⟨v,?_,hs.later hk hB (fun a ha=>RepL.mk_later (s:=.nil) hB (fun g _ _=>trivial) ha) (fun a b hb=>hb)⟩,RepS.later hk hB r g (o+1) hg hr⟩
  have hb:=hk g hg (World.block_lt_of_cell? _ _ hc)
  simp only [World.cell?] at hc ⊢
  rw [hb]
  exact hc
 | .node _ _ p (.node b1 o1 q s u) r,g,o,hg,⟨⟨v,hc,hs⟩,hr⟩=>by
  refine ⟨⟨v,?_,hs.later hk hB (fun a ha=>RepL.mk_later (s:=.node b1 o1 q s u) hB (fun g' hg' h=>RepS.later hk hB (.node b1 o1 q s u) g' 0 hg' h) ha)
   (fun a b hb=>⟨RepL.mk_later (s:=s) hB (fun g' hg' h=>RepS.later hk hB s g' 0 hg' h) hb.1,RepL.mk_later (s:=u) hB (fun g' hg' h=>RepS.later hk hB u g' 0 hg' h) hb.2⟩)⟩,RepS.later hk hB r g (o+1) hg hr⟩
  have hb:=hk g hg (World.block_lt_of_cell? _ _ hc)
  simp only [World.cell?] at hc ⊢
  rw [hb]
  exact hc
theorem RepL.later {w w':World} {Q Q':Nat→Prop} (hk:Stay Q w w') (hB:∀k,Q k→k < w.heap.size→Q' k) {sv:Value} {s:Sx} (h:RepL w Q sv s):RepL w' Q' sv s:=
 h.mk_later hB (fun g hg hs=>RepS.later hk hB s g 0 hg hs)
theorem RepP.later {w w':World} {Q Q':Nat→Prop} (hk:Stay Q w w') (hB:∀k,Q k→k < w.heap.size→Q' k) {v:Value} {s:Sx} (h:RepP w Q v s):RepP w' Q' v s:=by
 cases s with
 | nil=>exact h
 | node _ _ p k r=>
  refine StmV.later hk hB h (fun a ha=>RepL.later hk hB ha) (fun a b hb=>?_)
  cases k with
  | nil=>exact hb
  | node _ _ _ s u=>exact ⟨RepL.later hk hB hb.1,RepL.later hk hB hb.2⟩
theorem RepL.form {w:World} {Q:Nat→Prop} {sv:Value} {s:Sx} (h:RepL w Q sv s):∃ao c,sv = .slice ao (lenS s) c:=by
 rcases h with ⟨rfl,ao,c,rfl⟩ | ⟨_,g,c,rfl,_⟩
 ·exact ⟨ao,c,rfl⟩
 ·exact ⟨_,c,rfl⟩
def rowS:List Sx→Sx
 | []=>.nil
 | a::l=>besideS a (rowS l)
def StsC (w:World) (Q:Nat→Prop):List Value→List Sx→Prop
 | cs,[]=>cs=[]
 | cs,a::l=>∃v rest,cs=v::rest∧RepP w Q v a∧StsC w Q rest l
theorem StsC.snoc {w:World} {Q:Nat→Prop} {v:Value} {s:Sx} (hk:RepP w Q v s):∀(l:List Sx) (cs:List Value),StsC w Q cs l→StsC w Q (cs++[v]) (l++[s])
 | [],cs,h=>by cases h;exact ⟨v,[],rfl,hk,rfl⟩
 | a::l,cs,⟨v',rest,e,h1,h2⟩=>⟨v',rest++[v],by rw [e];rfl,h1,StsC.snoc hk l rest h2⟩
theorem StsC.later {w w':World} {Q Q':Nat→Prop} (hk:Stay Q w w') (hB:∀k,Q k→k < w.heap.size→Q' k):∀(l:List Sx) (cs:List Value),StsC w Q cs l→StsC w' Q' cs l
 | [],_,h=>h
 | _::l,_,⟨v',rest,e,h1,h2⟩=>⟨v',rest,e,h1.later hk hB,StsC.later hk hB l rest h2⟩
theorem StsC.len {w:World} {Q:Nat→Prop} : ∀(l:List Sx) (cs:List Value),StsC w Q cs l→cs.length=l.length
 | [],_,h=>by cases h;rfl
 | a::l,cs,⟨v',rest,e,h1,h2⟩=>by rw [e];have:=StsC.len l rest h2;simp [this]
theorem StsC.lenS {w:World} {Q:Nat→Prop} : ∀(l:List Sx) (cs:List Value),StsC w Q cs l→lenS (rowS l)=l.length
 | [],_,h=>rfl
 | a::l,cs,⟨v',rest,e,h1,h2⟩=>by
  cases a with
  | nil=>exact h1.elim
  | node _ _ _ _ _=>have:=StsC.lenS l rest h2;simp [rowS,besideS,Go.Proofs.YthmmgiaobakilaaGreat.lenS,this]
theorem StsC.rep {w:World} {Q:Nat→Prop} {g:Nat} (C:List Value) (hC:∀k (hk:k < C.length),w.cell? ⟨g,k,none⟩=some C[k]):∀(l:List Sx) (cs:List Value) (o:Nat),C.drop o=cs→StsC w Q cs l→RepS w Q (rowS l) g o
 | [],_,_,_,_=>trivial
 | a::l,cs,o,hd,⟨v',rest,e,h1,h2⟩=>by
  cases a with
  | nil=>exact h1.elim
  | node b o' p k r=>
   have ho:o < C.length:=by
    have:=congrArg List.length hd
    rw [e,List.length_drop,List.length_cons] at this
    omega
   have hv:C[o]=v':=by
    rw [List.drop_eq_getElem_cons ho,e] at hd
    exact (List.cons.inj hd).1
   show RepS w Q (.node b o' p k (rowS l)) g o
   rw [RepS_node]
   refine ⟨⟨v',by rw [hC o ho,hv],h1⟩,StsC.rep C hC l rest (o+1) ?_ h2⟩
   rw [List.drop_eq_getElem_cons ho,e] at hd
   exact (List.cons.inj hd).2
def SRes (w':World) (Q:Nat→Prop) (pb tb cap:Nat) (T:List Tok) (f pl:Int) (v:Value):Except Nat (Sx×Nat)→Prop
 | .ok (s,j)=>PsAt w' pb tb cap T j f pl∧RepP w' Q v s
 | .error x=>PsAt w' pb tb cap T (T.length-1) (badF f) (badP f pl (tkAt T x).place)
def SOut (ty:TypeId) (w:World) (pb tb cap:Nat) (T:List Tok) (f pl:Int) (r:Except Nat (Sx×Nat)) (e:Ending) (w':World):Prop:=Kept pb w w'∧∃v,e = .returned v∧SRes w' (fun g=>w.heap.size≤g) pb tb cap T f pl (.iface ty v) r
def LRes (w':World) (Q:Nat→Prop) (pb tb cap:Nat) (T:List Tok) (f pl:Int) (v:Value):Except Nat (Sx×Nat)→Prop
 | .ok (s,j)=>PsAt w' pb tb cap T j f pl∧RepL w' Q v s
 | .error x=>PsAt w' pb tb cap T (T.length-1) (badF f) (badP f pl (tkAt T x).place)
def LOut (w:World) (pb tb cap:Nat) (T:List Tok) (f pl:Int) (r:Except Nat (Sx×Nat)) (e:Ending) (w':World):Prop:=Kept pb w w'∧∃ao len c,e = .returned (.slice ao len c)∧LRes w' (fun g=>w.heap.size≤g) pb tb cap T f pl (.slice ao len c) r
theorem LRes.st {w:World} {Q:Nat→Prop} {pb tb cap:Nat} {T:List Tok} {f pl:Int} {v:Value} {r:Except Nat (Sx×Nat)} (h:LRes w Q pb tb cap T f pl v r):StAt w pb tb cap T f pl r:=by
 cases r with
 | error x=>exact h
 | ok p=>exact h.1
def ParsesS (fn:Nat) (ty:TypeId) (C:List Tok→Nat→Prop) (P:PS):Prop:=∀(w:World) (pb tb cap i:Nat) (T:List Tok) (f pl:Int) (r:Except Nat (Sx×Nat)),TokW T→PsAt w pb tb cap T i f pl→C T i→P T i=some r→Calls Tryz.prog fn #[.pointer (some ⟨pb,0,none⟩)] w (SOut ty w pb tb cap T f pl r)
def ParsesL (fn:Nat) (P:PS):Prop:=∀(w:World) (pb tb cap i:Nat) (T:List Tok) (f pl:Int) (r:Except Nat (Sx×Nat)),TokW T→PsAt w pb tb cap T i f pl→P T i=some r→Calls Tryz.prog fn #[.pointer (some ⟨pb,0,none⟩)] w (LOut w pb tb cap T f pl r)
theorem seq_split {α β γ:Type} {r1:Except Nat (α×Nat)} {P:α→Nat→PR β} {G:α→β→Nat→PR γ} {r:Except Nat (γ×Nat)} (h:seqR r1 (fun a j=>andThen (P a j) (G a))=some r) :
  ∃(rX:Except Nat (β×Nat)) (r2:Except Nat ((α×β)×Nat)),seqR r1 P=some rX∧(∀(w:World) (pb tb cap:Nat) (T:List Tok) (f pl:Int),StAt w pb tb cap T f pl rX→StAt w pb tb cap T f pl r2)∧(∀ab j,r2 = .ok (ab,j)→∃j0,r1 = .ok (ab.1,j0)∧rX = .ok (ab.2,j))∧seqR r2 (fun ab j=>G ab.1 ab.2 j)=some r:=by
 cases r1 with
 | error y=>cases h;exact ⟨.error y,.error y,rfl,fun _ _ _ _ _ _ _ h=>h,fun ab j e=>(by cases e),rfl⟩
 | ok p=>
  obtain ⟨a,j⟩:=p
  have h:andThen (P a j) (G a)=some r:=h
  cases hp:P a j with
  | none=>rw [hp] at h;cases h
  | some q=>
   rw [hp] at h
   cases q with
   | error y=>cases h;exact ⟨.error y,.error y,hp,fun _ _ _ _ _ _ _ h=>h,fun ab j e=>(by cases e),rfl⟩
   | ok q=>
    obtain ⟨b,j2⟩:=q
    exact ⟨.ok (b,j2),.ok ((a,b),j2),hp,fun _ _ _ _ _ _ _ h=>h,fun ab j' e=>(by cases e;exact ⟨j,rfl,rfl⟩),h⟩
theorem seq_got {α γ:Type} {r1:Except Nat (α×Nat)} {g:α→γ} {r:Except Nat (γ×Nat)} (h:seqR r1 (fun a j=>got (g a) j)=some r):r=mapR g r1:=by
 cases r1 with
 | error y=>cases h;rfl
 | ok p=>obtain ⟨a,j⟩:=p;cases h;rfl
theorem StAt.mapR {α β:Type} {w:World} {pb tb cap:Nat} {T:List Tok} {f pl:Int} {r:Except Nat (α×Nat)} (h:StAt w pb tb cap T f pl r) (g:α→β):StAt w pb tb cap T f pl (mapR g r):=by
 cases r with
 | error x=>exact h
 | ok p=>exact h
set_option maxHeartbeats 8000000 in
theorem passign_any {X:PE} (hX:ParsesE 130 X):ParsesS 113 121 (fun T i=>(tkAt T i).kind=1) (pAssign X):=by
 intro w pb tb cap i T f pl r hT h hk hr
 have hp:=h.plt
 have hlow:=h.low
 have hi1:=kind_next hT h.lt hk (by decide)
 have hnm:nmB T i=true:=by rw [nm_is hT,hk];rfl
 obtain ⟨r1,e1⟩:=need_some T sAR (i+1)
 unfold pAssign at hr
 rw [e1] at hr
 obtain ⟨rX,r2,hX2,hst2,hv2,hr2⟩:=seq_split (show seqR r1 (fun _ j=>andThen (X T j) fun e j=>andThen (pNeed T sSC j) fun _ j=>got (.node 0 0 ⟨0,tkAt T i,noTok,noTok,e⟩ .nil .nil) j)=some r from hr)
 obtain ⟨rS,r3,hS3,hst3,hv3,hr3⟩:=seq_split (show seqR r2 (fun ab j=>andThen (pNeed T sSC j) fun _ j=>got (.node 0 0 ⟨0,tkAt T i,noTok,noTok,ab.2⟩ .nil .nil:Sx) j)=some r from hr2)
 have HR:=hide (seq_got (g:=fun (ab:(Unit×Ex)×Unit)=>(.node 0 0 ⟨0,tkAt T i,noTok,noTok,ab.1.2⟩ .nil .nil:Sx)) hr3)
 have E1:=hide e1
 have HX2:=hide hX2
 have HST2:=hide hst2
 have HV2:=hide hv2
 have HS3:=hide hS3
 have HST3:=hide hst3
 have HV3:=hide hv3
 clear hr hr2 hr3 e1 hX2 hst2 hv2 hS3 hst3 hv3 hk
 go_enter Tryz.func113,Tryz.ntmps113
 go_wp2_with fail
 refine (takeName_yes _ pb tb cap i T f pl (h.alloc _) hnm hi1).mono ?_
 rintro e w1 ⟨rfl,h1,k1⟩
 have q1:w1.heap[w.heap.size]?=some (.cells #[.int .i64 0,.int .i64 0,.string ⟨#[]⟩,.int .i32 0,.int .i32 0,.int .i64 0,.int .i64 0,.string ⟨#[]⟩,.int .i32 0,.int .i32 0,.slice none 0 0] 121 (0,0)):=(k1.2 _ (by simp) (by omega)).trans (heap_alloc_new w _)
 have K1:=(Kept.alloc pb w _).trans k1
 have lt1:w.heap.size < w1.heap.size:=(Array.getElem?_eq_some_iff.1 q1).1
 clear h k1 hnm
 unfold tokP tkV
 go_wp2_with fail
 refine (takeSign_any hT _ pb tb cap (i+1) f pl 8592 sAR mem_sg.2.2.2.2.2.2.1 rune_AR (h1.alloc _) (unhide E1)).mono ?_
 rintro e w2 hu
 obtain ⟨rfl,k2,h2⟩:=hu.st
 have s2:w2.heap[w1.heap.size]?=some (.cells #[.int .i64 (kP (tkAt T i)),.int .i64 (tkAt T i).place,.string (wP (tkAt T i)),.int .i32 (nP (tkAt T i)),.int .i32 (sP (tkAt T i))] 116 (0,0)):=(k2.2 _ (by simp) (by omega)).trans (heap_alloc_new w1 _)
 have q2:=(k2.2 _ (by simp;omega) (by omega)).trans ((Below.heap_alloc w1 _ _ lt1).trans q1)
 have K2:=(K1.trans (Kept.alloc pb w1 _)).trans k2
 have lt2:w1.heap.size < w2.heap.size:=(Array.getElem?_eq_some_iff.1 s2).1
 clear hu h1 q1 K1 k2
 go_wp2_with fail
 refine (expr_seq hX hT _ pb tb cap f pl h2 (unhide HX2)).mono ?_
 rintro e w3 ⟨k3,a0,a1,a2,a3,a4,ao,al,ac,rfl,h3⟩
 have s3:=(k3.2 _ lt2 (by omega)).trans s2
 have q3:=(k3.2 _ (by omega) (by omega)).trans q2
 have K3:=K2.trans k3
 have lt3:=k3.1
 clear h2 q2 s2 K2 k3
 unfold exW
 go_wp2_with fail
 refine (sign_seq hT _ pb tb cap f pl 59 sSC mem_sg.2.2.2.2.2.1 rune_SC (StAt.alloc (unhide HST2 _ _ _ _ _ _ _ (ERes.st h3)) _) (unhide HS3)).mono ?_
 rintro e w4 ⟨rfl,k4,h4⟩
 have s4:=(k4.2 _ (by simp;omega) (by omega)).trans ((Below.heap_alloc w3 _ _ (by omega)).trans s3)
 have q4:=(k4.2 _ (by simp;omega) (by omega)).trans ((Below.heap_alloc w3 _ _ (by omega)).trans q3)
 have ub4:w4.heap[w3.heap.size]?=some (.cells #[.int .i64 a0,.int .i64 a1,.string a2,.int .i32 a3,.int .i32 a4,.slice ao al ac] 119 (0,0)):=(k4.2 _ (by simp) (by omega)).trans (heap_alloc_new w3 _)
 have K4:=(K3.trans (Kept.alloc pb w3 _)).trans k4
 have lt4:=k4.1
 clear K3 s3 q3
 have fin:∀W:World,Same w4 W→w4.heap.size≤W.heap.size→(∀k,k≠w.heap.size→W.heap[k]?=w4.heap[k]?)→SOut 121 w pb tb cap T f pl r (.returned (.agg #[.int .i64 (kP (tkAt T i)),.int .i64 (tkAt T i).place,.string (wP (tkAt T i)),.int .i32 (nP (tkAt T i)),.int .i32 (sP (tkAt T i)),.int .i64 a0,.int .i64 a1,.string a2,.int .i32 a3,.int .i32 a4,.slice ao al ac])) W:=by
  intro W hsame hs hW
  refine ⟨⟨by have:=K4.1;omega,fun k hk hn=>(hW k (by omega)).trans (K4.2 k hk hn),K4.same.trans hsame⟩,_,rfl,?_⟩
  have st:=StAt.mapR (StAt.two (unhide HST3 _ _ _ _ _ _ _ h4) (fun k hk=>hW k (by omega))) (fun (ab:(Unit×Ex)×Unit)=>(.node 0 0 ⟨0,tkAt T i,noTok,noTok,ab.1.2⟩ .nil .nil:Sx))
  have hr4:=unhide HR
  subst hr4
  cases r3 with
  | error y=>exact st
  | ok q=>
   obtain ⟨⟨⟨u,e⟩,u2⟩,j⟩:=q
   obtain ⟨j0,e2,_⟩:=unhide HV3 _ _ rfl
   obtain ⟨j1,_,eX⟩:=unhide HV2 _ _ e2
   rw [eX] at h3
   refine ⟨st,.inl ⟨rfl,?_⟩⟩
   obtain ⟨b,o,t,k,rr,sv,he,hv,hk⟩:=h3.2
   obtain ⟨rfl,rfl,rfl,rfl,rfl,rfl⟩:=exW_inj hv
   refine ⟨t,k,_,⟨b,o,rr,he⟩,rfl,hk.later (fun k hk hl=>?_) (fun k hk _=>?_)⟩
   ·have hk:w2.heap.size≤k:=hk
    exact (hW k (by omega)).trans ((k4.2 k (by simp;omega) (by omega)).trans (Below.heap_alloc w3 _ k hl))
   ·have hk:w2.heap.size≤k:=hk
    show w.heap.size≤k
    omega
 obtain ⟨⟨d0,d1,d2,d3,d4,d5,d6,d7,d8,d9,d10⟩,z0,z1,z2,z3,z4,z5,z6,z7,z8,z9,z10⟩:=bk11 q4
 obtain ⟨⟨t0,t1,t2,t3,t4⟩,y0,y1,y2,y3,y4⟩:=bk5 s4
 obtain ⟨⟨x0,x1,x2,x3,x4,x5⟩,_⟩:=blk6 ub4
 have n1:w.heap.size≠w1.heap.size:=by omega
 have n3:w.heap.size≠w3.heap.size:=by omega
 clear q4 s4 ub4 h3 h4 k4 K4 HST3 HR
 go_wp2
 refine bodyPost_ret (v:=.agg #[.int .i64 (kP (tkAt T i)),.int .i64 (tkAt T i).place,.string (wP (tkAt T i)),.int .i32 (nP (tkAt T i)),.int .i32 (sP (tkAt T i)),.int .i64 a0,.int .i64 a1,.string a2,.int .i32 a3,.int .i32 a4,.slice ao al ac]) (by simp [results,Tryz.results113,go_sem,d0,d1,d2,d3,d4,d5,d6,d7,d8,d9,d10]) rfl ?_
 refine fin _ ?_ (by simp) (fun k hk=>?_)
 ·iterate 11 (refine Same.set ?_ _ _)
  exact Same.refl _
 iterate 11 (refine (Below.heap_setCell _ _ _ _ hk).trans ?_)
 rfl
set_option maxHeartbeats 8000000 in
theorem pput_any {X:PE} (hX:ParsesE 130 X) (tag:Nat) (htag:tag=3∨tag=4):ParsesS 116 130 (fun T i=>i+1 < T.length) (pPut X tag):=by
 intro w pb tb cap i T f pl r hT h hi1 hr
 have hp:=h.plt
 have hlow:=h.low
 unfold pPut at hr
 obtain ⟨rX,r2,hX2,hst2,hv2,hr2⟩:=seq_split (r1:=.ok ((),i+1)) (show seqR (.ok ((),i+1)) (fun _ j=>andThen (X T j) fun e j=>andThen (pNeed T sSC j) fun _ j=>got (.node 0 0 ⟨tag,tkAt T i,noTok,noTok,e⟩ .nil .nil:Sx) j)=some r from hr)
 obtain ⟨rS,r3,hS3,hst3,hv3,hr3⟩:=seq_split (show seqR r2 (fun ab j=>andThen (pNeed T sSC j) fun _ j=>got (.node 0 0 ⟨tag,tkAt T i,noTok,noTok,ab.2⟩ .nil .nil:Sx) j)=some r from hr2)
 have HR:=hide (seq_got (g:=fun (ab:(Unit×Ex)×Unit)=>(.node 0 0 ⟨tag,tkAt T i,noTok,noTok,ab.1.2⟩ .nil .nil:Sx)) hr3)
 have HX2:=hide hX2
 have HST2:=hide hst2
 have HV2:=hide hv2
 have HS3:=hide hS3
 have HST3:=hide hst3
 have HV3:=hide hv3
 clear hr hr2 hr3 hX2 hst2 hv2 hS3 hst3 hv3
 go_enter Tryz.func116,Tryz.ntmps116
 go_wp2_with fail
 refine (take_any _ pb tb cap i T f pl (h.alloc _) hi1).mono ?_
 rintro e w1 ⟨rfl,h1,k1⟩
 have q1:w1.heap[w.heap.size]?=some (.cells #[.int .i64 0,.int .i64 0,.string ⟨#[]⟩,.int .i32 0,.int .i32 0,.int .i64 0,.int .i64 0,.string ⟨#[]⟩,.int .i32 0,.int .i32 0,.slice none 0 0] 130 (0,0)):=(k1.2 _ (by simp) (by omega)).trans (heap_alloc_new w _)
 have K1:=(Kept.alloc pb w _).trans k1
 have lt1:w.heap.size < w1.heap.size:=(Array.getElem?_eq_some_iff.1 q1).1
 clear h k1
 unfold tokP tkV
 go_wp2_with fail
 refine (expr_seq hX hT _ pb tb cap f pl (r1:=.ok ((),i+1)) (show StAt _ pb tb cap T f pl (.ok ((),i+1)) from h1.alloc _) (unhide HX2)).mono ?_
 rintro e w3 ⟨k3,a0,a1,a2,a3,a4,ao,al,ac,rfl,h3⟩
 have s3:w3.heap[w1.heap.size]?=some (.cells #[.int .i64 (kP (tkAt T i)),.int .i64 (tkAt T i).place,.string (wP (tkAt T i)),.int .i32 (nP (tkAt T i)),.int .i32 (sP (tkAt T i))] 116 (0,0)):=(k3.2 _ (by simp) (by omega)).trans (heap_alloc_new w1 _)
 have q3:=(k3.2 _ (by simp;omega) (by omega)).trans ((Below.heap_alloc w1 _ _ lt1).trans q1)
 have K3:=(K1.trans (Kept.alloc pb w1 _)).trans k3
 have lt3:w1.heap.size < w3.heap.size:=(Array.getElem?_eq_some_iff.1 s3).1
 clear h1 q1 K1 k3
 unfold exW
 go_wp2_with fail
 refine (sign_seq hT _ pb tb cap f pl 59 sSC mem_sg.2.2.2.2.2.1 rune_SC (StAt.alloc (unhide HST2 _ _ _ _ _ _ _ (ERes.st h3)) _) (unhide HS3)).mono ?_
 rintro e w4 ⟨rfl,k4,h4⟩
 have s4:=(k4.2 _ (by simp;omega) (by omega)).trans ((Below.heap_alloc w3 _ _ (by omega)).trans s3)
 have q4:=(k4.2 _ (by simp;omega) (by omega)).trans ((Below.heap_alloc w3 _ _ (by omega)).trans q3)
 have ub4:w4.heap[w3.heap.size]?=some (.cells #[.int .i64 a0,.int .i64 a1,.string a2,.int .i32 a3,.int .i32 a4,.slice ao al ac] 119 (0,0)):=(k4.2 _ (by simp) (by omega)).trans (heap_alloc_new w3 _)
 have K4:=(K3.trans (Kept.alloc pb w3 _)).trans k4
 have lt4:=k4.1
 clear K3 s3 q3
 have fin:∀W:World,Same w4 W→w4.heap.size≤W.heap.size→(∀k,k≠w.heap.size→W.heap[k]?=w4.heap[k]?)→SOut 130 w pb tb cap T f pl r (.returned (.agg #[.int .i64 (kP (tkAt T i)),.int .i64 (tkAt T i).place,.string (wP (tkAt T i)),.int .i32 (nP (tkAt T i)),.int .i32 (sP (tkAt T i)),.int .i64 a0,.int .i64 a1,.string a2,.int .i32 a3,.int .i32 a4,.slice ao al ac])) W:=by
  intro W hsame hs hW
  refine ⟨⟨by have:=K4.1;omega,fun k hk hn=>(hW k (by omega)).trans (K4.2 k hk hn),K4.same.trans hsame⟩,_,rfl,?_⟩
  have st:=StAt.mapR (StAt.two (unhide HST3 _ _ _ _ _ _ _ h4) (fun k hk=>hW k (by omega))) (fun (ab:(Unit×Ex)×Unit)=>(.node 0 0 ⟨tag,tkAt T i,noTok,noTok,ab.1.2⟩ .nil .nil:Sx))
  have hr4:=unhide HR
  subst hr4
  cases r3 with
  | error y=>exact st
  | ok q=>
   obtain ⟨⟨⟨u,e⟩,u2⟩,j⟩:=q
   obtain ⟨j0,e2,_⟩:=unhide HV3 _ _ rfl
   obtain ⟨j1,_,eX⟩:=unhide HV2 _ _ e2
   rw [eX] at h3
   refine ⟨st,.inr (.inr (.inr ⟨htag,?_⟩))⟩
   obtain ⟨b,o,t,k,rr,sv,he,hv,hk⟩:=h3.2
   obtain ⟨rfl,rfl,rfl,rfl,rfl,rfl⟩:=exW_inj hv
   refine ⟨t,k,_,⟨b,o,rr,he⟩,rfl,hk.later (fun k hk hl=>?_) (fun k hk _=>?_)⟩
   ·have hk:(w1.alloc _).heap.size≤k:=hk
    simp at hk
    exact (hW k (by omega)).trans ((k4.2 k (by simp;omega) (by omega)).trans (Below.heap_alloc w3 _ k hl))
   ·have hk:(w1.alloc _).heap.size≤k:=hk
    simp at hk
    show w.heap.size≤k
    omega
 obtain ⟨⟨d0,d1,d2,d3,d4,d5,d6,d7,d8,d9,d10⟩,z0,z1,z2,z3,z4,z5,z6,z7,z8,z9,z10⟩:=bk11 q4
 obtain ⟨⟨t0,t1,t2,t3,t4⟩,y0,y1,y2,y3,y4⟩:=bk5 s4
 obtain ⟨⟨x0,x1,x2,x3,x4,x5⟩,_⟩:=blk6 ub4
 have n1:w.heap.size≠w1.heap.size:=by omega
 have n3:w.heap.size≠w3.heap.size:=by omega
 clear q4 s4 ub4 h3 h4 k4 K4 HST3 HR
 go_wp2
 refine bodyPost_ret (v:=.agg #[.int .i64 (kP (tkAt T i)),.int .i64 (tkAt T i).place,.string (wP (tkAt T i)),.int .i32 (nP (tkAt T i)),.int .i32 (sP (tkAt T i)),.int .i64 a0,.int .i64 a1,.string a2,.int .i32 a3,.int .i32 a4,.slice ao al ac]) (by simp [results,Tryz.results116,go_sem,d0,d1,d2,d3,d4,d5,d6,d7,d8,d9,d10]) rfl ?_
 refine fin _ ?_ (by simp) (fun k hk=>?_)
 ·iterate 11 (refine Same.set ?_ _ _)
  exact Same.refl _
 iterate 11 (refine (Below.heap_setCell _ _ _ _ hk).trans ?_)
 rfl
theorem kw_ok:∀s∈[sIF,sFOR,sOUT,sHIDE,sELSE,sOPEN,sHIDDEN,sPEEK,sSPY,sSEL,sMIN,sMAX],memB s kws=true:=by
 intro s hs
 unfold memB
 simp only [ByteArray.toList_eq]
 revert s
 unfold kws sIF sFOR sOUT sHIDE sELSE sOPEN sHIDDEN sPEEK sSPY sSEL sMIN sMAX
 decide
def S5 (PA PC PL PO PH:PS):PS:=fun T i=>
 if (tkAt T i).kind==1 then PA T i else
 if isT T i sIF then PC T i else
 if isT T i sFOR then PL T i else
 if isT T i sOUT then PO T i else
 if isT T i sHIDE then PH T i else
 bad i
theorem S5_is (X:PE) (B:PS):S5 (pAssign X) (pIf X B) (pFor B) (pPut X 3) (pPut X 4)=pStatement X B:=rfl
def startsT (T:List Tok) (i:Nat):Bool:=((tkAt T i).kind==1)||isT T i sIF||isT T i sFOR||isT T i sOUT||isT T i sHIDE
def pStL (S:PS) (T:List Tok):Nat→List Sx→Nat→PR (List Sx)
 | 0,_,_=>none
 | n+1,acc,i=>if startsT T i then andThen (S T i) fun s j=>pStL S T n (acc++[s]) j else got acc i
def pSts (S:PS) (n:Nat):PS:=fun T i=>andThen (pStL S T n [] i) fun l j=>got (rowS l) j
theorem over_starts {T:List Tok} (h:LastOver T):startsT T (T.length-1)=false:=by
 unfold startsT
 rw [h.2,over_is h,over_is h,over_is h,over_is h]
 rfl
theorem infoStm:(Tryz.prog.info? 113).map (fun i=>(i.zero,i.size,i.bytes))=some (some .nilIface,1,16):=by kernel_rfl
def StInv (S:PS) (T:List Tok) (pb tb cap:Nat) (f pl:Int) (fin:Except Nat (List Sx×Nat)) (n:Nat) (w0:World) (k:Nat) (v:Value) (w:World):Prop:=
 ∃cs so sl sc,v = .slice so sl sc∧cs.length+k=n∧Kept pb w0 w∧w.ownsRow w0.heap.size 113 1 (.slice so sl sc) cs.length cs ∧
  ∃cur:Except Nat (List Sx×Nat),StAt w pb tb cap T f pl cur∧(∀acc j,cur = .ok (acc,j)→StsC w (fun g=>w0.heap.size≤g∧slB so sl sc≠some g) cs acc)∧seqR cur (fun acc j=>pStL S T k acc j)=some fin
theorem st_step {S:PS} {T:List Tok} {pb tb cap:Nat} {f pl:Int} {fin:Except Nat (List Sx×Nat)} {n k i:Nat} {w0 wc w5 w6:World} {so:Option Addr} {sl sc g cap':Nat} {cs:List Value} {u:Value} {ty:TypeId} {U:Obj} {acc:List Sx} {r2:Except Nat (Sx×Nat)}
  (hpb:pb < w0.heap.size) (hl:cs.length+(k+1)=n) (K:Kept pb w0 wc) (own:wc.ownsRow w0.heap.size 113 1 (.slice so sl sc) cs.length cs)
  (ex:StsC wc (fun g=>w0.heap.size≤g∧slB so sl sc≠some g) cs acc)
  (hS:S T i=some r2) (hp:andThen (S T i) (fun s j=>pStL S T k (acc++[s]) j)=some fin)
  (k5:Kept pb wc w5) (h5:SRes w5 (fun g=>wc.heap.size≤g) pb tb cap T f pl (.iface ty u) r2)
  (hown:w6.ownsRow w0.heap.size 113 1 (.slice (some ⟨g,0,none⟩) (cs.length+1) cap') (cs.length+1) (cs++[.iface ty u]))
  (hgrow:(w5.alloc U).grownBy w6 (Value.slice so sl sc).ownBlock) (hat:(Value.slice so sl sc).ownBlock=some g∨g=w5.heap.size+1) :
  StInv S T pb tb cap f pl fin n w0 k (.slice (some ⟨g,0,none⟩) (cs.length+1) cap') w6:=by
 have sz5:=k5.1
 have szc:=K.1
 have far:∀k,k < w5.heap.size→(Value.slice so sl sc).ownBlock≠some k→w6.heap[k]?=w5.heap[k]?:=fun k hk hn=>(hgrow.block k (by simp;omega) (fun e=>hn e.symm)).trans (Below.heap_alloc w5 U k hk)
 have low:∀k,k < w0.heap.size→(Value.slice so sl sc).ownBlock≠some k:=fun k hk e=>by have:=(own.lt k e).1;omega
 have sz6:w5.heap.size+1≤w6.heap.size:=by have:=hgrow.size;simpa using this
 rw [hS] at hp
 refine ⟨cs++[.iface ty u],some ⟨g,0,none⟩,cs.length+1,cap',rfl,by simp;omega,⟨by omega,fun k hk hn=>(far k (by omega) (low k hk)).trans ((k5.2 k (by omega) hn).trans (K.2 k hk hn)),(K.same.trans k5.same).trans (((Same.refl w5).alloc U).trans (Same.grown hgrow))⟩,by simpa using hown,?_⟩
 have two:∀k,k≤pb→w6.heap[k]?=w5.heap[k]?:=fun k hk=>far k (by omega) (low k (by omega))
 cases r2 with
 | error y=>cases hp;exact ⟨.error y,StAt.two (r:=.error y) (α:=List Sx) (show StAt w5 pb tb cap T f pl (.error y) from h5) two,fun acc j e=>(by cases e),rfl⟩
 | ok q=>
  obtain ⟨s,j⟩:=q
  refine ⟨.ok (acc++[s],j),StAt.two (r:=.ok (acc++[s],j)) (show StAt w5 pb tb cap T f pl (.ok (acc++[s],j)) from h5.1) two,?_,hp⟩
  intro acc' j' e
  cases e
  have hQ:∀k,w0.heap.size≤k→k < w5.heap.size→slB so sl sc≠some k→w0.heap.size≤k∧slB (some ⟨g,0,none⟩) (cs.length+1) cap'≠some k:=fun k h1 h2 h3=>⟨h1,fun e=>by
   have e:g=k:=by simpa [slB,Value.ownBlock] using e
   rcases hat with h | h
   ·exact h3 (by rw [←e];exact h)
   ·omega⟩
  refine StsC.snoc (h5.2.later (fun k hk hl=>?_) (fun k hk hl=>?_)) acc cs (StsC.later (fun k hk hl=>?_) (fun k hk hl=>hQ k hk.1 (by omega) hk.2) acc cs ex)
  ·have hk:wc.heap.size≤k:=hk
   exact far k hl (fun e=>by have:=(own.lt k e).2;omega)
  ·have hk:wc.heap.size≤k:=hk
   exact hQ k (by omega) hl (fun e=>by have:=(own.lt k e).2;omega)
  ·have h1:w0.heap.size≤k:=hk.1
   exact (far k (by omega) hk.2).trans (k5.2 k hl (by omega))
end Go.Proofs.YthmmgiaobakilaaGreat
