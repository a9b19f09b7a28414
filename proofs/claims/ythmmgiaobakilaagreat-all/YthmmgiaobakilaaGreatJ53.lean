import Derived.Test.YthmmgiaobakilaaGreatJ28
import Derived.Test.YthmmgiaobakilaaGreatJ30
import Derived.Test.YthmmgiaobakilaaGreatJ49
import Derived.Test.YthmmgiaobakilaaGreatJ52
import Derived.Deep.Cut
set_option maxRecDepth 100000
set_option maxHeartbeats 8000000
set_option linter.all false
namespace Go.Proofs.YthmmgiaobakilaaGreat
open Go.RowKit Go.Deep
variable {W w:World} {c1 c2 gH gO tb:Nat} {sd so:Option Addr} {sh sw:Int} {src:ByteArray} {xs ys:List Int}
def TH (w:World) (gO gH tb:Nat) (sw sh:Int) (so sd:Option Addr) (c1 c2:Nat) (xs ys:List Int) (src:ByteArray) (W:World):Prop:=
 AB w w.heap.size tb gO gH (.cells #[.int .i64 sw,.int .i64 sh,.slice so xs.length c1,.slice sd ys.length c2,.string src] 24 (0,0)) (.cells #[.int .i64 sw,.int .i64 sh,.slice (some ⟨gO,0,none⟩) xs.length (xs.length+2),.slice (some ⟨gH,0,none⟩) ys.length (ys.length+2),.string src] 24 (0,0)) (kY (xs++[77,77])) (kY (ys++[77,77])) W
theorem TH.later {w W W':World} {gO gH tb c1 c2:Nat} {sw sh:Int} {so sd:Option Addr} {xs ys:List Int} {src:ByteArray} (h:TH w gO gH tb sw sh so sd c1 c2 xs ys src W) (hb:Below W.heap.size W W'):TH w gO gH tb sw sh so sd c1 c2 xs ys src W':=AB.later h hb
theorem TH.iO (h:TH w gO gH tb sw sh so sd c1 c2 xs ys src W):aF W.heap.size W (some ⟨gO,0,none⟩) xs:=(EA (AB.o h)).mono (az.1 (AB.o h)).1
theorem TH.iH (h:TH w gO gH tb sw sh so sd c1 c2 xs ys src W):aF W.heap.size W (some ⟨gH,0,none⟩) ys:=(EA (AB.h h)).mono (az.1 (AB.h h)).1
def Mid (w:World) (c0 c1 c2 c3 c4:Value) (tb:Option Nat) (W:World):Prop:=Below w.heap.size w W/\Sz W w.heap.size c0 c1 c2 c3 c4/\∀t,tb=some t->Sz W t (.int .i64 0) (.int .i64 0) jG jG (.string ⟨#[]⟩)/\w.heap.size<t
abbrev Qf5:Obj:=.cells #[.int .i64 0,.int .i64 0,.slice none 0 0,.slice none 0 0,.string ⟨#[]⟩] 24
theorem Mid.later {w W W':World} {c0 c1 c2 c3 c4:Value} {tb:Option Nat} (h:Mid w c0 c1 c2 c3 c4 tb W) (hb:Below W.heap.size W W'):Mid w c0 c1 c2 c3 c4 tb W':=⟨h.1.trans (hb.mono h.1.size),h.2.1.later hb (az.1 h.2.1).1,λt e=>⟨(h.2.2 t e).1.later hb (az.1 (h.2.2 t e).1).1,(h.2.2 t e).2⟩⟩
theorem Mid.new {w W:World} {c0 c1 c2 c3 c4:Value} (h:Mid w c0 c1 c2 c3 c4 none W):Mid w c0 c1 c2 c3 c4 (some W.heap.size) (W.alloc Qf5):=by
 have hb:=jV W Qf5;have hs:=(az.1 h.2.1).1;refine⟨h.1.trans (hb.mono h.1.size),h.2.1.later hb hs,λt e=>?_⟩
 cases e;exact⟨Sz.new _ _ _ _ _ _,hs⟩
theorem Mid.set {c0 c1 c2 c3 c4:Value} (h:Mid w c0 c1 c2 c3 c4 (some tb) W) (cs:Array Value):Sz (W.setRow tb cs) w.heap.size c0 c1 c2 c3 c4:=(setRow_other W tb w.heap.size cs (Nat.ne_of_lt (h.2.2 tb rfl).2)).trans h.2.1
def Qq4 (w:World) (sw sh:Int) (so sd:Option Addr) (c1 c2:Nat) (xs ys:List Int) (src:ByteArray) (gO gH tb:Nat) (W:World):Prop:=TH w gO gH tb sw sh so sd c1 c2 xs ys src W/\(w.heap.size<=gO/\w.heap.size<=gH/\w.heap.size<=tb)/\gO≠gH/\tb≠gO/\tb≠gH
theorem Mid.made (h:Mid w (.int .i64 sw) (.int .i64 sh) (.slice so xs.length c1) (.slice sd ys.length c2) (.string src) (some tb) W) (hO:W.heap[gO]?=some (kY (xs++[77,77]))) (hH:W.heap[gH]?=some (kY (ys++[77,77]))) (o:w.heap.size<=gO/\w.heap.size<=gH/\gO≠gH/\tb≠gO/\tb≠gH) :
  Qq4 w sw sh so sd c1 c2 xs ys src gO gH tb (W.setRow tb #[.int .i64 sw,.int .i64 sh,.slice (some ⟨gO,0,none⟩) xs.length (xs.length+2),.slice (some ⟨gH,0,none⟩) ys.length (ys.length+2),.string src]):=by
 have ht:=h.2.2 tb rfl;refine⟨⟨below_setRow h.1 (Nat.le_of_lt ht.2) _,h.set _,setRow_heap W tb _ _ _ _ ht.1,(setRow_other W tb gO _ (Ne.symm o.2.2.2.1)).trans hO,(setRow_other W tb gH _ (Ne.symm o.2.2.2.2)).trans hH,?_⟩,⟨o.1,o.2.1,Nat.le_of_lt ht.2⟩,o.2.2⟩;rw[setRow_size];exact(az.1 ht.1).1
theorem Qe4 {c0 c1 c2 c3 c4:Value} (so:Option Addr) (c:Nat) (xs:List Int) (HX:∀W,Below w.heap.size w W->aF W.heap.size W so xs) (lx:xs.length<=17592186043904) (W:World) (tb:Option Nat) (h:Mid w c0 c1 c2 c3 c4 tb W) :
  Calls Tryz.prog 12 #[.slice so xs.length c] W λe w'=>∃g,e=.returned (.slice (some ⟨g,0,none⟩) xs.length (xs.length+2))/\w'.heap[g]?=some (kY (xs++[77,77]))/\Mid w c0 c1 c2 c3 c4 tb w'/\W.heap.size<=g/\Below W.heap.size W w':=
 (NI so c xs W (HX W h.1) lx).mono λ_ _ ⟨he,h2,h3⟩=>⟨_,he,h2,h.later h3,af _,h3⟩
theorem JW (B mb p q:Nat) (w:World) (sw sh:Int) (so sd:Option Addr) (c1 c2:Nat) (xs ys:List Int) (src b:ByteArray) (hB:xU B mb (λg=>g<w.heap.size) w p q) (hBw:B<=w.heap.size) (hx:aF B w so xs) (hy:aF B w sd ys) (lx:xs.length<=17592186043904) (ly:ys.length<=17592186043904) (ls:src.size<=maxLen) (lb:b.size<=maxLen) (hp:p<=900) (hq:q<=900) :
  Calls Tryz.prog 7 #[.pointer (some ⟨mb,0,none⟩),Cz sw sh so sd c1 c2 xs ys src,.string b] w λe w'=>e=.returned (.bool true)/\Below B w w'/\xU B mb (λg=>g<w'.heap.size) w' (p+6) (q+1):=by
 unfold Cz;have lx':xs.length<=maxLen:=by unfold maxLen;omega
 have ly':ys.length<=maxLen:=by unfold maxLen;omega
 obtain⟨w1,hw1⟩:∃w1,w.alloc (.cells #[.int .i64 sw,.int .i64 sh,.slice so xs.length c1,.slice sd ys.length c2,.string src] 24)=w1:=⟨_,rfl⟩;have z1:w1.heap.size=w.heap.size+1:=by rw[<-hw1];simp
 have b1:Below w.heap.size w w1:=by rw[<-hw1];exact jV _ _
 have s1:Sz w1 w.heap.size (.int .i64 sw) (.int .i64 sh) (.slice so xs.length c1) (.slice sd ys.length c2) (.string src):=by rw[<-hw1];exact Sz.new _ _ _ _ _ _
 have HX:Hid (∀W,Below w.heap.size w W->aF W.heap.size W so xs/\aF W.heap.size W sd ys):=λW hW=>⟨(hx.later hW hBw).mono (iJ hBw hW.size),(hy.later hW hBw).mono (iJ hBw hW.size)⟩;have LO:=aj (Qe4 (w:=w) (c0:=.int .i64 sw) (c1:=.int .i64 sh) (c2:=.slice so xs.length c1) (c3:=.slice sd ys.length c2) (c4:=.string src) so c1 xs (λW hW=>(aa HX W hW).1) lx);have LH:=aj (Qe4 (w:=w) (c0:=.int .i64 sw) (c1:=.int .i64 sh) (c2:=.slice so xs.length c1) (c3:=.slice sd ys.length c2) (c4:=.string src) sd c2 ys (λW hW=>(aa HX W hW).2) ly);have m1:Mid w (.int .i64 sw) (.int .i64 sh) (.slice so xs.length c1) (.slice sd ys.length c2) (.string src) none w1.drew:=⟨b1.drew,s1,λt e=>by cases e⟩;have M1:=aj m1;have KE:Hid (∀tb w',Mid w (.int .i64 sw) (.int .i64 sh) (.slice so xs.length c1) (.slice sd ys.length c2) (.string src) tb w'->w'.cell? ⟨w.heap.size,0,none⟩=some (.int .i64 sw)/\w'.cell? ⟨w.heap.size,1,none⟩=some (.int .i64 sh)/\w'.cell? ⟨w.heap.size,2,none⟩=some (.slice so xs.length c1)/\w'.cell? ⟨w.heap.size,3,none⟩=some (.slice sd ys.length c2)/\w'.cell? ⟨w.heap.size,4,none⟩=some (.string src)):=λtb w' h=>(kE h.2.1).1;have HB:=aj hB;have Z0:Hid (w.heap.size<w1.drew.heap.size):=by
  show w.heap.size<w1.heap.size;omega
 have Z1:=aj z1;obtain⟨⟨x0,x1,x2,x3,x4⟩,_⟩:=kE s1;clear hx hy hB s1 b1 z1;go_enter Tryz.func7,Tryz.ntmps7;go_wp2
 go_cut [7] from 17 (λt wc=>∃gO gH tb,t=.pointer (some ⟨tb,0,none⟩)/\Qq4 w sw sh so sd c1 c2 xs ys src gO gH tb wc)
 case first=>
  refine wp_region_held_drew (S:=(λw'=>w'.cell? ⟨w.heap.size,0,none⟩=some (.int .i64 sw)/\w'.cell? ⟨w.heap.size,1,none⟩=some (.int .i64 sh)/\w'.cell? ⟨w.heap.size,2,none⟩=some (.slice so xs.length c1)/\w'.cell? ⟨w.heap.size,3,none⟩=some (.slice sd ys.length c2)/\w'.cell? ⟨w.heap.size,4,none⟩=some (.string src))) (by kernel_rfl) (aa KE _ _ (aa M1)) (λhHeld=>?_);refine wpAnyH_take (i:=0) (oi:=⟨_,_,_,_,_,_⟩) (v:=?_) rfl (by kernel_rfl) (by kernel_rfl) (by kernel_rfl) (λ_ _ _ h=>h) (Or.inl ⟨by rfl,?_⟩) (by assumption) ?_
  rotate_left
  .intro wq hSw
   try dsimp only at hSw
   go_simp
   try with_reducible rfl
  try simp only[Act.put,List.setIfInBounds_toArray,List.set_cons_zero,List.set_cons_succ]
  refine wpAnyH_take (i:=1) (oi:=⟨_,_,_,_,_,_⟩) (v:=?_) rfl (by kernel_rfl) (by kernel_rfl) (by kernel_rfl) (λ_ _ _ h=>h) (Or.inl ⟨by rfl,?_⟩) (by assumption) ?_
  rotate_left
  .intro wq hSw
   try dsimp only at hSw
   go_simp
   try with_reducible rfl
  try simp only[Act.put,List.setIfInBounds_toArray,List.set_cons_zero,List.set_cons_succ]
  refine wpAnyH_take (i:=2) (oi:=⟨_,_,_,_,_,_⟩) (v:=?_) rfl (by kernel_rfl) (by kernel_rfl) (by kernel_rfl) (λ_ _ _ h=>h) (Or.inl ⟨by rfl,?_⟩) (by assumption) ?_
  rotate_left
  .intro wq hSw
   try dsimp only at hSw
   go_simp
   try with_reducible rfl
  try simp only[Act.put,List.setIfInBounds_toArray,List.set_cons_zero,List.set_cons_succ]
  refine wpAnyH_take (i:=3) (oi:=⟨_,_,_,_,_,_⟩) (v:=?_) rfl (by kernel_rfl) (by kernel_rfl) (by kernel_rfl) (λ_ _ _ h=>h) (Or.inl ⟨by rfl,?_⟩) (by assumption) ?_
  rotate_left
  .intro wq hSw
   try dsimp only at hSw
   go_simp
   try with_reducible rfl
  try simp only[Act.put,List.setIfInBounds_toArray,List.set_cons_zero,List.set_cons_succ]
  refine wpAnyH_take (i:=4) (oi:=⟨_,_,_,_,_,_⟩) (v:=?_) rfl (by kernel_rfl) (by kernel_rfl) (by kernel_rfl) (λ_ _ _ h=>h) (Or.inl ⟨by rfl,?_⟩) (by assumption) ?_
  rotate_left
  .intro wq hSw
   try dsimp only at hSw
   go_simp
   try with_reducible rfl
  try simp only[Act.put,List.setIfInBounds_toArray,List.set_cons_zero,List.set_cons_succ]
  refine wpAnyH_take (i:=5) (oi:=⟨_,_,_,_,_,_⟩) (v:=?_) rfl (by kernel_rfl) (by kernel_rfl) (by kernel_rfl) (λ_ _ _ h=>h) (Or.inl ⟨by rfl,?_⟩) (by assumption) ?_
  rotate_left
  .intro wq hSw
   try dsimp only at hSw
   go_simp
   try with_reducible rfl
  try simp only[Act.put,List.setIfInBounds_toArray,List.set_cons_zero,List.set_cons_succ]
  refine wpAnyH_take (i:=7) (oi:=⟨_,_,_,_,_,_⟩) (v:=?_) rfl (by kernel_rfl) (by kernel_rfl) (by kernel_rfl) (λ_ _ _ h=>h) (Or.inl ⟨by rfl,?_⟩) (by assumption) ?_
  rotate_left
  .intro wq hSw
   try dsimp only at hSw
   go_simp
   try with_reducible rfl
  try simp only[Act.put,List.setIfInBounds_toArray,List.set_cons_zero,List.set_cons_succ]
  refine wpAnyH_take (i:=8) (oi:=⟨_,_,_,_,_,_⟩) (v:=?_) rfl (by kernel_rfl) (by kernel_rfl) (by kernel_rfl) (λ_ _ _ h=>h) (Or.inl ⟨by rfl,?_⟩) (by assumption) ?_
  rotate_left
  .intro wq hSw
   try dsimp only at hSw
   go_simp
   try with_reducible rfl
  try simp only[Act.put,List.setIfInBounds_toArray,List.set_cons_zero,List.set_cons_succ]
  refine wpAnyH_take (i:=10) (oi:=⟨_,_,_,_,_,_⟩) (v:=?_) rfl (by kernel_rfl) (by kernel_rfl) (by kernel_rfl) (λ_ _ _ h=>h) (Or.inl ⟨by rfl,?_⟩) (by assumption) ?_
  rotate_left
  .intro wq hSw
   try dsimp only at hSw
   go_simp
   try with_reducible rfl
  try simp only[Act.put,List.setIfInBounds_toArray,List.set_cons_zero,List.set_cons_succ]
  refine wpAnyH_take (i:=11) (oi:=⟨_,_,_,_,_,_⟩) (v:=?_) rfl (by kernel_rfl) (by kernel_rfl) (by kernel_rfl) (λ_ _ _ h=>h) (Or.inl ⟨by rfl,?_⟩) (by assumption) ?_
  rotate_left
  .intro wq hSw
   try dsimp only at hSw
   go_simp
   try with_reducible rfl
  try simp only[Act.put,List.setIfInBounds_toArray,List.set_cons_zero,List.set_cons_succ]
  refine wpAnyH_ready (rs:=[6,13]) (by kernel_rfl) (by simp) ?_;refine AllReadyH.cons (o:=⟨_,_,_,_,_,_⟩) rfl (λK hK=>?_) ?_
  .go_simp
   go_at_call 12
   refine(aa LO _ _ (aa M1)).mono ?_;rintro e w2 ⟨gO,rfl,h2,m2,l2,b2⟩;have M2:=aj m2;have H2:=aj h2;have L2:=aj l2;have K2:=aj b2;clear h2 m2 l2 b2;refine hK.out _ _ (aa KE _ _ (aa M2)) (λhHeld=>?_);clear hK K
   try simp only[Act.put,List.setIfInBounds_toArray,List.set_cons_zero,List.set_cons_succ]
   refine wpAnyH_ready (rs:=[9,13]) (by kernel_rfl) (by simp) ?_;refine AllReadyH.cons (o:=⟨_,_,_,_,_,_⟩) rfl (λK hK=>?_) ?_
   .go_simp
    go_at_call 12
    refine(aa LH _ _ (aa M2)).mono ?_;rintro e w3 ⟨gH,rfl,h3,m3,l3,b3⟩;have Mi3:=aj m3;have H3:=aj h3;have L3:=aj l3;have K3:=aj b3;clear h3 m3 l3 b3;refine hK.out _ _ (aa KE _ _ (aa Mi3)) (λhHeld=>?_);clear hK K
    try simp only[Act.put,List.setIfInBounds_toArray,List.set_cons_zero,List.set_cons_succ]
    refine wpAnyH_take (i:=12) (oi:=⟨_,_,_,_,_,_⟩) (v:=?_) rfl (by kernel_rfl) (by kernel_rfl) (by kernel_rfl) (λ_ _ _ h=>h) (Or.inl ⟨by rfl,?_⟩) (by assumption) ?_
    rotate_left
    .intro wq hSw
     try dsimp only at hSw
     go_simp
     try with_reducible rfl
    try simp only[Act.put,List.setIfInBounds_toArray,List.set_cons_zero,List.set_cons_succ]
    refine wpAnyH_ready (rs:=[13]) (by kernel_rfl) (by simp) ?_;refine AllReadyH.cons (o:=⟨_,_,_,_,_,_⟩) rfl (λK hK=>?_) ?_
    .have Mi4:=aj (aa Mi3).new
     go_simp
     refine hK.out _ _ (aa KE _ _ (aa Mi4)) (λhHeld=>?_);clear hK K
     try simp only[Act.put,List.setIfInBounds_toArray,List.set_cons_zero,List.set_cons_succ]
     refine wpAnyH_ready (rs:=[14]) (by kernel_rfl) (by simp) ?_;refine AllReadyH.cons (o:=⟨_,_,_,_,_,_⟩) rfl (λK hK=>?_) ?_
     .rw[ag (by rfl)];refine wp_store_row _ _ _ rfl _ _ rfl rfl _ _ ((aa Mi4).2.2 _ rfl).1 (by kernel_rfl) rfl (by simp[Value.oneCell']) ?_;refine hK.out _ _ ((kE ((aa Mi4).set _)).1) (λhHeld=>?_);clear hK K
      try simp only[Act.put]
      refine wpAnyH_done (by kernel_rfl) ?_ _
      apply_assumption
      go_meet
      case rel=>exact⟨_,_,_,rfl,Mid.made (aa Mi4) (qH (qH (aa H2) (aa K3)) (jV _ _)) (qH (aa H3) (jV _ _)) (by
       have z2:=(az.1 (aa H2)).1;have z3:=(az.1 (aa H3)).1;have l2:=aa L2;have l3:=aa L3;have k0:w.heap.size<w1.drew.heap.size:=aa Z0;omega)⟩
     exact AllReadyH.nil
    exact AllReadyH.nil
   refine AllReadyH.cons (o:=⟨_,_,_,_,_,_⟩) rfl (λK hK=>?_) ?_
   .have M2a:=aj (aa M2).new
    go_simp
    refine hK.out _ _ (aa KE _ _ (aa M2a)) (λhHeld=>?_);clear hK K
    try simp only[Act.put,List.setIfInBounds_toArray,List.set_cons_zero,List.set_cons_succ]
    refine wpAnyH_ready (rs:=[9]) (by kernel_rfl) (by simp) ?_;refine AllReadyH.cons (o:=⟨_,_,_,_,_,_⟩) rfl (λK hK=>?_) ?_
    .go_simp
     go_at_call 12
     refine(aa LH _ _ (aa M2a)).mono ?_;rintro e w3 ⟨gH,rfl,h3,m3,l3,b3⟩;have Mi3:=aj m3;have H3:=aj h3;have L3:=aj l3;have K3:=aj b3;clear h3 m3 l3 b3;refine hK.out _ _ (aa KE _ _ (aa Mi3)) (λhHeld=>?_);clear hK K
     try simp only[Act.put,List.setIfInBounds_toArray,List.set_cons_zero,List.set_cons_succ]
     refine wpAnyH_take (i:=12) (oi:=⟨_,_,_,_,_,_⟩) (v:=?_) rfl (by kernel_rfl) (by kernel_rfl) (by kernel_rfl) (λ_ _ _ h=>h) (Or.inl ⟨by rfl,?_⟩) (by assumption) ?_
     rotate_left
     .intro wq hSw
      try dsimp only at hSw
      go_simp
      try with_reducible rfl
     try simp only[Act.put,List.setIfInBounds_toArray,List.set_cons_zero,List.set_cons_succ]
     refine wpAnyH_ready (rs:=[14]) (by kernel_rfl) (by simp) ?_;refine AllReadyH.cons (o:=⟨_,_,_,_,_,_⟩) rfl (λK hK=>?_) ?_
     .rw[ag (by rfl)];refine wp_store_row _ _ _ rfl _ _ rfl rfl _ _ ((aa Mi3).2.2 _ rfl).1 (by kernel_rfl) rfl (by simp[Value.oneCell']) ?_;refine hK.out _ _ ((kE ((aa Mi3).set _)).1) (λhHeld=>?_);clear hK K
      try simp only[Act.put]
      refine wpAnyH_done (by kernel_rfl) ?_ _
      apply_assumption
      go_meet
      case rel=>exact⟨_,_,_,rfl,Mid.made (aa Mi3) (qH (qH (aa H2) (jV _ _)) (aa K3)) (aa H3) (by
       have z2:=(az.1 (aa H2)).1;have l2:=aa L2;have l3:=aa L3;have k0:w.heap.size<w1.drew.heap.size:=aa Z0;have zal:(w2.alloc Qf5).heap.size=w2.heap.size+1:=by simp
       omega)⟩
     exact AllReadyH.nil
    exact AllReadyH.nil
   exact AllReadyH.nil
  refine AllReadyH.cons (o:=⟨_,_,_,_,_,_⟩) rfl (λK hK=>?_) ?_
  .have M1a:=aj (aa M1).new
   go_simp
   refine hK.out _ _ (aa KE _ _ (aa M1a)) (λhHeld=>?_);clear hK K
   try simp only[Act.put,List.setIfInBounds_toArray,List.set_cons_zero,List.set_cons_succ]
   refine wpAnyH_ready (rs:=[6]) (by kernel_rfl) (by simp) ?_;refine AllReadyH.cons (o:=⟨_,_,_,_,_,_⟩) rfl (λK hK=>?_) ?_
   .go_simp
    go_at_call 12
    refine(aa LO _ _ (aa M1a)).mono ?_;rintro e w2 ⟨gO,rfl,h2,m2,l2,b2⟩;have M2:=aj m2;have H2:=aj h2;have L2:=aj l2;have K2:=aj b2;clear h2 m2 l2 b2;refine hK.out _ _ (aa KE _ _ (aa M2)) (λhHeld=>?_);clear hK K
    try simp only[Act.put,List.setIfInBounds_toArray,List.set_cons_zero,List.set_cons_succ]
    refine wpAnyH_ready (rs:=[9]) (by kernel_rfl) (by simp) ?_;refine AllReadyH.cons (o:=⟨_,_,_,_,_,_⟩) rfl (λK hK=>?_) ?_
    .go_simp
     go_at_call 12
     refine(aa LH _ _ (aa M2)).mono ?_;rintro e w3 ⟨gH,rfl,h3,m3,l3,b3⟩;have Mi3:=aj m3;have H3:=aj h3;have L3:=aj l3;have K3:=aj b3;clear h3 m3 l3 b3;refine hK.out _ _ (aa KE _ _ (aa Mi3)) (λhHeld=>?_);clear hK K
     try simp only[Act.put,List.setIfInBounds_toArray,List.set_cons_zero,List.set_cons_succ]
     refine wpAnyH_take (i:=12) (oi:=⟨_,_,_,_,_,_⟩) (v:=?_) rfl (by kernel_rfl) (by kernel_rfl) (by kernel_rfl) (λ_ _ _ h=>h) (Or.inl ⟨by rfl,?_⟩) (by assumption) ?_
     rotate_left
     .intro wq hSw
      try dsimp only at hSw
      go_simp
      try with_reducible rfl
     try simp only[Act.put,List.setIfInBounds_toArray,List.set_cons_zero,List.set_cons_succ]
     refine wpAnyH_ready (rs:=[14]) (by kernel_rfl) (by simp) ?_;refine AllReadyH.cons (o:=⟨_,_,_,_,_,_⟩) rfl (λK hK=>?_) ?_
     .rw[ag (by rfl)];refine wp_store_row _ _ _ rfl _ _ rfl rfl _ _ ((aa Mi3).2.2 _ rfl).1 (by kernel_rfl) rfl (by simp[Value.oneCell']) ?_;refine hK.out _ _ ((kE ((aa Mi3).set _)).1) (λhHeld=>?_);clear hK K
      try simp only[Act.put]
      refine wpAnyH_done (by kernel_rfl) ?_ _
      apply_assumption
      go_meet
      case rel=>exact⟨_,_,_,rfl,Mid.made (aa Mi3) (qH (aa H2) (aa K3)) (aa H3) (by
       have z2:=(az.1 (aa H2)).1;have l2:=aa L2;have l3:=aa L3;have k0:w.heap.size<w1.drew.heap.size:=aa Z0;have zal:(w1.drew.alloc Qf5).heap.size=w1.drew.heap.size+1:=by simp
       have e0:w1.drew.heap.size=w1.heap.size:=rfl;omega)⟩
     exact AllReadyH.nil
    exact AllReadyH.nil
   exact AllReadyH.nil
  exact AllReadyH.nil
 case rest=>
 obtain⟨gO,gH,tb,rfl,hmade⟩:=hcut;have ST4:=aj hmade.1;have OR:=aj hmade.2;clear hmade;have WR:=aj (λW (h:TH w gO gH tb sw sh so sd c1 c2 xs ys src W)=>NG sw sh _ _ (xs.length+2) (ys.length+2) xs ys src W h.iO h.iH lx' ly' ls);have PA:=aj (λW (h:TH w gO gH tb sw sh so sd c1 c2 xs ys src W)=>Og W sw sh _ _ (xs.length+2) (ys.length+2) xs ys src h.iO h.iH lx' ly' ls);have PP:=aj (λW (h:TH w gO gH tb sw sh so sd c1 c2 xs ys src W)=>Kh W sw sh _ _ (xs.length+2) (ys.length+2) xs ys src h.iO h.iH lx' ly' ls);have UO:=aj (λW (h:TH w gO gH tb sw sh so sd c1 c2 xs ys src W)=>Gr gO so c1 xs W (AB.o h) (aa HX W (AB.bel h)).1 lx);have UH:=aj (λW (h:TH w gO gH tb sw sh so sd c1 c2 xs ys src W)=>Gr gH sd c2 ys W (AB.h h) (aa HX W (AB.bel h)).2 ly);have RE:=aj (λW=>OL b W lb);have CE:=aj (λW=>O5 src W ls);have DE:=aj (λW=>GK b W lb);unfold Cz at PA PP;clear LO LH M1 m1 KE Z0 Z1 HX hw1 x0 x1 x2 x3 x4;obtain⟨⟨x0,x1,x2,x3,x4⟩,_⟩:=kE (AB.s (aa ST4));obtain⟨⟨y0,y1,y2,y3,y4⟩,_⟩:=kE (AB.t (aa ST4));go_wp2_with fail;clear x0 x1 x2 x3 x4 y0 y1 y2 y3 y4;refine(aa WR _ (aa ST4)).mono ?_;rintro e w5 ⟨rfl,b5⟩;have ST5:=aj ((aa ST4).later b5);clear ST4 WR b5;obtain⟨⟨x0,x1,x2,x3,x4⟩,_⟩:=kE (AB.s (aa ST5));obtain⟨⟨y0,y1,y2,y3,y4⟩,_⟩:=kE (AB.t (aa ST5));go_wp2_with fail;clear x0 x1 x2 x3 x4 y0 y1 y2 y3 y4;refine(aa RE _).mono ?_;rintro e w6 ⟨rfl,b5⟩;have ST6:=aj ((aa ST5).later b5);clear ST5 RE b5;obtain⟨⟨x0,x1,x2,x3,x4⟩,_⟩:=kE (AB.s (aa ST6));obtain⟨⟨y0,y1,y2,y3,y4⟩,_⟩:=kE (AB.t (aa ST6));go_wp2_with fail
 clear x0 x1 x2 x3 x4 y0 y1 y2 y3 y4;refine(aa CE _).mono ?_;rintro e w7 ⟨rfl,b5⟩;have ST7:=aj ((aa ST6).later b5);clear ST6 CE b5;obtain⟨⟨x0,x1,x2,x3,x4⟩,_⟩:=kE (AB.s (aa ST7));obtain⟨⟨y0,y1,y2,y3,y4⟩,_⟩:=kE (AB.t (aa ST7));go_wp2_with fail;clear x0 x1 x2 x3 x4 y0 y1 y2 y3 y4;refine(aa PA _ (aa ST7)).mono ?_;rintro e w8 ⟨rfl,b5⟩;have ST8:=aj ((aa ST7).later b5);clear ST7 PA b5;obtain⟨⟨x0,x1,x2,x3,x4⟩,_⟩:=kE (AB.s (aa ST8));obtain⟨⟨y0,y1,y2,y3,y4⟩,_⟩:=kE (AB.t (aa ST8));go_wp2_with fail;clear x0 x1 x2 x3 x4 y0 y1 y2 y3 y4;refine(aa PP _ (aa ST8)).mono ?_;rintro e w9 ⟨E,P,r,hA,hR⟩;obtain⟨_,_,_,_,_,_,_,_,_,_,b9⟩:=hR.shape;obtain⟨va,na,xa,vb,nb,xb,vc,nc,xc,i,j,E',P',rfl,ha,hb,hc,dab,dbc,la,lb',lc⟩:=tF.owns hA hR;obtain⟨qa,ca,rfl⟩:=dJ ha;obtain⟨qb,cb,rfl⟩:=dJ hb;obtain⟨qc,cc,rfl⟩:=dJ hc;have ST9:=aj ((aa ST8).later b9);obtain⟨w10,hw10⟩:∃w10,w9.alloc (.cells #[.slice qa na ca,.slice qb nb cb,.int .i64 i,.int .i64 j,.slice qc nc cc] 36)=w10:=⟨_,rfl⟩;have b10:Below w9.heap.size w9 w10:=by rw[<-hw10];exact jV _ _
 have z10:w10.heap.size=w9.heap.size+1:=by rw[<-hw10];simp
 have r10:=Rz.new w9 (.slice qa na ca) (.slice qb nb cb) (.int .i64 i) (.int .i64 j) (.slice qc nc cc);rw[hw10]at r10;have ST10:=aj ((aa ST9).later b10);have OW:Hid (∀W,Below w10.heap.size w10 W->Rz W w9.heap.size (.slice qa na ca) (.slice qb nb cb) (.int .i64 i) (.int .i64 j) (.slice qc nc cc)/\W.ownsRow w8.heap.size 3 1 (.slice qa na ca) na xa/\W.ownsRow w8.heap.size 3 1 (.slice qb nb cb) nb xb/\W.ownsRow w8.heap.size 61 2 (.slice qc nc cc) nc xc):=λW hW=>
  ⟨r10.later hW (by omega),nu (nu ha b10) hW,nu (nu hb b10) hW,nu (nu hc b10) hW⟩
 have UA:Hid (∀g,(Value.slice qa na ca).ownBlock=some g∨(Value.slice qb nb cb).ownBlock=some g∨(Value.slice qc nc cc).ownBlock=some g->g<w9.heap.size):=λg h=>by
  rcases h with h|h|h
  .exact(ha.lt g h).2
  .exact(hb.lt g h).2
  .exact(hc.lt g h).2
 have DD:Hid ((∀g,(Value.slice qa na ca).ownBlock=some g->(Value.slice qb nb cb).ownBlock≠some g/\(Value.slice qc nc cc).ownBlock≠some g)/\(∀g,(Value.slice qb nb cb).ownBlock=some g->(Value.slice qc nc cc).ownBlock≠some g)/\na<=100/\nb<=100/\nc<=100):=⟨dab,dbc,la,lb',lc⟩;have Z9:Hid (w8.heap.size<=w9.heap.size/\w10.heap.size=w9.heap.size+1/\gO<w8.heap.size/\gH<w8.heap.size/\tb<w8.heap.size):=⟨b9.size,z10,(az.1 (AB.o (aa ST8))).1,(az.1 (AB.h (aa ST8))).1,AB.z (aa ST8)⟩;clear PP ST8 ST9 hA hR b9 ha hb hc dab dbc la lb' lc b10 z10 r10;obtain⟨⟨x0,x1,x2,x3,x4⟩,_⟩:=kE (AB.s (aa ST10));obtain⟨⟨y0,y1,y2,y3,y4⟩,_⟩:=kE (AB.t (aa ST10));go_wp2_with fail;clear hw10 x0 x1 x2 x3 x4 y0 y1 y2 y3 y4;refine(aa DE _).mono ?_;rintro e w11 ⟨⟨_,b11⟩,x,y,vd,nd,ve,ne,s,E'',xd,xe,rfl,hd,he,dde,ld,le⟩;obtain⟨qd,cd,rfl⟩:=dJ hd;obtain⟨qe,ce,rfl⟩:=dJ he;obtain⟨w12,hw12⟩:∃w12,w11.alloc (.cells #[.int .i64 x,.int .i64 y,.slice qd nd cd,.slice qe ne ce,.string s] 24)=w12:=⟨_,rfl⟩;have b12:Below w11.heap.size w11 w12:=by rw[<-hw12];exact jV _ _
 have z12:w12.heap.size=w11.heap.size+1:=by rw[<-hw12];simp
 have r12:=Sz.new w11 (.int .i64 x) (.int .i64 y) (.slice qd nd cd) (.slice qe ne ce) (.string s);rw[hw12]at r12;have ST12:=aj (((aa ST10).later b11).later b12);have OX:Hid (∀W,Below w12.heap.size w12 W->Below w10.heap.size w10 W/\Sz W w11.heap.size (.int .i64 x) (.int .i64 y) (.slice qd nd cd) (.slice qe ne ce) (.string s)/\W.ownsRow w10.heap.size 3 1 (.slice qd nd cd) nd xd/\W.ownsRow w10.heap.size 3 1 (.slice qe ne ce) ne xe/\w11.heap.size<W.heap.size):=λW hW=>
  ⟨(b11.trans (b12.mono b11.size)).trans (hW.mono (by have:=b11.size;omega)),r12.later hW (by omega),nu (nu hd b12) hW,nu (nu he b12) hW,by have:=hW.size;omega⟩
 have UD:Hid (∀g,(Value.slice qd nd cd).ownBlock=some g∨(Value.slice qe ne ce).ownBlock=some g->g<w11.heap.size):=λg h=>by
  rcases h with h|h
  .exact(hd.lt g h).2
  .exact(he.lt g h).2
 have DX:Hid ((∀g,(Value.slice qd nd cd).ownBlock=some g->(Value.slice qe ne ce).ownBlock≠some g)/\nd<=100/\ne<=100/\w10.heap.size<=w11.heap.size):=⟨dde,by omega,by omega,b11.size⟩;clear DE ST10 b11 hd he dde ld le b12 z12 r12;obtain⟨⟨x0,x1,x2,x3,x4⟩,_⟩:=kE (AB.s (aa ST12));obtain⟨⟨y0,y1,y2,y3,y4⟩,_⟩:=kE (AB.t (aa ST12));go_wp2_with fail;clear hw12 x0 x1 x2 x3 x4 y0 y1 y2 y3 y4;refine(aa UO _ (aa ST12)).mono ?_;rintro e w13 ⟨rfl,b13⟩;have ST13:=aj ((aa ST12).later b13);have B13:=aj b13;clear UO ST12 b13;obtain⟨⟨x0,x1,x2,x3,x4⟩,_⟩:=kE (AB.s (aa ST13));obtain⟨⟨y0,y1,y2,y3,y4⟩,_⟩:=kE (AB.t (aa ST13));go_wp2_with fail;clear x0 x1 x2 x3 x4 y0 y1 y2 y3 y4;refine(aa UH _ (aa ST13)).mono ?_;rintro e w14 ⟨rfl,b14⟩;have ST14:=aj ((aa ST13).later b14);obtain⟨o1,o2,o3,o4,o5⟩:=aa OX w14 ((aa B13).trans (b14.mono (aa B13).size));obtain⟨u1,u2,u3,u4⟩:=aa OW w14 o1;have C14:Hid (w14.heap[tb]?=some (.cells #[.int .i64 sw,.int .i64 sh,.slice (some ⟨gO,0,none⟩) xs.length (xs.length+2),.slice (some ⟨gH,0,none⟩) ys.length (ys.length+2),.string src] 24 (0,0))/\w14.heap[w9.heap.size]?=some (.cells #[.slice qa na ca,.slice qb nb cb,.int .i64 i,.int .i64 j,.slice qc nc cc] 36 (0,0))/\w14.heap[w11.heap.size]?=some (.cells #[.int .i64 x,.int .i64 y,.slice qd nd cd,.slice qe ne ce,.string s] 24 (0,0))):=⟨AB.t (aa ST14),u1,o2⟩;have W14:=aj (AB.bel (aa ST14))
 have P0:Hid (Ph B mb [tb,w9.heap.size,w11.heap.size] w14 w14 (λg=>g<w.heap.size) p q [(false,.slice qa na ca),(false,.slice qb nb cb),(true,.slice qc nc cc),(false,.slice qd nd cd),(false,.slice qe ne ce),(false,.slice (some ⟨gO,0,none⟩) xs.length (xs.length+2)),(false,.slice (some ⟨gH,0,none⟩) ys.length (ys.length+2))]):=by
  obtain⟨p1,p2⟩:=aa OR;obtain⟨p4,p5,p6⟩:=aa Z9;obtain⟨d1,d2,d3,d4,d5⟩:=aa DD;obtain⟨d6,d7,d8,d9⟩:=aa DX;exact Yu (aa HB) hBw (aa W14) (AB.o (aa ST14)) (AB.h (aa ST14)) lx ly u2 u3 u4 o3 o4 d1 d2 d6 (aa UA) (aa UD) ⟨d3,d4,d5,d7,d8⟩ p1 p2 p6 (by omega) p4 d9 o5
 clear UH ST13 ST14 b14 B13 OX OW UA UD DD DX Z9 OR o1 o2 o3 o4 o5 u1 u2 u3 u4 HB;obtain⟨⟨x0,x1,x2,x3,x4⟩,_⟩:=kE (((aa P0).same _ (by simp)).trans (aa C14).2.1);go_wp2_with fail;clear x0 x1 x2 x3 x4;refine((aa P0).ints (by omega)).mono ?_;rintro e w15 ⟨rfl,U1,h15⟩;have P1:=aj h15;clear P0 h15;obtain⟨⟨x0,x1,x2,x3,x4⟩,_⟩:=kE (((aa P1).same _ (by simp)).trans (aa C14).2.1);go_wp2_with fail;clear x0 x1 x2 x3 x4;refine((aa P1).ints (by omega)).mono ?_;rintro e w16 ⟨rfl,U2,h16⟩;have P2:=aj h16;clear P1 h16;obtain⟨⟨x0,x1,x2,x3,x4⟩,_⟩:=kE (((aa P2).same _ (by simp)).trans (aa C14).2.1);go_wp2_with fail;clear x0 x1 x2 x3 x4;refine((aa P2).touches (by omega)).mono ?_;rintro e w17 ⟨rfl,U3,h17⟩;have P3:=aj h17;clear P2 h17;obtain⟨⟨x0,x1,x2,x3,x4⟩,_⟩:=kE (((aa P3).same _ (by simp)).trans (aa C14).2.2);go_wp2_with fail;clear x0 x1 x2 x3 x4;refine((aa P3).ints (by omega)).mono ?_;rintro e w18 ⟨rfl,U4,h18⟩;have P4:=aj h18;clear P3 h18;obtain⟨⟨x0,x1,x2,x3,x4⟩,_⟩:=kE (((aa P4).same _ (by simp)).trans (aa C14).2.2);go_wp2_with fail;clear x0 x1 x2 x3 x4;refine((aa P4).ints (by omega)).mono ?_;rintro e w19 ⟨rfl,U5,h19⟩;have P5:=aj h19;clear P4 h19;obtain⟨⟨x0,x1,x2,x3,x4⟩,_⟩:=kE (((aa P5).same _ (by simp)).trans (aa C14).1);go_wp2_with fail;clear x0 x1 x2 x3 x4;refine((aa P5).ints (by omega)).mono ?_;rintro e w20 ⟨rfl,U6,h20⟩;have P6:=aj h20;clear P5 h20;obtain⟨⟨x0,x1,x2,x3,x4⟩,_⟩:=kE (((aa P6).same _ (by simp)).trans (aa C14).1);go_wp2_with fail;clear x0 x1 x2 x3 x4
 refine((aa P6).ints (by omega)).mono ?_;rintro e w21 ⟨rfl,U7,h21⟩;have P7:=aj h21;clear P6 h21;go_wp2_with fail;refine(TQ B mb _ _ _ _ (aa P7).book (by omega) (by omega)).mono ?_;rintro e w22 ⟨rfl,b22⟩;have FIN:Hid (Below B w w22/\xU B mb (λg=>g<w22.heap.size) w22 (p+6) (q+1)):=by
  have h7:=aa P7;have hz:=b22.size;have z14:=(aa W14).size;have z21:=h7.bel.size;refine⟨(((aa W14).mono hBw).trans h7.bel).trans (b22.mono (by omega)),h7.book.frame (λg hg=>b22.block g (h7.lt g hg)) (λg hg=>Nat.lt_of_lt_of_le (h7.lt g hg) hz)⟩
 clear P7 b22 C14 W14;go_wp2;go_ret;exact⟨rfl,(aa FIN).1,(aa FIN).2⟩
theorem Xo {mb:Nat} (h:w.heap[mb]?=some (.cells #[jG,jG] 31 (0,0))):xU mb mb (λg=>g<w.heap.size) w 0 0:=by
 have hz:=(az.1 h).1;refine⟨λ_=>False,λg=>g=mb,jG,jG,[],[],⟨h,fD _ _ _ _,fD _ _ _ _,?_,?_,af _,id,rfl,(by intro e;cases e),(by intro e;cases e),(λg e=>by cases e),(λg e=>by cases e),?_⟩,rfl,rfl,?_⟩
 .intro i u h;cases h
 .intro i u h;cases h
 .rintro g (h|rfl)
  .exact h.elim
  .exact hz
 .rintro g (h|rfl)
  .exact h.elim
  .exact hz
theorem VV (w:World) (sw sh:Int) (so sd:Option Addr) (c1 c2:Nat) (xs ys:List Int) (src b:ByteArray) (tw th:Int) (to td:Option Addr) (d1 d2:Nat) (us vs:List Int) (trc o:ByteArray)
  (hx:aF w.heap.size w so xs) (hy:aF w.heap.size w sd ys) (hu:aF w.heap.size w to us) (hv:aF w.heap.size w td vs) (lx:xs.length<=17592186043904) (ly:ys.length<=17592186043904) (lu:us.length<=17592186043904) (lv:vs.length<=17592186043904) (ls:src.size<=maxLen) (lb:b.size<=maxLen) (lt:trc.size<=maxLen) (lo:o.size<=maxLen) :
  Calls Tryz.prog 4 #[Cz sw sh so sd c1 c2 xs ys src,.string b,Cz tw th to td d1 d2 us vs trc,.string o] w λe w'=>e=.returned (.bool true)/\Below w.heap.size w w':=by
 obtain⟨w1,hw1⟩:∃w1,w.alloc (.cells #[.int .i64 sw,.int .i64 sh,.slice so xs.length c1,.slice sd ys.length c2,.string src] 24)=w1:=⟨_,rfl⟩;have z1:w1.heap.size=w.heap.size+1:=by rw[<-hw1];simp
 have b1:Below w.heap.size w w1:=by rw[<-hw1];exact jV _ _
 have s1:Sz w1 w.heap.size (.int .i64 sw) (.int .i64 sh) (.slice so xs.length c1) (.slice sd ys.length c2) (.string src):=by rw[<-hw1];exact Sz.new _ _ _ _ _ _
 obtain⟨w2,hw2⟩:∃w2,w1.alloc (.cells #[.int .i64 tw,.int .i64 th,.slice to us.length d1,.slice td vs.length d2,.string trc] 24)=w2:=⟨_,rfl⟩;have z2:w2.heap.size=w1.heap.size+1:=by rw[<-hw2];simp
 have b2:Below w1.heap.size w1 w2:=by rw[<-hw2];exact jV _ _
 have s2:Sz w2 w1.heap.size (.int .i64 tw) (.int .i64 th) (.slice to us.length d1) (.slice td vs.length d2) (.string trc):=by rw[<-hw2];exact Sz.new _ _ _ _ _ _
 obtain⟨w3,hw3⟩:∃w3,w2.alloc (.cells #[jG,jG] 31)=w3:=⟨_,rfl⟩;have z3:w3.heap.size=w2.heap.size+1:=by rw[<-hw3];simp
 have b3:Below w2.heap.size w2 w3:=by rw[<-hw3];exact jV _ _
 have k3:xU w2.heap.size w2.heap.size (λg=>g<w3.heap.size) w3 0 0:=by rw[<-hw3];exact Xo (aA w2 _)
 have S3:Hid (∀W,Below w2.heap.size w3 W->Below w.heap.size w W/\Sz W w.heap.size (.int .i64 sw) (.int .i64 sh) (.slice so xs.length c1) (.slice sd ys.length c2) (.string src)/\Sz W w1.heap.size (.int .i64 tw) (.int .i64 th) (.slice to us.length d1) (.slice td vs.length d2) (.string trc)):=λW hW=>
  ⟨((b1.trans (b2.mono (by omega))).trans (b3.mono (by omega))).trans (hW.mono (by omega)),((s1.later b2 (by omega)).later b3 (by omega)).later hW (by omega),(s2.later b3 (by omega)).later hW (by omega)⟩
 have RS:Hid (∀(W:World) (p q:Nat),Below w2.heap.size w3 W->xU w2.heap.size w2.heap.size (λg=>g<W.heap.size) W p q->p<=900->q<=900->Calls Tryz.prog 7 #[.pointer (some ⟨w2.heap.size,0,none⟩),Cz sw sh so sd c1 c2 xs ys src,.string b] W λe w'=>e=.returned (.bool true)/\Below w2.heap.size W w'/\xU w2.heap.size w2.heap.size (λg=>g<w'.heap.size) w' (p+6) (q+1)):=λW p q hW hB hp hq=>by
  have hz:=hW.size;exact JW w2.heap.size w2.heap.size p q W sw sh so sd c1 c2 xs ys src b hB (by omega) ((hx.later (aa S3 W hW).1 (af _)).mono (by omega)) ((hy.later (aa S3 W hW).1 (af _)).mono (by omega)) lx ly ls lb hp hq
 have RT:Hid (∀(W:World) (p q:Nat),Below w2.heap.size w3 W->xU w2.heap.size w2.heap.size (λg=>g<W.heap.size) W p q->p<=900->q<=900->Calls Tryz.prog 7 #[.pointer (some ⟨w2.heap.size,0,none⟩),Cz tw th to td d1 d2 us vs trc,.string o] W λe w'=>e=.returned (.bool true)/\Below w2.heap.size W w'/\xU w2.heap.size w2.heap.size (λg=>g<w'.heap.size) w' (p+6) (q+1)):=λW p q hW hB hp hq=>by
  have hz:=hW.size;exact JW w2.heap.size w2.heap.size p q W tw th to td d1 d2 us vs trc o hB (by omega) ((hu.later (aa S3 W hW).1 (af _)).mono (by omega)) ((hv.later (aa S3 W hW).1 (af _)).mono (by omega)) lu lv lt lo hp hq
 have K3:=aj k3;unfold Cz at RS RT;unfold Cz;clear hx hy hu hv lx ly lu lv ls lb lt lo k3 b1 b2 b3 s1 s2 z1 z2 z3;go_enter Tryz.func4,Tryz.ntmps4;go_wp2;clear hw1 hw2 hw3
 go_loopw [10] (λi wr=>∃k:Nat,k<=2/\i=.int .i64 k/\Below w2.heap.size w3 wr/\xU w2.heap.size w2.heap.size (λg=>g<wr.heap.size) wr (12*k) (2*k)) (λi _=>2-(intOf i).toNat)
 case atStart=>exact⟨0,by omega,rfl,ax _ _,aa K3⟩
 case round=>
  obtain⟨k,hk,rfl,hnx,hbk⟩:=hrel;by_cases hlt:k<2
  .obtain⟨_,t1,t2⟩:=aa S3 wr hnx;obtain⟨⟨x0,x1,x2,x3,x4⟩,_⟩:=kE t1;have hi:(k:Int)<2:=by omega
   have C1:=aj (aa RS wr (12*k) (2*k) hnx hbk (by omega) (by omega));have HN:=aj hnx;clear t1 t2 hnx hbk;go_wp2_with fail;clear x0 x1 x2 x3 x4;refine(aa C1).mono ?_;rintro e w4 ⟨rfl,b4,k4⟩;have N4:=aj ((aa HN).trans b4);obtain⟨_,t1,t2⟩:=aa S3 w4 (aa N4);obtain⟨⟨x0,x1,x2,x3,x4⟩,_⟩:=kE t2;have C2:=aj (aa RT w4 (12*k+6) (2*k+1) (aa N4) k4 (by omega) (by omega));clear t1 t2 b4 k4 C1 HN;go_wp2_with fail;clear x0 x1 x2 x3 x4;refine(aa C2).mono ?_;rintro e w5 ⟨rfl,b5,k5⟩;have N5:Hid (Below w2.heap.size w3 w5/\xU w2.heap.size w2.heap.size (λg=>g<w5.heap.size) w5 (12*(k+1)) (2*(k+1))):=⟨(aa N4).trans b5,by
    rw[show 12*(k+1)=12*k+6+6 by omega,show 2*(k+1)=2*k+1+1 by omega];exact k5⟩
   clear N4 C2 b5 k5;go_wp2
   go_roundw
   case rel=>exact⟨k+1,by omega,by go_num,(aa N5).1,(aa N5).2⟩
   case measure=>simp[intOf];omega
  .have hge:decide ((k:Int)<2)=false:=by simp;omega
   have N4:=aj (aa S3 wr hnx).1;clear hnx hbk;go_wp2;go_ret;exact⟨rfl,aa N4⟩
end Go.Proofs.YthmmgiaobakilaaGreat
