/- -/
import Derived.Test.YtlapgdocpndfiaaGreatDoorUEntP
set_option maxHeartbeats 2000000
set_option linter.unusedVariables false
set_option linter.unusedSimpArgs false
set_option maxRecDepth 1000000
namespace Go.Proofs.YtlapgdocpndfiaaGreatDoor
open _root_.Go.Proofs.Tryz
open Go.RowKit
def RetW (w:World) (r:Bs × Nat) (e:Ending) (w':World):Prop :=
 ∃ v,e=.returned (.tuple #[v,.int .i64 (r.2:Nat)])/\Own w' w.heap.size v r.1/\Below w.heap.size w w'
theorem RetW.none {w:World} {r:Bs × Nat} {k:Nat} {y:Int} (h:r=([],k)) (hy:y=k):RetW w r (.returned (.tuple #[.slice none 0 0,.int .i64 y])) w:=by
 subst h;subst hy;exact ⟨_,rfl,zaT w _,Below.refl _ _⟩
theorem RetW.own {w w':World} {r:Bs × Nat} {l:Bs} {k:Nat} {v:Value} {y:Int} (h:r=(l,k)) (ho:Own w' w.heap.size v l) (hb:Below w.heap.size w w') (hy:y=(k:Nat)) :
  RetW w r (.returned (.tuple #[v,.int .i64 y])) w':=by
 subst h hy;exact ⟨_,rfl,ho,hb⟩
theorem zfF (k:Int) (v:Value) (l:Bs) (w:World) (h:Rd w v l) :
  Calls prog 108 #[.int .i64 k,v] w (RetW w (wrF k l)):=by
 have hlen:=h.len;have hsm:=h.small;by_cases h1:k < 0
 ·have hr:wrF k l=([],10):=by unfold wrF;rw [if_pos (.inl h1)]
  have HR:=h_ hr;clear hr;go_enter func108,ntmps108;go_wp2;go_ret2;exact RetW.none HR.o rfl
 by_cases h2:2 < k
 ·have hr:wrF k l=([],10):=by unfold wrF;rw [if_pos (.inr h2)]
  have HR:=h_ hr;clear hr;go_enter func108,ntmps108;go_wp2;go_ret2;exact RetW.none HR.o rfl
 obtain ⟨n,rfl⟩:=Int.eq_ofNat_of_zero_le (show 0<=k by omega);by_cases h3:1048576 < l.length
 ·have hr:wrF (n:Int) l=([],13):=by unfold wrF;rw [if_neg (by omega),if_pos h3]
  have HR:=h_ hr;clear hr;go_enter func108,ntmps108;go_wp2;go_ret2;exact RetW.none HR.o rfl
 have hr:wrF (n:Int) l=(frB n l,0):=by unfold wrF;rw [if_neg (by omega),if_neg h3,Int.toNat_natCast]
 have HR:=h_ hr;clear hr;have hle:=zaC l.length (by omega);have hel:=zc0 l;have HL:=h_ (And.intro hle hel);clear hle hel;have hc:zeU (UInt8.ofNat n)=.int .u8 (n:Int):=by unfold zeU;rw [UInt8.toNat_ofNat'];congr 1;omega
 have ho0:=zn4 w w.heap.size l_ [UInt8.ofNat n] (by simp [maxLen]);rw [show (za6 [UInt8.ofNat n]).toArray=#[.int .u8 (n:Int)] from by simp [za6,hc]] at ho0;clear hc;have hb0:Below w.heap.size w (w.alloc (.cells #[.int .u8 (n:Int)] 5 (0,0))):=(Below.refl _ _).alloc l_ _;go_enter func108,ntmps108;go_wp2_with fail;refine (zgK v l _ (h.alloc _)).mono ?_;rintro e w1 ⟨v1,rfl,ho1,hb1⟩;have hb2:=hb0.trans (hb1.mono hb0.size);have ho2:=ho0.later hb1 l_;have hr1:=ho1.rd (by have:=HL.o;omega);clear ho0 hb0 ho1 hb1;go_wp2_with (with_reducible refine wpl_append w.heap.size _ [UInt8.ofNat n] ?hs ho2 _ (encB l) ?hx hr1 ?hn ?hbase w.heap.size w hb2 l_ ?_)
 case hs=>rfl
 case hx=>rfl
 case hn=>have:=HL.o;simp;omega
 case hbase=>exact hb2.size
 intro v3 w3 ho3 hb3 _;rw [show [UInt8.ofNat n] ++ encB l=frX n l from rfl] at ho3;have hr3:=ho3.rd (by have:=HL.o;have:=zlZ n l;omega);go_wp2_with fail;refine (zBT v3 _ _ hr3).mono ?_;rintro e w4 ⟨v4,rfl,ho4,hb4⟩;go_wp2;go_ret2;exact RetW.own HR.o (ho4.base hb3.size) (hb3.trans (hb4.mono hb3.size)) rfl
theorem Rd.cut3 {w:World} {v:Value} {l:Bs} (h:Rd w v l) (lo hi:Nat) (h1:lo<=hi) (h2:hi<=l.length) :
  ∃ v',(∀ u,(Instr.slice 22 v (some (.int .i64 (lo:Int))) (some (.int .i64 (hi:Int))) (some (.int .i64 (hi:Int)))).run prog u=.ok v' u)/\∀ w',Rd w' v l->Rd w' v' ((l.take hi).drop lo):=by
 obtain ⟨⟨ao,cap,rfl,hcap,hnil,hsome⟩,hcel,hsm⟩:=h;refine ⟨.slice (if hi=lo then ao else ao.map (·.add lo)) (hi - lo) (hi - lo),fun u=>?_,fun w' h'=>?_⟩
 ·rw [run_slice_lhm (P:=prog) u 22 ao l.length cap underlying22 .i64 .i64 .i64 lo hi hi (by omega) (by omega) (by omega) (by omega)];simp [go_sem,Result.andThen,sliced]
 have hlen:((l.take hi).drop lo).length=hi - lo:=by simp;omega
 have hadr:∀ b o,0 < hi - lo->ao=some ⟨b,o,none⟩->(if hi=lo then ao else ao.map (·.add lo))=some ⟨b,o + lo,none⟩:=by
  intro b o hp he;subst he;rw [if_neg (by omega)];simp [Addr.add]
 refine ⟨⟨_,_,by rw [hlen],by rw [hlen];omega,?_,?_⟩,?_,by rw [hlen];omega⟩
 ·intro hn;by_cases hc:hi=lo
  ·omega
  rw [if_neg hc] at hn;have:ao=none:=by cases ao <;> simp_all
  have:=hnil this;omega
 ·intro hp;rw [hlen] at hp;obtain ⟨b,o,he⟩:=hsome (by omega);exact ⟨b,o + lo,hadr b o hp he⟩
 intro i hi';rw [hlen] at hi';obtain ⟨b,o,he⟩:=hsome (by omega);have hc:=h'.cells (lo + i) (by omega);rw [hadr b o (by omega) he];subst he;have e1:adr (.slice (some ⟨b,o + lo,none⟩) (hi - lo) (hi - lo)) i=adr (.slice (some ⟨b,o,none⟩) l.length cap) (lo + i):=by
  simp only [adr,Addr.add];split <;> split <;> simp_all <;> omega
 rw [e1,hc];congr 2;unfold at8;simp [List.getD];rw [List.getElem?_take_of_lt (by omega)]
theorem Rd.upto3 {w:World} {v:Value} {l:Bs} (h:Rd w v l) (hi:Nat) (h1:hi<=l.length) :
  ∃ v',(∀ u,(Instr.slice 22 v none (some (.int .i64 (hi:Int))) (some (.int .i64 (hi:Int)))).run prog u=.ok v' u)/\∀ w',Rd w' v l->Rd w' v' (l.take hi):=by
 obtain ⟨v',hr,hd⟩:=h.cut3 0 hi (Nat.zero_le _) h1;refine ⟨v',fun u=>?_,fun w' h'=>by have:=hd w' h';rwa [List.drop_zero] at this⟩;obtain ⟨⟨ao,cap,rfl,hcap,hnil,hsome⟩,hcel,hsm⟩:=h
 rw [<- hr u,run_slice_lhm (P:=prog) u 22 ao l.length cap underlying22 .i64 .i64 .i64 ((0:Nat):Int) hi hi (by omega) (by omega) (by omega) (by omega),
  run_slice_hm (P:=prog) u 22 ao l.length cap underlying22 .i64 .i64 hi hi (by omega) (by omega) (by omega)]
 simp
theorem zjS (v:Value) (l:Bs) (c:Nat) (w:World) (h:Rd w v l) (hc:c + 4<=l.length) :
  Calls prog 157 #[v,.int .i64 (c:Int)] w fun e w'=>∃ va vb,e=.returned (.tuple #[va,vb])/\Rd w' va (l.take c)/\Rd w' vb ((l.take (c + 4)).drop c)/\Below w.heap.size w w':=by
 have hsm:=h.small;obtain ⟨va,hs1,hd1⟩:=h.upto3 c (by omega);obtain ⟨vb,hs2,hd2⟩:=h.cut3 c (c + 4) (by omega) hc;rw [show ((c + 4:Nat):Int)=(c:Int) + 4 from by omega] at hs2;have HD:=h_ (And.intro hd1 hd2);clear hd1 hd2;go_enter func157,ntmps157;go_wp2;go_region
 all_goals go_wp2
 all_goals go_ret2
 all_goals exact ⟨_,_,rfl,HD.1 _ h.drew,HD.2 _ h.drew,(Below.refl _ _).drew⟩
theorem zaI {fn:Func} {t u v x:Tmp} (h:fn.results=#[.tmp t,.tmp u,.tmp v,.tmp x]) (tmps:Array Value) (P:Program) (w:World) :
  (results fn tmps).run P w=.ok (.tuple #[tmps.getD t undef,tmps.getD u undef,tmps.getD v undef,tmps.getD x undef]) w:=by
 simp [results,h]
def RetN (w:World) (r:Nat × Bs × Nat × Nat) (e:Ending) (w':World):Prop :=
 ∃ v,e=.returned (.tuple #[.int .i64 (r.1:Nat),v,.int .i64 (r.2.2.1:Nat),.int .i64 (r.2.2.2:Nat)])/\Own w' w.heap.size v r.2.1/\Below w.heap.size w w'
theorem RetN.none {w w':World} {r:Nat × Bs × Nat × Nat} {k:Nat} {y:Int} (h:r=(0,[],0,k)) (hb:Below w.heap.size w w') (hy:y=k):RetN w r (.returned (.tuple #[.int .i64 0,.slice none 0 0,.int .i64 0,.int .i64 y])) w':=by
 subst h;subst hy;exact ⟨_,rfl,zaT w' _,hb⟩
theorem RetN.own {w w':World} {r:Nat × Bs × Nat × Nat} {k n e:Nat} {l:Bs} {v:Value} {x y z:Int} (h:r=(k,l,n,e)) (ho:Own w' w.heap.size v l) (hb:Below w.heap.size w w') (hx:x=(k:Nat)) (hy:y=(n:Nat)) (hz:z=(e:Nat)) :
  RetN w r (.returned (.tuple #[.int .i64 x,v,.int .i64 y,.int .i64 z])) w':=by
 subst h hx hy hz;exact ⟨_,rfl,ho,hb⟩
theorem zvB {l:Bs} {n:Nat} (h:n + 5<=l.length):Crc.good (l.take (n + 5)) ↔ (l.take (n + 1 + 4)).drop (n + 1)=Crc.put (Crc.sum (l.take (n + 1))):=by
 unfold Crc.good;rw [List.length_take,Nat.min_eq_left h,show n + 5 - 4=n + 1 from by omega,List.take_take,Nat.min_eq_left (by omega)];exact ⟨fun hh=>hh.2.symm,fun hh=>⟨by omega,hh.symm⟩⟩
theorem zlY (v:Value) (l:Bs) (w:World) (h:Rd w v l) :
  Calls prog 117 #[v] w (RetN w (nxF l)):=by
 have hlen:=h.len;have hsm:=h.small;by_cases h0:l.length=0
 ·have hr:nxF l=(0,[],0,5):=by unfold nxF;rw [if_pos h0]
  have HR:=h_ hr;rw [h0] at hlen;clear hr h0;go_enter func117,ntmps117;go_wp2
  (try simp only [Exit.inBlock,Exit.then]);refine bodyPost_ret (zaI rfl _ _ _) rfl ?_
  exact RetN.none HR.o (Below.refl _ _) rfl
 have hp:0 < l.length:=by omega
 have hidx:∀ u,(Instr.indexAt 22 v (.int .i64 0)).run prog u=.ok (.pointer (some (adr v 0))) u:=h.idx 0 hp;have hcel:=h.cells 0 hp;have hc0:=zeH l 0;have hc1:=zcZ l 0;have hne:((l.length:Int) == 0)=false:=by rw [Bool.eq_false_iff];exact fun hh=>by have:=beq_iff_eq.1 hh;omega
 by_cases h2:2 < at8 l 0
 ·have hr:nxF l=(0,[],0,10):=by unfold nxF;rw [if_neg h0,if_pos h2]
  have HR:=h_ hr;clear hr h0;go_enter func117,ntmps117;go_wp2
  (try simp only [Exit.inBlock,Exit.then]);refine bodyPost_ret (zaI rfl _ _ _) rfl ?_
  exact RetN.none HR.o (Below.refl _ _) rfl
 obtain ⟨v1,hs1,hd1⟩:=h.from 1 (by omega);have hs1:∀ u,(Instr.slice 22 v (some (.int .i64 1)) none none).run prog u=.ok v1 u:=hs1;have hr1:=hd1 w h;have hb:nxF l=nxF l:=rfl
 conv at hb=>rhs;unfold nxF
 rw [if_neg h0,if_neg h2] at hb;have hl:=znD (b:=l.drop 1) (p:=(getB (l.drop 1) 1048576).1) (n:=(getB (l.drop 1) 1048576).2.1) (e:=(getB (l.drop 1) 1048576).2.2) rfl;rcases hg:getB (l.drop 1) 1048576 with ⟨p,n,er⟩
 rw [hg] at hb hl;dsimp only at hb hl;obtain ⟨hl1,hl2,hl3,hl4⟩:=hl;rw [List.length_drop] at hl2;have HD:=h_ hd1;have HG:=h_ hg;clear hd1 hg h0;by_cases he:er=0
 ·subst he;rw [if_neg (by simp)] at hb;by_cases h5:l.length < n + 5
  ·rw [if_pos h5] at hb;have HB:=h_ hb;clear hb;go_enter func117,ntmps117;go_wp2_with fail;refine (zbB v1 _ 1048576 (by omega) (by omega) w hr1).mono ?_;rintro e w1 ⟨v2,rfl,ho,hb1⟩;rw [HG.o] at ho ⊢;dsimp only at ho ⊢;go_wp2
   (try simp only [Exit.inBlock,Exit.then]);refine bodyPost_ret (zaI rfl _ _ _) rfl ?_
   exact RetN.none HB.o hb1 rfl
  rw [if_neg h5] at hb;have hgp:=zvB (l:=l) (n:=n) (by omega);have hcell1:∀ w',Below w.heap.size w w'->w'.cell? (adr v 0)=some (.int .u8 (at8 l 0)):=fun w' hb'=>(h.later hb' l_).cells 0 hp;have hsum:=Crc.sum_lt (l.take (n + 1));obtain ⟨c,hc⟩:=nm_ (n + 1:Nat);have hci:(1:Int) + (n:Int)=(c:Int):=by omega
  rw [<- hc] at hgp hsum;have HC:=h_ hc;clear hc;by_cases hq:(l.take (c + 4)).drop c=Crc.put (Crc.sum (l.take c))
  ·rw [if_pos (hgp.2 hq)] at hb;have HB:=h_ hb;have hf2:((l.take (c + 4)).drop c == Crc.put (Crc.sum (l.take c)))=true:=beq_iff_eq.2 hq;clear hb hgp hq;go_enter func117,ntmps117;go_wp2_with fail;refine (zbB v1 _ 1048576 (by omega) (by omega) w hr1).mono ?_;rintro e w1 ⟨v2,rfl,ho,hb1⟩;rw [HG.o] at ho ⊢;dsimp only at ho ⊢;go_wp2_with fail;refine (zjS v l c w1 (h.later hb1 l_) (by omega)).mono ?_;rintro e w2 ⟨va,vb,rfl,hra,hrb,hb2⟩;replace ho:=ho.later hb2 l_;replace hb2:=hb1.trans (hb2.mono hb1.size);go_wp2_with fail;refine (zrY va _ w2 hra).mono ?_;rintro e w3 ⟨rfl,hb3⟩;replace hrb:=hrb.later hb3 l_;replace ho:=ho.later hb3 l_;replace hb3:=hb2.trans (hb3.mono hb2.size);clear hra;go_wp2_with fail;refine (zrZ _ hsum w3).mono ?_;rintro e w4 ⟨v4,rfl,ho4,hb4⟩;replace hrb:=hrb.later hb4 l_;replace ho:=ho.later hb4 l_;replace hb4:=hb3.trans (hb4.mono hb3.size);have hr4:=ho4.rd (by simp [Crc.put_length]);go_wp2_with fail;refine (bytes_Equal vb v4 _ _ w4 hrb hr4).mono ?_;rintro e w5 ⟨rfl,rfl⟩;have hcel2:=hcell1 _ hb4;go_wp2
   (try simp only [Exit.inBlock,Exit.then]);refine bodyPost_ret (zaI rfl _ _ _) rfl ?_
   exact RetN.own HB.o ho hb4 (by omega) (by have:=HC.o;omega) rfl
  rw [if_neg (fun hh=>hq (hgp.1 hh))] at hb;have HB:=h_ hb;have hf2:((l.take (c + 4)).drop c == Crc.put (Crc.sum (l.take c)))=false:=by rw [Bool.eq_false_iff];exact fun hh=>hq (beq_iff_eq.1 hh)
  clear hb hgp hq;go_enter func117,ntmps117;go_wp2_with fail;refine (zbB v1 _ 1048576 (by omega) (by omega) w hr1).mono ?_;rintro e w1 ⟨v2,rfl,ho,hb1⟩;rw [HG.o] at ho ⊢;dsimp only at ho ⊢;go_wp2_with fail;refine (zjS v l c w1 (h.later hb1 l_) (by omega)).mono ?_;rintro e w2 ⟨va,vb,rfl,hra,hrb,hb2⟩;replace ho:=ho.later hb2 l_;replace hb2:=hb1.trans (hb2.mono hb1.size);go_wp2_with fail;refine (zrY va _ w2 hra).mono ?_;rintro e w3 ⟨rfl,hb3⟩;replace hrb:=hrb.later hb3 l_;replace ho:=ho.later hb3 l_;replace hb3:=hb2.trans (hb3.mono hb2.size);clear hra;go_wp2_with fail;refine (zrZ _ hsum w3).mono ?_;rintro e w4 ⟨v4,rfl,ho4,hb4⟩;replace hrb:=hrb.later hb4 l_;replace ho:=ho.later hb4 l_;replace hb4:=hb3.trans (hb4.mono hb3.size);have hr4:=ho4.rd (by simp [Crc.put_length]);go_wp2_with fail;refine (bytes_Equal vb v4 _ _ w4 hrb hr4).mono ?_;rintro e w5 ⟨rfl,rfl⟩;have hcel2:=hcell1 _ hb4;go_wp2
  (try simp only [Exit.inBlock,Exit.then]);refine bodyPost_ret (zaI rfl _ _ _) rfl ?_
  exact RetN.none HB.o hb4 rfl
 rw [if_pos he] at hb;have HB:=h_ hb;have hne2:((er:Int) != 0)=true:=by simp;omega
 clear hb he;go_enter func117,ntmps117;go_wp2_with fail;refine (zbB v1 _ 1048576 (by omega) (by omega) w hr1).mono ?_;rintro e w1 ⟨v2,rfl,ho,hb1⟩;rw [HG.o];dsimp only;go_wp2
 (try simp only [Exit.inBlock,Exit.then]);refine bodyPost_ret (zaI rfl _ _ _) rfl ?_
 exact RetN.none HB.o hb1 rfl
/- -/
theorem zlK (v:Value) (l:Bs) (w:World) (h:Rd w v l) :
  Calls prog 102 #[v] w (RetN w (nxF l)):=by
 have hlen:=h.len;have hsm:=h.small;by_cases h0:l.length=0
 ·have hr:nxF l=(0,[],0,5):=by unfold nxF;rw [if_pos h0]
  have HR:=h_ hr;rw [h0] at hlen;clear hr h0;go_enter func102,ntmps102;go_wp2
  (try simp only [Exit.inBlock,Exit.then]);refine bodyPost_ret (zaI rfl _ _ _) rfl ?_
  exact RetN.none HR.o (Below.refl _ _) rfl
 have hp:0 < l.length:=by omega
 have hidx:∀ u,(Instr.indexAt 22 v (.int .i64 0)).run prog u=.ok (.pointer (some (adr v 0))) u:=h.idx 0 hp;have hcel:=h.cells 0 hp;have hc0:=zeH l 0;have hc1:=zcZ l 0;have hne:((l.length:Int) == 0)=false:=by rw [Bool.eq_false_iff];exact fun hh=>by have:=beq_iff_eq.1 hh;omega
 by_cases h2:2 < at8 l 0
 ·have hr:nxF l=(0,[],0,10):=by unfold nxF;rw [if_neg h0,if_pos h2]
  have HR:=h_ hr;clear hr h0;go_enter func102,ntmps102;go_wp2
  (try simp only [Exit.inBlock,Exit.then]);refine bodyPost_ret (zaI rfl _ _ _) rfl ?_
  exact RetN.none HR.o (Below.refl _ _) rfl
 obtain ⟨v1,hs1,hd1⟩:=h.from 1 (by omega);have hs1:∀ u,(Instr.slice 22 v (some (.int .i64 1)) none none).run prog u=.ok v1 u:=hs1;have hr1:=hd1 w h;have hb:nxF l=nxF l:=rfl
 conv at hb=>rhs;unfold nxF
 rw [if_neg h0,if_neg h2] at hb;have hl:=znD (b:=l.drop 1) (p:=(getB (l.drop 1) 1048576).1) (n:=(getB (l.drop 1) 1048576).2.1) (e:=(getB (l.drop 1) 1048576).2.2) rfl;rcases hg:getB (l.drop 1) 1048576 with ⟨p,n,er⟩
 rw [hg] at hb hl;dsimp only at hb hl;obtain ⟨hl1,hl2,hl3,hl4⟩:=hl;rw [List.length_drop] at hl2;have HD:=h_ hd1;have HG:=h_ hg;clear hd1 hg h0;by_cases he:er=0
 ·subst he;rw [if_neg (by simp)] at hb;by_cases h5:l.length < n + 5
  ·rw [if_pos h5] at hb;have HB:=h_ hb;clear hb;go_enter func102,ntmps102;go_wp2_with fail;refine (zbG v1 _ 1048576 (by omega) (by omega) w hr1).mono ?_;rintro e w1 ⟨v2,rfl,ho,hb1⟩;rw [HG.o] at ho ⊢;dsimp only at ho ⊢;go_wp2
   (try simp only [Exit.inBlock,Exit.then]);refine bodyPost_ret (zaI rfl _ _ _) rfl ?_
   exact RetN.none HB.o hb1 rfl
  rw [if_neg h5] at hb;obtain ⟨v5,hs5,hd5⟩:=h.upto (n + 5) (by omega);rw [show ((n + 5:Nat):Int)=(n:Int) + 5 from by omega] at hs5;have hcell1:∀ w',Below w.heap.size w w'->w'.cell? (adr v 0)=some (.int .u8 (at8 l 0)):=fun w' hb'=>(h.later hb' l_).cells 0 hp;have HD5:=h_ hd5;clear hd5;by_cases hq:Crc.good (l.take (n + 5))
  ·rw [if_pos hq] at hb;have ho:zjL (l.take (n + 5))=(l.take (n + 5 - 4),true):=(by unfold zjL;rw [if_pos hq,List.length_take,Nat.min_eq_left (by omega),List.take_take,Nat.min_eq_left (by omega)]);have HB:=h_ hb;have HO:=h_ ho;clear hb hq ho;go_enter func102,ntmps102;go_wp2_with fail;refine (zbG v1 _ 1048576 (by omega) (by omega) w hr1).mono ?_;rintro e w1 ⟨v2,rfl,ho,hb1⟩;rw [HG.o] at ho ⊢;dsimp only at ho ⊢;go_wp2_with fail;refine (zt4 v5 _ w1 (HD5.o w1 (h.later hb1 l_))).mono ?_;rintro e w2 ⟨v3,rfl,ho3,hb2⟩;rw [HO.o];replace ho:=ho.later hb2 l_;replace hb2:=hb1.trans (hb2.mono hb1.size);have hcel2:=hcell1 _ hb2;go_wp2
   (try simp only [Exit.inBlock,Exit.then]);refine bodyPost_ret (zaI rfl _ _ _) rfl ?_
   exact RetN.own HB.o ho hb2 (by omega) (by omega) rfl
  rw [if_neg hq] at hb;have ho:zjL (l.take (n + 5))=([],false):=by unfold zjL;rw [if_neg hq]
  have HB:=h_ hb;have HO:=h_ ho;clear hb hq ho;go_enter func102,ntmps102;go_wp2_with fail;refine (zbG v1 _ 1048576 (by omega) (by omega) w hr1).mono ?_;rintro e w1 ⟨v2,rfl,ho,hb1⟩;rw [HG.o] at ho ⊢;dsimp only at ho ⊢;go_wp2_with fail;refine (zt4 v5 _ w1 (HD5.o w1 (h.later hb1 l_))).mono ?_;rintro e w2 ⟨v3,rfl,ho3,hb2⟩;rw [HO.o];replace ho:=ho.later hb2 l_;replace hb2:=hb1.trans (hb2.mono hb1.size);have hcel2:=hcell1 _ hb2;go_wp2
  (try simp only [Exit.inBlock,Exit.then]);refine bodyPost_ret (zaI rfl _ _ _) rfl ?_
  exact RetN.none HB.o hb2 rfl
 rw [if_pos he] at hb;have HB:=h_ hb;have hne2:((er:Int) != 0)=true:=by simp;omega
 clear hb he;go_enter func102,ntmps102;go_wp2_with fail;refine (zbG v1 _ 1048576 (by omega) (by omega) w hr1).mono ?_;rintro e w1 ⟨v2,rfl,ho,hb1⟩;rw [HG.o];dsimp only;go_wp2
 (try simp only [Exit.inBlock,Exit.then]);refine bodyPost_ret (zaI rfl _ _ _) rfl ?_
 exact RetN.none HB.o hb1 rfl
