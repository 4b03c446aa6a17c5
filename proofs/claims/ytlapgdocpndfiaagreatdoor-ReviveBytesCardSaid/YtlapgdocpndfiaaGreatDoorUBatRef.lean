/- -/
import Derived.Deep.AppendLies
import Derived.Test.YtlapgdocpndfiaaGreatDoorUColRR
set_option maxHeartbeats 16000000
set_option linter.unusedVariables false
set_option linter.unusedSimpArgs false
set_option maxRecDepth 1000000
namespace Go.Proofs.YtlapgdocpndfiaaGreatDoor
open _root_.Go.Proofs.Tryz
open Go.RowKit
def TakeR10 (w:World) (m:Nat) (v:Value) (l:Bs) (R:List Bp × Nat × Nat) (e:Ending) (w':World):Prop :=
 ∃ tv,e=.returned tv/\(∃ ao n cap,tv=.slice ao n cap)/\w.grownBy w' (some m)/\Mdl w' m v l R.2.1 R.2.2/\(R.2.2=0->∃ ps:List PairB,NewP w' w.heap.size tv ps/\PSO ps/\psL ps=R.1)
/- -/
theorem zuY {E:Elt} {w:World} {base:Nat} {v:Value} {vs:List (List Value)} (h:OwnG E w base v vs):∃ ao tl cap,v=.slice ao tl cap:=by
 rcases h.1.2 with ⟨rfl,_⟩ | ⟨q,cap,cur,rfl,_⟩
 ·exact ⟨_,_,_,rfl⟩
 exact ⟨_,_,_,rfl⟩
theorem zuM (sv : Value) (cs : List ColB) (m : Nat) (v : Value) (l : Bs) (k0 : Nat) (w : World) (hM : Mdl w m v l k0 0) (hC : CS cs) (E : Nat) (cmp : List Ce -> List Ce -> Int)
    (hsv : ∀ wz, w.grownBy wz (some m) -> RdC wz sv cs)
    (hCk : Calls prog 83 #[sv] w fun e w' => e = .returned (.int .i64 (E : Int)) /\ Below w.heap.size w w') (hK : E = 0 -> cs.length <= 8)
    (hCp : ∀ wz va vb a b, w.grownBy wz (some m) -> RdE wz va a -> RdE wz vb b -> CES a -> CES b -> Calls prog 112 #[sv, va, vb] wz fun e w' => e = .returned (.int .i64 (cmp (cesL a) (cesL b))) /\ Below wz.heap.size wz w')
    (hTk : ∀ wz k kd n, Mdl wz m v l k 0 -> Calls prog 201 #[.pointer (some ⟨m, 0, none⟩), .int .i64 kd, .int .i64 n] wz (TakeR wz m v l kd n k)) :
    Calls prog 143 #[.pointer (some ⟨m, 0, none⟩), sv] w (TakeR10 w m v l (bat (fun a b => decide (cmp a b < 0)) E l (kindsL cs) k0)) := by
 have hml:=hM.lt;have hlc:=(hsv w (World.grownBy.refl _ _)).len;by_cases hE:E=0
 ·subst hE;obtain ⟨R,hR⟩:=nm_ (bat (fun a b=>decide (cmp a b < 0)) 0 l (kindsL cs) k0);rw [<- hR];have hR1:R=btRd (fun a b=>decide (cmp a b < 0)) l (kindsL cs) k0:=by rw [hR];unfold bat;rw [if_neg (by simp)]
  have hnl:(rdU l k0 1024).1<=1024:=by
   unfold rdU;split
   ·omega
   split <;> dsimp only <;> omega
  have HRc:=Lib.hid (fun h=>hR1.trans (zqD h));have HRe:=Lib.hid (fun (h:(rdU l k0 1024).2.2≠0)=>show R=([],(rdU l k0 1024).2.1,(rdU l k0 1024).2.2) from by rw [hR1];unfold btRd;rw [if_pos h]);obtain ⟨K,hKn⟩:=nm_ cs.length;rw [<- hKn] at hlc;have hK8:K<=8:=by rw [hKn];exact hK rfl
  have HKn:=Lib.hid hKn;have HSv:=Lib.hid hsv;have HCk:=Lib.hid hCk;have HTk:=Lib.hid hTk;have HCp:=Lib.hid hCp;have HM:=Lib.hid hM;have HML:=Lib.hid hml;have HCS:=Lib.hid hC;have HVB:=Lib.hid (fun q (hq:q < l.length)=>hM.rd.block hq);clear hR hR1 hKn hsv hCk hTk hCp hM hml hC hK;go_enter func143,ntmps143;go_wp2_with fail;refine HCk.mono ?_;rintro e w1 ⟨rfl,hb⟩;have HG1:=Lib.hid (below_grown hb (some m));have HM1:=Lib.hid (HM.later hb (Nat.le_refl _));clear hb HCk HM;go_wp2_with fail;refine (zcF m v l k0 w1 HM1.o 1024 (by decide)).mono ?_;rintro e w2 ⟨rfl,hg2,hM2⟩;rcases hr:rdU l k0 1024 with ⟨n,k1,x1⟩
  rw [hr] at hM2 hnl HRc HRe;dsimp only at hM2 hnl HRc HRe ⊢;have HG2:=Lib.hid (HG1.trans hg2);have HM2:=Lib.hid hM2;have hmk:=zv7 n hnl;have HS2:=Lib.hid HG2.size;clear hg2 hM2 hr HG1 HM1;have HO3:=Lib.hid (OwnM.made w2 w.heap.size n HS2.o hnl);have HB3:=Lib.hid (show Below w2.heap.size w2 (w2.alloc (.cells (List.replicate n (triV (.slice none 0 0,([],0)))).flatten.toArray 86)) from (Below.refl _ _).alloc (Nat.le_refl _) _);have HG3:=Lib.hid (HG2.trans (below_grown HB3.o (some m)));have HM3:=Lib.hid (HM2.later HB3.o (Nat.le_refl _));go_wp2;generalize w2.alloc (.cells (List.replicate n (triV (.slice none 0 0,([],0)))).flatten.toArray 86)=w3 at *;generalize w2.heap.size=gP at *;clear HB3 HG2 HM2 hmk;have HGP:=Lib.hid (show w.heap.size<=gP from HO3.lo);obtain ⟨v7,hv7⟩:=nm_ (Value.slice (some ⟨gP,0,none⟩) n n);rw [<- hv7];have HV7:=Lib.hid hv7;clear hv7;have HI0:=Lib.hid (show x1≠0->R.2.1=k1/\R.2.2=x1 from fun h=>by rw [HRe.o h];exact ⟨rfl,rfl⟩)
  have HJ0 := Lib.hid (show x1 = 0 -> ∃ done, done.length = 0 /\ zh7 (List.replicate n ((.slice none 0 0, ([], 0)) : TriB)) done /\ R = zcC (fun a b => decide (cmp a b < 0)) l n done ((kindsL cs).drop 0) k1 from fun h => ⟨[], rfl, fun i t hi => by
    have := List.eq_of_mem_replicate (List.mem_of_getElem? hi)
    subst this
    exact ⟨rfl, rfl, CES.nil9⟩, by rw [List.drop_zero]; exact HRc.o h⟩)
  have HL0:=Lib.hid (show (List.replicate n ((.slice none 0 0,([],0)):TriB)).length=n by simp)
  have HW0 := Lib.hid (show ∀ t ∈ List.replicate n ((.slice none 0 0, ([], 0)) : TriB), t.2.1.length <= 0 from fun t ht => by
    have := List.eq_of_mem_replicate ht
    subst this; simp)
  go_loopw [8] (fun i wr => ∃ (k x kk : Nat) (ts : List TriB), k <= K /\ i = .int .i64 k /\ Hid (Mdl wr m v l kk x) /\ Hid (w.grownBy wr (some m)) /\ Hid (OwnM wr w.heap.size gP ts) /\ Hid (ts.length = n) /\ Hid (∀ t ∈ ts, t.2.1.length <= k) /\ Hid (x ≠ 0 -> R.2.1 = kk /\ R.2.2 = x) /\
    Hid (x = 0 -> ∃ done, done.length = k /\ zh7 ts done /\ R = zcC (fun a b => decide (cmp a b < 0)) l n done ((kindsL cs).drop k) kk)) (fun i _ => K - (intOf i).toNat)
  case atStart=>exact ⟨0,x1,k1,_,by omega,rfl,HM3,HG3,HO3,HL0,HW0,HI0,HJ0⟩
  clear HM3 HG3 HO3 HL0 HI0 HJ0 HW0;obtain ⟨k,x,kk,ts,hk,rfl,HM,HG,HO,HL,HWd,HI,HJ⟩:=hrel;have c2:=HM.cell2;by_cases hlt:k < K
  ·have d1:decide ((k:Int) < (K:Int))=true:=decide_eq_true (by omega);by_cases hx:x=0
   ·subst hx;have c2:wr.cell? ⟨m,2,none⟩=some (.int .i64 0):=c2;have hkc:k < cs.length:=(by rw [<- HKn.o];exact hlt);have hrc:=HSv.o wr HG.o;have HKk:=Lib.hid HM.le;obtain ⟨b,o,hidx,hcell,_⟩:=hrc.get hkc;obtain ⟨e0,e1⟩:=hcell _ hrc;rcases hcg:cs.getD k default with ⟨nm,kd⟩
    rw [hcg] at e0 e1;dsimp only at e0 e1;have HCG:=Lib.hid hcg;have TK:=Lib.hid (HTk.o wr kk kd (n:Int) HM.o);clear hrc hcell hcg;go_wp2_with fail;refine TK.mono ?_;rintro e w4 ⟨lv,rfl,hg4,hM4,lcs,hOl,hCl,hll,hcl⟩;have hln:=(hOl.rd (by rw [Int.toNat_natCast] at hll;omega)).len;obtain ⟨bl,hbl⟩:=nm_ wr.heap.size;rw [<- hbl] at hOl;have HOl:=Lib.hid hOl;have HCl:=Lib.hid hCl;have HG4:=Lib.hid (HG.trans hg4);have HM4:=Lib.hid hM4
    have HO4 := Lib.hid (HO.aside hg4 (fun q hq => by
      injection hq with hq
      subst hq
      refine ⟨by have := HML.o; have := HGP.o; omega, fun t ht e => ?_⟩
      obtain ⟨i, hi⟩ := List.getElem?_of_mem ht
      have := (OwnE.lt (HO.rows i t hi) e).1
      have := HML.o
      have := HGP.o
      omega))
    have HBl := Lib.hid (show ∀ t ∈ ts, ∀ q, t.1.ownBlock = some q -> q < bl from fun t ht q e => by
      obtain ⟨i, hi⟩ := List.getElem?_of_mem ht
      have := (OwnE.lt (HO.rows i t hi) e).2
      omega)
    have HGb:=Lib.hid (show gP < bl by rw [hbl];exact HO.lt);obtain ⟨p,hp⟩:=nm_ lcs.length;rw [<- hp] at hln;have HPl:=Lib.hid hp;rw [Int.toNat_natCast] at hll;have hpn:p<=n:=(by rw [hp];exact hll);clear hg4 hM4 hOl hCl TK HM HG HO c2 hidx e0 e1 hbl hp;go_wp2
    go_loopw [10] (fun i wi => ∃ (j : Nat) (us : List TriB), j <= p /\ i = .int .i64 j /\ Hid (Mdl wi m v l (rdK l kd n kk).2.1 (rdK l kd n kk).2.2) /\ Hid (w.grownBy wi (some m)) /\ Hid (OwnM wi w.heap.size gP us) /\ Hid (us.length = n) /\ Hid (OwnE wi bl lv lcs) /\
      Hid (∀ (i : Nat) (t : TriB), ts[i]? = some t -> ∃ u, us[i]? = some u /\ u.2.2 = t.2.2 /\ u.2.1 = if i < j then t.2.1 ++ [lcs.getD i default] else t.2.1) /\ Hid (∀ u ∈ us, ∀ q, u.1.ownBlock = some q -> lv.ownBlock ≠ some q)) (fun i _ => p - (intOf i).toNat)
    case atStart=>exact ⟨0,ts,by omega,rfl,HM4,HG4,HO4,HL,HOl,Lib.hid (fun i t hi=>⟨t,hi,rfl,by rw [if_neg (by omega)]⟩),Lib.hid (fun t ht q h1 h2=>by have h3:=HBl.o t ht q h1;have:=(OwnE.lt HOl.o h2).1;omega)⟩
    clear HM4 HG4 HO4;obtain ⟨j,us,hj,rfl,HM,HG,HO,HLu,HOl,HRw,HAp⟩:=hrel;by_cases hjp:j < p/\j < n
    ·obtain ⟨hjp,hjn⟩:=hjp;have d2:decide ((j:Int) < (p:Int))=true:=decide_eq_true (by omega);have d3:decide ((j:Int) < (n:Int))=true:=decide_eq_true (by omega);obtain ⟨u,hu⟩:∃ u,us[j]?=some u:=⟨us[j]'(by rw [HLu.o];exact hjn),by simp [HLu.o,hjn]⟩;have hi7:∀ u9,(Instr.indexAt 43 v7 (.int .i64 (j:Int))).run prog u9=.ok (.pointer (some ⟨gP,2 * j,none⟩)) u9:=by
      have:=HO.idx (i:=j) (by rw [HLu.o];exact hjn);rw [HLu.o,<- HV7.o] at this;exact this
     obtain ⟨k9,_,f9,_⟩:=HO.cell hu;have hrow:=HO.rows j u hu;have hwu:=HO.wide u (List.mem_of_getElem? hu);have hlr:=HOl.rd (by rw [<- HPl.o];omega);obtain ⟨b,o,hidx,hcell,_⟩:=hlr.get (i:=j) (by rw [<- HPl.o];exact hjp);obtain ⟨e0,e1⟩:=hcell _ hlr;rcases hcg:lcs.getD j default with ⟨x,t⟩
     rw [hcg] at e0 e1;dsimp only at e0 e1;have hbl7:Below wr.heap.size wr (wr.alloc (.cells #[.int .u64 (x:Int),.string t] 82)):=(Below.refl _ _).alloc (Nat.le_refl _) _;have k9a:(wr.alloc (.cells #[.int .u64 (x:Int),.string t] 82)).cell? ⟨gP,2 * j,none⟩=some u.1:=((HO.later hbl7).cell hu).1;have HRow:=Lib.hid (show OwnG zeE ((wr.alloc (.cells #[.int .u64 (x:Int),.string t] 82)).drew) (gP + 1) u.1 (u.2.1.map cellVs) from (hrow.alloc _).drew);obtain ⟨rv,hrv⟩:=nm_ u.1;rw [<- hrv] at k9 k9a HRow;have HRv:=Lib.hid hrv;have hne9:=Lib.hid (show ∀ q,rv.ownBlock=some q->q≠gP from fun q hq=>by have:=(OwnE.lt hrow (by rw [<- hrv];exact hq)).1;omega);have H1c:=Lib.hid (zcM wr (x,t));have HSz:=Lib.hid (show gP + 1<=wr.heap.size from by have:=HO.lt;omega);clear hrow hlr hcell hbl7 hrv;go_wp2_with fail
     go_region_law (first
       | (refine zoM zcX (gP + 1) rv (cellVs (x, t)) ⟨wr.heap.size, 0, none⟩ (by rfl) (by rfl) HRow.o (by rfl) rfl (by intro z hz; simp [cellVs] at hz; rcases hz with rfl | rfl <;> rfl) H1c.o (by simp; show _ * 24 <= _; omega) (by simp; omega) (by show gP + 1 <= (wr.alloc _).heap.size; rw [World.size_alloc]; have := HSz.o; omega) (gP + 1) _ (Below.refl _ _) (Nat.le_refl _) ?_; intro v9 w9 q1 q2 q3 q4; obtain ⟨ao9, tl9, cap9, hv9⟩ := zuY q1; subst hv9; have c9 : w9.cell? ⟨gP, 2 * j, none⟩ = some rv := (World.cell?_of_block (q2.block gP (by omega))).trans k9a; have f9' : w9.frozen? ⟨gP, 2 * j, none⟩ = false := (World.frozen?_of_block ((q2.block gP (by omega)).trans (Below.heap_alloc wr _ _ (by have := HSz.o; omega)))).trans f9; have Q1 := Lib.hid q1; have Q3 := Lib.hid q3; have Q4 := Lib.hid q4; have Q2 := Lib.hid q2; clear q1 q2 q3 q4))
     all_goals (
       have hz1 : u.2.1.length <= k := by
         have h1 : ∃ t, ts[j]? = some t := ⟨ts[j]'(by rw [HL.o]; exact hjn), by simp [HL.o, hjn]⟩
         obtain ⟨t9, ht9⟩ := h1
         obtain ⟨u9, h2, _, h3⟩ := HRw.o j t9 ht9
         rw [hu] at h2
         injection h2 with h2
         subst h2
         rw [if_neg (by omega)] at h3
         rw [h3]
         exact HWd.o t9 (List.mem_of_getElem? ht9)
       have hal : Below wr.heap.size wr ((wr.alloc (.cells #[.int .u64 (x : Int), .string t] 82)).drew) := ((Below.refl _ _).alloc (Nat.le_refl _) _).drew
       have hgs : w9.grownBy (w9.setCell ⟨gP, 2 * j, none⟩ (.slice ao9 tl9 cap9)) (some gP) := za2 (World.grownBy.refl _ _) _
       have hgt := HO.lt
       have HO9 := Lib.hid ((HO.later hal).grow hu (rv := .slice ao9 tl9 cap9) (c := (x, t)) (w' := w9) (by
         have := Q1.o
         show OwnG zeE w9 (gP + 1) _ ((u.2.1 ++ [(x, t)]).map cellVs)
         rw [List.map_append]; exact this) (by rw [<- HRv.o]; exact Q3.o) (by rw [<- HRv.o]; exact Q4.o) (by omega))
       have HM9 := Lib.hid (show Mdl (w9.setCell ⟨gP, 2 * j, none⟩ (.slice ao9 tl9 cap9)) m v l (rdK l kd n kk).2.1 (rdK l kd n kk).2.2 from by
         have h1 := HM.later hal (Nat.le_refl _)
         have hm := HML.o
         have hp := HGP.o
         exact h1.same ((hgs.block m (by have := Q2.size; have := h1.lt; omega) (fun e => by injection e with e; omega)).trans (Q2.block m (by omega))) (fun q hq => by
           have hv := HVB.o q hq
           exact (hgs.block _ (by have := Q2.size; have := hal.size; omega) (fun e => by injection e with e; omega)).trans (Q2.block _ (by omega))))
       have HG9 := Lib.hid (show w.grownBy (w9.setCell ⟨gP, 2 * j, none⟩ (.slice ao9 tl9 cap9)) (some m) from by
         have h0 := HG.o
         have hp := HGP.o
         exact ⟨hgs.os.trans (Q2.os.trans (hal.os.trans h0.os)), hgs.tape.trans (Q2.tape.trans (hal.tape.trans h0.tape)), hgs.output.trans (Q2.output.trans (hal.output.trans h0.output)), Nat.le_trans h0.size (Nat.le_trans hal.size (Nat.le_trans Q2.size hgs.size)), fun q h1 h2 => by
           exact (hgs.block q (by have := Q2.size; have := hal.size; omega) (fun e => by injection e with e; omega)).trans ((Q2.block q (by omega)).trans ((hal.block q (by have := h0.size; omega)).trans (h0.block q h1 h2)))⟩)
       have HOl9 := Lib.hid (((HOl.later hal (Nat.le_refl _)).grown Q3.o (fun q h1 h2 => by
         exact HAp.o u (List.mem_of_getElem? hu) q (by rw [<- HRv.o]; exact h2.symm) h1)).grown hgs (fun q h1 h2 => by injection h2 with h2; have := (OwnE.lt HOl.o h1).1; have := HGb.o; omega))
       have HRw9 := Lib.hid (show ∀ (i : Nat) (t' : TriB), ts[i]? = some t' -> ∃ u', (us.set j ((.slice ao9 tl9 cap9, (u.2.1 ++ [(x, t)], u.2.2)) : TriB))[i]? = some u' /\ u'.2.2 = t'.2.2 /\ u'.2.1 = if i < j + 1 then t'.2.1 ++ [lcs.getD i default] else t'.2.1 from fun i t' hi => by
         obtain ⟨u', h1, h2, h3⟩ := HRw.o i t' hi
         by_cases hij : i = j
         · subst hij
           rw [hu] at h1
           injection h1 with h1
           subst h1
           rw [if_neg (by omega)] at h3
           refine ⟨_, List.getElem?_set_self (by rw [HLu.o]; exact hjn), h2, ?_⟩
           rw [if_pos (by omega), hcg]
           show u.2.1 ++ _ = _
           rw [h3]
         · refine ⟨u', by rw [List.getElem?_set_ne (by omega)]; exact h1, h2, ?_⟩
           rw [h3]
           by_cases h5 : i < j
           · rw [if_pos h5, if_pos (by omega)]
           · rw [if_neg h5, if_neg (by omega)])
       have HAp9 := Lib.hid (show ∀ u' ∈ us.set j ((.slice ao9 tl9 cap9, (u.2.1 ++ [(x, t)], u.2.2)) : TriB), ∀ q, u'.1.ownBlock = some q -> lv.ownBlock ≠ some q from fun u' hu' q h1 h2 => by
         rcases List.mem_or_eq_of_mem_set hu' with h3 | rfl
         · exact HAp.o u' h3 q h1 h2
         · rcases Q4.o with h4 | h4
           · exact HAp.o u (List.mem_of_getElem? hu) q (by rw [<- HRv.o, <- h4]; exact h1) h2
           · have h5 := h4 q h1
             have h6 := (OwnE.lt HOl.o h2).2
             have h7 := hal.size
             omega)
       have HLu9 := Lib.hid (show (us.set j ((.slice ao9 tl9 cap9, (u.2.1 ++ [(x, t)], u.2.2)) : TriB)).length = n by rw [List.length_set]; exact HLu.o)
       clear Q1 Q2 Q3 Q4 hal hgs hgt HO HM HG HOl HRw HAp HLu k9 k9a c9 f9 f9' e0 e1 hi7 hidx hcg hu hwu
       go_wp2
       go_roundw
       case rel => exact ⟨j + 1, _, by omega, by go_num, HM9, HG9, HO9, HLu9, HOl9, HRw9, HAp9⟩
       case measure => simp [intOf]; omega)
    obtain rfl:j=p:=(by omega);have d2:decide ((j:Int) < (j:Int))=false:=decide_eq_false (by omega);have hkd:(kindsL cs).drop k=kd :: (kindsL cs).drop (k + 1):=by
     have hkl:k < (kindsL cs).length:=(by unfold kindsL;rw [List.length_map];exact hkc);have he:(kindsL cs)[k]?=some kd:=by
      have:=HCG.o;simp [List.getD,hkc] at this;unfold kindsL;rw [List.getElem?_map,List.getElem?_eq_getElem hkc,this];rfl
     rw [List.drop_eq_getElem_cons hkl,(List.getElem?_eq_some_iff.1 he).2]
    obtain ⟨done,hdl,hra,hRd⟩:=HJ.o (by first | trivial | rfl);rw [hkd] at hRd
    have HWd9 := Lib.hid (show ∀ u ∈ us, u.2.1.length <= k + 1 from fun u hu => by
      obtain ⟨i, hi⟩ := List.getElem?_of_mem hu
      have hin : i < n := by rw [<- HLu.o]; exact (List.getElem?_eq_some_iff.1 hi).1
      obtain ⟨u', h1, _, h3⟩ := HRw.o i (ts[i]'(by rw [HL.o]; exact hin)) (by simp [HL.o, hin])
      rw [hi] at h1
      injection h1 with h1
      subst h1
      have h4 := HWd.o (ts[i]'(by rw [HL.o]; exact hin)) (List.getElem_mem _)
      rw [h3]
      split
      · rw [List.length_append, List.length_singleton]; omega
      · omega)
    have HI9 := Lib.hid (show (rdK l kd n kk).2.2 ≠ 0 -> R.2.1 = (rdK l kd n kk).2.1 /\ R.2.2 = (rdK l kd n kk).2.2 from fun h => by
      rw [hRd, zmE h]; exact ⟨rfl, rfl⟩)
    have HJ9 := Lib.hid (show (rdK l kd n kk).2.2 = 0 -> ∃ done, done.length = k + 1 /\ zh7 us done /\ R = zcC (fun a b => decide (cmp a b < 0)) l n done ((kindsL cs).drop (k + 1)) (rdK l kd n kk).2.1 from fun h => by
      refine ⟨done ++ [(rdK l kd n kk).1], by rw [List.length_append, List.length_singleton, hdl], ?_, by rw [hRd, zkQ h]⟩
      have hce := hcl h
      obtain ⟨_, _, _, _, hlen, _⟩ := zn1 HKk.o h
      intro i u hi
      have hin : i < n := by rw [<- HLu.o]; exact (List.getElem?_eq_some_iff.1 hi).1
      obtain ⟨u', h1, h2, h3⟩ := HRw.o i (ts[i]'(by rw [HL.o]; exact hin)) (by simp [HL.o, hin])
      rw [hi] at h1
      injection h1 with h1
      subst h1
      obtain ⟨r1, r2, r3⟩ := hra i (ts[i]'(by rw [HL.o]; exact hin)) (by simp [HL.o, hin])
      have hpl : lcs.length = n := by
        have : (cesL lcs).length = n := by rw [hce]; omega
        rw [za8] at this
        exact this
      rw [if_pos (by rw [HPl.o, hpl]; exact hin)] at h3
      refine ⟨?_, by rw [h2]; exact r2, by rw [h3]; exact r3.snoc9 (HCl.get (by rw [hpl]; exact hin))⟩
      rw [h3, zkF, r1, List.map_append, List.map_singleton, <- hce, zm6 (by rw [hpl]; exact hin)])
    clear hRd hra hkd HI HJ HRw HAp HOl HCl hcl hjp;go_wp2;go_roundw
    case rel=>exact ⟨k + 1,_,_,us,by omega,by go_num,HM,HG,HO,HLu,HWd9,HI9,HJ9⟩
    simp [intOf];omega
   have hq:((x:Int) == 0)=false:=(by rw [beq_eq_false_iff_ne];omega);obtain ⟨r1,r2⟩:=HI.o hx;have HF:=Lib.hid (show TakeR10 w m v l R (.returned v7) wr from ⟨v7,rfl,⟨_,_,_,HV7.o⟩,HG.o,by rw [r1,r2];exact HM.o,fun h=>absurd (r2.symm.trans h) hx⟩);clear r1 r2 hx HM HG HO HL HWd HI HJ;generalize wr=wo at *;go_wp2;go_loopw [11] (fun i wi=>i=.int .i64 0/\wi=wo) (fun _ _=>0)
   case atStart=>exact ⟨rfl,rfl⟩
   obtain ⟨rfl,rfl⟩:=hrel;have hor:(0 < n/\decide (0 < n)=true/\decide ((0:Int) < (n:Int))=true)∨(¬ 0 < n/\decide (0 < n)=false/\decide ((0:Int) < (n:Int))=false):=by
    by_cases h:0 < n
    ·exact .inl ⟨h,decide_eq_true h,decide_eq_true (by omega)⟩
    exact .inr ⟨h,decide_eq_false h,decide_eq_false (by omega)⟩
   have hor2:(1 < n/\decide (1 < n)=true/\decide ((1:Int) < (n:Int))=true)∨(¬ 1 < n/\decide (1 < n)=false/\decide ((1:Int) < (n:Int))=false):=by
    by_cases h:1 < n
    ·exact .inl ⟨h,decide_eq_true h,decide_eq_true (by omega)⟩
    exact .inr ⟨h,decide_eq_false h,decide_eq_false (by omega)⟩
   rcases hor with ⟨d4,d5,d7⟩ | ⟨d4,d5,d7⟩
   all_goals (
     go_wp2
     generalize wr = wo at *
     go_loopw [12] (fun i wi => i = .int .i64 1 /\ wi = wo) (fun _ _ => 0)
     case atStart => exact ⟨rfl, rfl⟩
     case round =>
       obtain ⟨rfl, rfl⟩ := hrel
       rcases hor2 with ⟨d8, d6, d9⟩ | ⟨d8, d6, d9⟩
       all_goals (first | (exfalso; omega) | (
         go_wp2
         go_ret
         exact HF.o)))
  obtain rfl:k=K:=by omega
  have d1:decide ((k:Int) < (k:Int))=false:=decide_eq_false (by omega);by_cases hx:x=0
  ·subst hx;obtain ⟨done,hdl,hra,hRd⟩:=HJ.o (by first | trivial | rfl);rw [List.drop_of_length_le (by unfold kindsL;rw [List.length_map,<- HKn.o];exact Nat.le_refl _),zmD] at hRd;have HRf:=Lib.hid (show R=zc7 (fun a b=>decide (cmp a b < 0)) l n done [] n kk from hRd);have HRa:=Lib.hid hra;have HI0:=Lib.hid (show (0:Nat)≠0->R.2.1=kk/\R.2.2=0 from fun h=>absurd rfl h);have HJ0:=Lib.hid (show (0:Nat)=0->∃ ws:List Int,ws.length=0/\(∀ x ∈ ws,inW x)/\(∀ (j:Nat) (u:TriB),ts[j]?=some u->j < 0->u.2.2=ws.getD j 0)/\R=zc7 (fun a b=>decide (cmp a b < 0)) l n done ws (n - 0) kk from fun _=>⟨[],rfl,fun x hx=>absurd hx (by simp),fun j u _ h=>absurd h (by omega),HRf.o⟩);have HS0:=Lib.hid (show ∀ (j:Nat) (t:TriB),ts[j]?=some t->∃ u,ts[j]?=some u/\u.2.1=t.2.1 from fun j t h=>⟨t,h,rfl⟩);clear hRd hra HI HJ HRf hlt;go_wp2
   go_loopw [11] (fun i wi => ∃ (i9 x q : Nat) (us : List TriB), i9 <= n /\ i = .int .i64 i9 /\ Hid (Mdl wi m v l q x) /\ Hid (w.grownBy wi (some m)) /\ Hid (OwnM wi w.heap.size gP us) /\ Hid (us.length = n) /\ Hid (∀ (j : Nat) (t : TriB), ts[j]? = some t -> ∃ u, us[j]? = some u /\ u.2.1 = t.2.1) /\ Hid (x ≠ 0 -> R.2.1 = q /\ R.2.2 = x) /\
     Hid (x = 0 -> ∃ ws : List Int, ws.length = i9 /\ (∀ x ∈ ws, inW x) /\ (∀ (j : Nat) (u : TriB), us[j]? = some u -> j < i9 -> u.2.2 = ws.getD j 0) /\ R = zc7 (fun a b => decide (cmp a b < 0)) l n done ws (n - i9) q)) (fun i _ => n - (intOf i).toNat)
   case atStart=>exact ⟨0,0,kk,ts,by omega,rfl,HM,HG,HO,HL,HS0,HI0,Lib.hid (fun _=>HJ0.o (by first | trivial | rfl))⟩
   clear HM HG HO HI0 HJ0 HS0;obtain ⟨i9,x,q,us,hi9,rfl,HM,HG,HO,HLu,HSa,HI,HJ⟩:=hrel;have c2:=HM.cell2;by_cases hx:x=0
   ·subst hx;have c2:wr.cell? ⟨m,2,none⟩=some (.int .i64 0):=c2;by_cases hin:i9 < n
    ·have d5:decide ((i9:Int) < (n:Int))=true:=decide_eq_true (by omega);obtain ⟨u,hu⟩:∃ u,us[i9]?=some u:=⟨us[i9]'(by rw [HLu.o];exact hin),by simp [HLu.o,hin]⟩;have hi7:∀ u9,(Instr.indexAt 43 v7 (.int .i64 (i9:Int))).run prog u9=.ok (.pointer (some ⟨gP,2 * i9,none⟩)) u9:=by
      have:=HO.idx (i:=i9) (by rw [HLu.o];exact hin);rw [HLu.o,<- HV7.o] at this;exact this
     go_wp2_with fail;refine (zp8 m v l q wr HM.o).mono ?_;rintro e w5 ⟨rfl,hg5,hM5⟩
     have HO5 := Lib.hid (HO.aside hg5 (fun q9 hq => by
       injection hq with hq
       subst hq
       refine ⟨by have := HML.o; have := HGP.o; omega, fun t ht e => ?_⟩
       obtain ⟨i, hi⟩ := List.getElem?_of_mem ht
       have := (OwnE.lt (HO.rows i t hi) e).1
       have := HML.o
       have := HGP.o
       omega))
     have HG5:=Lib.hid (HG.trans hg5);have HM5:=Lib.hid hM5;obtain ⟨ws,hwl,hww,hwe,hRw⟩:=HJ.o (by first | trivial | rfl);have HWw:=Lib.hid hww;rw [show n - i9=(n - (i9 + 1)) + 1 from by omega] at hRw;have HE1:=Lib.hid (fun h=>hRw.trans (zmC h));have HE2:=Lib.hid (fun h h2=>hRw.trans (zkP h h2));have HE3:=Lib.hid (fun h h2=>hRw.trans (zqE h h2));have HWl:=Lib.hid hwl;have HWe:=Lib.hid hwe;have hyl:=zxH (l:=l) (k:=q) (most:=18446744073709551615);rcases hr:rdU l q 18446744073709551615 with ⟨y,k5,x5⟩
     rw [hr] at HM5 HE1 HE2 HE3 hyl;dsimp only at HM5 HE1 HE2 HE3 hyl ⊢;obtain ⟨z,hz⟩:=nm_ (zag y);have HZw:=Lib.hid (show inW z from by rw [hz];exact ziR (by omega));clear hyl;rw [<- hz] at HE2 HE3 ⊢;obtain ⟨_,c9,_,f9⟩:=HO5.cell hu;have HO6:=Lib.hid (HO5.put hu z);have hgs:w5.grownBy (w5.setCell ⟨gP,2 * i9 + 1,none⟩ (.int .i64 z)) (some gP):=za2 (World.grownBy.refl _ _) _;have hun:(us.set i9 (u.1,(u.2.1,z)))[i9]?=some (u.1,(u.2.1,z)):=List.getElem?_set_self (by rw [HLu.o];exact hin);obtain ⟨_,c9',_,_⟩:=HO6.cell hun
     have HM6 := Lib.hid (show Mdl (w5.setCell ⟨gP, 2 * i9 + 1, none⟩ (.int .i64 z)) m v l k5 x5 from by
       have h1 := HM5.o
       have hm := HML.o
       have hp := HGP.o
       exact h1.same (hgs.block m h1.lt (fun e => by injection e with e; omega)) (fun q hq => by
         have hv := HVB.o q hq
         exact hgs.block _ (h1.rd.block hq) (fun e => by injection e with e; omega)))
     have HG6 := Lib.hid (show w.grownBy (w5.setCell ⟨gP, 2 * i9 + 1, none⟩ (.int .i64 z)) (some m) from by
       have h0 := HG5.o
       have hp := HGP.o
       exact ⟨hgs.os.trans h0.os, hgs.tape.trans h0.tape, hgs.output.trans h0.output, Nat.le_trans h0.size hgs.size, fun q h1 h2 => (hgs.block q (by have := h0.size; omega) (fun e => by injection e with e; omega)).trans (h0.block q h1 h2)⟩)
     obtain ⟨ok,hok⟩:∃ ok:Bool,(z != 0)=ok:=⟨_,rfl⟩;have MM:=Lib.hid (zbQ m v l k5 x5 (w5.setCell ⟨gP,2 * i9 + 1,none⟩ (.int .i64 z)) HM6.o ok 2);have HOk:=Lib.hid hok;clear hg5 hM5 hRw hwl hwe hww hr HM HG HO HI HJ hz c2;go_wp2_with fail;refine MM.mono ?_;rintro e w8 ⟨rfl,hg8,hM8⟩
     have HO8 := Lib.hid (HO6.aside hg8 (fun q9 hq => by
       injection hq with hq
       subst hq
       refine ⟨by have := HML.o; have := HGP.o; omega, fun t ht e => ?_⟩
       obtain ⟨i, hi⟩ := List.getElem?_of_mem ht
       have := (OwnE.lt (HO6.rows i t hi) e).1
       have := HML.o
       have := HGP.o
       omega))
     have HG8:=Lib.hid (HG6.trans hg8);have HLu8:=Lib.hid (show (us.set i9 ((u.1,(u.2.1,z)):TriB)).length=n by rw [List.length_set];exact HLu.o)
     have HSa8 := Lib.hid (show ∀ (j : Nat) (t : TriB), ts[j]? = some t -> ∃ u', (us.set i9 ((u.1, (u.2.1, z)) : TriB))[j]? = some u' /\ u'.2.1 = t.2.1 from fun j t hj => by
       obtain ⟨u', h1, h2⟩ := HSa.o j t hj
       by_cases hji : j = i9
       · subst hji
         rw [hu] at h1
         injection h1 with h1
         subst h1
         exact ⟨_, hun, h2⟩
       · exact ⟨u', by rw [List.getElem?_set_ne (by omega)]; exact h1, h2⟩)
     have hokz:ok=true ↔ z≠0:=(by rw [<- HOk.o,bne_iff_ne]);obtain ⟨x',hx'⟩:=nm_ ((if x5=0 then (if ok=true then 0 else 2) else x5));rw [<- hx'] at hM8;have HM8:=Lib.hid hM8
     have HI8 := Lib.hid (show x' ≠ 0 -> R.2.1 = k5 /\ R.2.2 = x' from fun h => by
       by_cases h5 : x5 = 0
       · rw [if_pos h5] at hx'
         by_cases h6 : ok = true
         · rw [if_pos h6] at hx'; exact absurd hx' h
         · rw [if_neg h6] at hx'
           rw [HE2.o h5 (Decidable.of_not_not (fun h7 => h6 (hokz.2 h7))), hx']
           exact ⟨rfl, rfl⟩
       · rw [if_neg h5] at hx'
         rw [HE1.o h5, hx']
         exact ⟨rfl, rfl⟩)
     have HJ8 := Lib.hid (show x' = 0 -> ∃ ws : List Int, ws.length = i9 + 1 /\ (∀ x ∈ ws, inW x) /\ (∀ (j : Nat) (u' : TriB), (us.set i9 ((u.1, (u.2.1, z)) : TriB))[j]? = some u' -> j < i9 + 1 -> u'.2.2 = ws.getD j 0) /\ R = zc7 (fun a b => decide (cmp a b < 0)) l n done ws (n - (i9 + 1)) k5 from fun h => by
       have h5 : x5 = 0 := by
         by_cases h5 : x5 = 0
         · exact h5
         · rw [if_neg h5] at hx'; omega
       have h6 : ok = true := by
         rw [if_pos h5] at hx'
         by_cases h6 : ok = true
         · exact h6
         · rw [if_neg h6] at hx'; omega
       refine ⟨ws ++ [z], by rw [List.length_append, List.length_singleton, HWl.o], fun x hx => by
         rcases List.mem_append.1 hx with hx | hx
         · exact HWw.o x hx
         · rw [List.mem_singleton.1 hx]; exact HZw.o, fun j u' hj hlt9 => ?_, HE3.o h5 (hokz.1 h6)⟩
       by_cases hji : j = i9
       · subst hji
         rw [hun] at hj
         injection hj with hj
         subst hj
         have := HWl.o
         simp [List.getD, <- this]
       · rw [List.getElem?_set_ne (by omega)] at hj
         rw [HWe.o j u' hj (by omega)]
         have := HWl.o
         unfold List.getD
         rw [List.getElem?_append_left (by omega)])
     clear hg8 hM8 hx' hokz hgs hun hu c9 c9' f9 HO5 HG5 HM5 HO6 HM6 HG6 HE1 HE2 HE3 HWl HWe HWw HZw HSa HLu hi7 MM hok;go_wp2;go_roundw
     case rel=>exact ⟨i9 + 1,x',k5,_,by omega,by go_num,HM8,HG8,HO8,HLu8,HSa8,HI8,HJ8⟩
     simp [intOf];omega
    obtain rfl:i9=n:=(by omega);have d5:decide ((i9:Int) < (i9:Int))=false:=decide_eq_false (by omega);obtain ⟨ws,hwl,hww,hwe,hRw⟩:=HJ.o (by first | trivial | rfl);rw [Nat.sub_self,zmB] at hRw;have hL:∀ (i:Nat) (u:TriB),us[i]?=some u->i < i9/\cesL u.2.1=(btRows i9 done).getD i []/\CES u.2.1/\u.2.2=ws.getD i 0:=fun i u hi=>by
     have hin:i < i9:=(by rw [<- HLu.o];exact (List.getElem?_eq_some_iff.1 hi).1);obtain ⟨u',h1,h2⟩:=HSa.o i (ts[i]'(by rw [HL.o];exact hin)) (by simp [HL.o,hin]);rw [hi] at h1;injection h1 with h1
     subst h1;obtain ⟨r1,r2,r3⟩:=HRa.o i (ts[i]'(by rw [HL.o];exact hin)) (by simp [HL.o,hin]);refine ⟨hin,?_,by rw [h2];exact r3,hwe i u hi hin⟩;rw [h2,r1];unfold btRows;simp [List.getD,hin]
    have hLl:=zcE i9 done;obtain ⟨L,hLd⟩:=nm_ (btRows i9 done);rw [<- hLd] at hL hLl hRw
    have HEnd := Lib.hid (show btAsc (fun a b => decide (cmp a b < 0)) L = true -> ∀ wz, w.grownBy wz (some m) -> Mdl wz m v l q 0 -> OwnM wz w.heap.size gP us -> TakeR10 w m v l R (.returned v7) wz from fun ha wz g1 g2 g3 => by
      rw [if_neg (by rw [ha]; simp)] at hRw
      refine ⟨v7, rfl, ⟨_, _, _, HV7.o⟩, g1, by rw [hRw]; exact g2, fun _ => ⟨us.map (·.2), ?_, ?_, ?_⟩⟩
      · have := g3.new
        rw [HLu.o, <- HV7.o] at this
        exact this
      · intro p hp
        obtain ⟨u, hu, rfl⟩ := List.mem_map.1 hp
        obtain ⟨i, hi⟩ := List.getElem?_of_mem hu
        obtain ⟨a1, a2, a3, a4⟩ := hL i u hi
        refine ⟨a3, ?_⟩
        rw [a4]
        have hiw : i < ws.length := by omega
        have e : ws.getD i 0 = ws[i] := by simp [List.getD, hiw]
        rw [e]
        exact hww _ (List.getElem_mem hiw)
      · rw [hRw]
        show psL (us.map (·.2)) = L.zip ws
        unfold psL
        rw [List.map_map]
        apply List.ext_getElem
        · rw [List.length_map, List.length_zip, HLu.o, hLl, hwl, Nat.min_self]
        · intro i h1 h2
          have hi : i < us.length := by simpa using h1
          obtain ⟨a1, a2, a3, a4⟩ := hL i us[i] (by simp [hi])
          rw [List.getElem_map, List.getElem_zip]
          have e1 : L.getD i [] = L[i]'(by omega) := by
            have : i < L.length := by omega
            simp [List.getD, this]
          have e2 : ws.getD i 0 = ws[i]'(by omega) := by
            have : i < ws.length := by omega
            simp [List.getD, this]
          rw [<- e1, <- e2, <- a2, <- a4]; rfl)
    have HNo := Lib.hid (show btAsc (fun a b => decide (cmp a b < 0)) L = false -> R.2.1 = q /\ R.2.2 = 9 from fun ha => by
      rw [hRw, if_pos ha]; exact ⟨rfl, rfl⟩)
    have HLa:=Lib.hid hL;have HLl:=Lib.hid hLl;have HQ0:=Lib.hid (show (0:Nat)≠0->R.2.1=q/\R.2.2=0 from fun h=>absurd rfl h);have HP0:=Lib.hid (show (0:Nat)=0->∀ j,j + 1 < 1->(fun a b=>decide (cmp a b < 0)) (L.getD j []) (L.getD (j + 1) [])=true from fun _ j hj=>absurd hj (by omega));clear hRw hwl hww hwe hL hLl hLd hin HI HJ c2 HSa HRa HL HWd hi9 hdl;go_wp2
    go_loopw [12] (fun i wi => ∃ (p x : Nat), 1 <= p /\ i = .int .i64 p /\ Hid (Mdl wi m v l q x) /\ Hid (w.grownBy wi (some m)) /\ Hid (OwnM wi w.heap.size gP us) /\ Hid (x ≠ 0 -> R.2.1 = q /\ R.2.2 = x) /\
      Hid (x = 0 -> ∀ j, j + 1 < p -> (fun a b => decide (cmp a b < 0)) (L.getD j []) (L.getD (j + 1) []) = true)) (fun i _ => i9 - (intOf i).toNat)
    case atStart=>exact ⟨1,0,by omega,rfl,HM,HG,HO,HQ0,Lib.hid (fun _=>HP0.o (by first | trivial | rfl))⟩
    clear HM HG HO HQ0 HP0;obtain ⟨p,x,hp1,rfl,HM,HG,HO,HI,HJ⟩:=hrel;have c2:=HM.cell2;by_cases hpn:p < i9
    ·have d8:decide ((p:Int) < (i9:Int))=true:=decide_eq_true (by omega);by_cases hx:x=0
     ·subst hx;have c2:wr.cell? ⟨m,2,none⟩=some (.int .i64 0):=c2;obtain ⟨j,hj⟩:∃ j,p=j + 1:=⟨p - 1,by omega⟩;have hjw:IntKind.i64.wrap ((p:Int) - 1)=(j:Int):=(by rw [IntKind.wrap_i64];have:=HO.few;have:=HLu.o;omega);obtain ⟨ua,hua⟩:∃ u,us[j]?=some u:=⟨us[j]'(by rw [HLu.o];omega),List.getElem?_eq_getElem (by rw [HLu.o];omega)⟩;obtain ⟨ub,hub⟩:∃ u,us[p]?=some u:=⟨us[p]'(by rw [HLu.o];omega),List.getElem?_eq_getElem (by rw [HLu.o];omega)⟩;have hia:∀ u9,(Instr.indexAt 43 v7 (.int .i64 (j:Int))).run prog u9=.ok (.pointer (some ⟨gP,2 * j,none⟩)) u9:=by
       have:=HO.idx (i:=j) (by rw [HLu.o];omega);rw [HLu.o,<- HV7.o] at this;exact this
      have hib:∀ u9,(Instr.indexAt 43 v7 (.int .i64 (p:Int))).run prog u9=.ok (.pointer (some ⟨gP,2 * p,none⟩)) u9:=by
       have:=HO.idx (i:=p) (by rw [HLu.o];omega);rw [HLu.o,<- HV7.o] at this;exact this
      obtain ⟨ka,_,_,_⟩:=HO.cell hua;obtain ⟨kb,_,_,_⟩:=HO.cell hub;obtain ⟨_,la2,la3,_⟩:=HLa.o j ua hua;obtain ⟨_,lb2,lb3,_⟩:=HLa.o p ub hub;have hra:=(HO.rows j ua hua).rd (by have:=HO.wide ua (List.mem_of_getElem? hua);omega);have hrb:=(HO.rows p ub hub).rd (by have:=HO.wide ub (List.mem_of_getElem? hub);omega);obtain ⟨z,hz⟩:=nm_ (cmp (cesL ua.2.1) (cesL ub.2.1));have CP:=Lib.hid (fun wz (hb:Below wr.heap.size wr wz)=>HCp.o wz ua.1 ub.1 ua.2.1 ub.2.1 (HG.trans (below_grown hb _)) (hra.later hb (Nat.le_refl _)) (hrb.later hb (Nat.le_refl _)) la3 lb3);rw [<- hz] at CP;obtain ⟨ra,hra9⟩:=nm_ ua.1;obtain ⟨rb,hrb9⟩:=nm_ ub.1;rw [<- hra9] at ka CP;rw [<- hrb9] at kb CP;have hzL:(fun a b=>decide (cmp a b < 0)) (L.getD j []) (L.getD (j + 1) [])=decide (z < 0):=by
       show decide (cmp (L.getD j []) (L.getD (j + 1) []) < 0)=_;rw [<- la2,<- hj,<- lb2,hz]
      have HZ:=Lib.hid hzL;have HJp:=Lib.hid hj;obtain ⟨ok,hok⟩:∃ ok:Bool,decide (z < 0)=ok:=⟨_,rfl⟩;have HOk:=Lib.hid hok;clear hj hz la2 la3 lb2 lb3 hra hrb hra9 hrb9 hua hub hzL;go_wp2_with fail
      go_region_with (first
        | (go_at_call 112
           refine (CP.o _ ?hcp).mono ?_
           case hcp => exact (Below.refl _ _).drew
           rintro e w7 ⟨rfl, hb7⟩
           have hM7 := (HM.drew).later hb7 (Nat.le_refl _))
        | (go_at_call 196
           try rw [hok]
           refine (zbQ m v l q 0 w7 hM7 ok 9).mono ?_
           rintro e w8 ⟨rfl, hg8, hM8⟩))
      all_goals (
        have HO8 := Lib.hid ((HO.later (((Below.refl _ _).drew).trans hb7)).aside hg8 (fun q9 hq => by
          injection hq with hq
          subst hq
          refine ⟨by have := HML.o; have := HGP.o; omega, fun t ht e => ?_⟩
          obtain ⟨i, hi⟩ := List.getElem?_of_mem ht
          have := (OwnE.lt (HO.rows i t hi) e).1
          have := HML.o
          have := HGP.o
          omega))
        have HG8 := Lib.hid (((HG.trans_drew).trans (below_grown hb7 _)).trans hg8)
        have hM8 : Mdl w8 m v l q (if ok = true then 0 else 9) := by first | exact hM8 | simpa using hM8
        obtain ⟨x', hx'⟩ : ∃ x', x' = (if ok = true then 0 else 9) := ⟨_, rfl⟩
        rw [<- hx'] at hM8
        have HM8 := Lib.hid hM8
        have HI8 := Lib.hid (show x' ≠ 0 -> R.2.1 = q /\ R.2.2 = x' from fun h => by
          by_cases h6 : ok = true
          · rw [if_pos h6] at hx'; exact absurd hx' h
          · rw [if_neg h6] at hx'
            rw [hx']
            refine HNo.o ?_
            cases ha : btAsc (fun a b => decide (cmp a b < 0)) L with
            | false => rfl
            | true =>
              have h7 := (zeG _ L).1 ha j (by rw [HLl.o, <- HJp.o]; exact hpn)
              try dsimp only at h7
              rw [HZ.o, HOk.o] at h7
              exact absurd h7 h6)
        have HJ8 := Lib.hid (show x' = 0 -> ∀ j', j' + 1 < p + 1 -> (fun a b => decide (cmp a b < 0)) (L.getD j' []) (L.getD (j' + 1) []) = true from fun h j' hj' => by
          have h6 : ok = true := by
            by_cases h6 : ok = true
            · exact h6
            · rw [if_neg h6] at hx'; omega
          by_cases hjj : j' = j
          · rw [hjj]; dsimp only; rw [HZ.o, HOk.o]; exact h6
          · exact HJ.o (by first | trivial | rfl) j' (by have := HJp.o; omega))
        clear hM8
        clear hg8 hM8 hx' hb7 hM7 HM HG HO HI HJ CP ka kb hia hib c2 HZ HJp hjw hok HOk
        go_wp2
        go_roundw
        case rel => exact ⟨p + 1, x', by omega, by go_num, HM8, HG8, HO8, HI8, HJ8⟩
        case measure => simp [intOf]; omega)
     have hq:((x:Int) == 0)=false:=(by rw [beq_eq_false_iff_ne];omega);obtain ⟨r1,r2⟩:=HI.o hx;have HF:=Lib.hid (show TakeR10 w m v l R (.returned v7) wr from ⟨v7,rfl,⟨_,_,_,HV7.o⟩,HG.o,by rw [r1,r2];exact HM.o,fun h=>absurd (r2.symm.trans h) hx⟩);clear r1 r2 hx HM HG HO HI HJ;go_wp2;go_ret;exact HF.o
    have d8:decide ((p:Int) < (i9:Int))=false:=decide_eq_false (by omega)
    have HF := Lib.hid (show TakeR10 w m v l R (.returned v7) wr from by
      by_cases hx : x = 0
      · subst hx
        refine HEnd.o ((zeG _ L).2 (fun j hj => HJ.o rfl j (by have := HLl.o; omega))) wr HG.o HM.o HO.o
      · obtain ⟨r1, r2⟩ := HI.o hx
        exact ⟨v7, rfl, ⟨_, _, _, HV7.o⟩, HG.o, by rw [r1, r2]; exact HM.o, fun h => absurd (r2.symm.trans h) hx⟩)
    clear HM HG HO HI HJ c2;go_wp2;go_ret;exact HF.o
   have hq:((x:Int) == 0)=false:=(by rw [beq_eq_false_iff_ne];omega);obtain ⟨r1,r2⟩:=HI.o hx;have HF:=Lib.hid (show TakeR10 w m v l R (.returned v7) wr from ⟨v7,rfl,⟨_,_,_,HV7.o⟩,HG.o,by rw [r1,r2];exact HM.o,fun h=>absurd (r2.symm.trans h) hx⟩);clear r1 r2 hx HM HG HO HI HJ HSa;generalize wr=wo at *;have hor:(i9 < n/\decide (i9 < n)=true/\decide ((i9:Int) < (n:Int))=true)∨(¬ i9 < n/\decide (i9 < n)=false/\decide ((i9:Int) < (n:Int))=false):=by
    by_cases h:i9 < n
    ·exact .inl ⟨h,decide_eq_true h,decide_eq_true (by omega)⟩
    exact .inr ⟨h,decide_eq_false h,decide_eq_false (by omega)⟩
   have hor2:(1 < n/\decide (1 < n)=true/\decide ((1:Int) < (n:Int))=true)∨(¬ 1 < n/\decide (1 < n)=false/\decide ((1:Int) < (n:Int))=false):=by
    by_cases h:1 < n
    ·exact .inl ⟨h,decide_eq_true h,decide_eq_true (by omega)⟩
    exact .inr ⟨h,decide_eq_false h,decide_eq_false (by omega)⟩
   rcases hor with ⟨d4,d5,d7⟩ | ⟨d4,d5,d7⟩
   all_goals (
     go_wp2
     go_loopw [12] (fun i wi => i = .int .i64 1 /\ wi = wo) (fun _ _ => 0)
     case atStart => exact ⟨rfl, rfl⟩
     case round =>
       obtain ⟨rfl, rfl⟩ := hrel
       rcases hor2 with ⟨d8, d6, d9⟩ | ⟨d8, d6, d9⟩
       all_goals (
         go_wp2
         go_ret
         exact HF.o))
  have hq:((x:Int) == 0)=false:=by rw [beq_eq_false_iff_ne];omega
  obtain ⟨r1,r2⟩:=HI.o hx;have HF:=Lib.hid (show TakeR10 w m v l R (.returned v7) wr from ⟨v7,rfl,⟨_,_,_,HV7.o⟩,HG.o,by rw [r1,r2];exact HM.o,fun h=>absurd (r2.symm.trans h) hx⟩);clear r1 r2 hx HM HG HO HL HWd HI HJ;generalize wr=wo at *;go_wp2;go_loopw [11] (fun i wi=>i=.int .i64 0/\wi=wo) (fun _ _=>0)
  case atStart=>exact ⟨rfl,rfl⟩
  obtain ⟨rfl,rfl⟩:=hrel;have hor:(0 < n/\decide (0 < n)=true/\decide ((0:Int) < (n:Int))=true)∨(¬ 0 < n/\decide (0 < n)=false/\decide ((0:Int) < (n:Int))=false):=by
   by_cases h:0 < n
   ·exact .inl ⟨h,decide_eq_true h,decide_eq_true (by omega)⟩
   exact .inr ⟨h,decide_eq_false h,decide_eq_false (by omega)⟩
  have hor2:(1 < n/\decide (1 < n)=true/\decide ((1:Int) < (n:Int))=true)∨(¬ 1 < n/\decide (1 < n)=false/\decide ((1:Int) < (n:Int))=false):=by
   by_cases h:1 < n
   ·exact .inl ⟨h,decide_eq_true h,decide_eq_true (by omega)⟩
   exact .inr ⟨h,decide_eq_false h,decide_eq_false (by omega)⟩
  rcases hor with ⟨d4,d5,d7⟩ | ⟨d4,d5,d7⟩
  all_goals (
    go_wp2
    generalize wr = wo at *
    go_loopw [12] (fun i wi => i = .int .i64 1 /\ wi = wo) (fun _ _ => 0)
    case atStart => exact ⟨rfl, rfl⟩
    case round =>
      obtain ⟨rfl, rfl⟩ := hrel
      rcases hor2 with ⟨d8, d6, d9⟩ | ⟨d8, d6, d9⟩
      all_goals (first | (exfalso; omega) | (
        go_wp2
        go_ret
        exact HF.o)))
 have HRb:=Lib.hid (show bat (fun a b=>decide (cmp a b < 0)) E l (kindsL cs) k0=([],k0,E) from by unfold bat;rw [if_pos hE]);have hq:((E:Int) != 0)=true:=by rw [bne_iff_ne];omega
 have HEn:=Lib.hid hE;have HM:=Lib.hid hM;have HCk:=Lib.hid hCk;clear hM hCk hsv hTk hC hK hE;go_enter func143,ntmps143;go_wp2_with fail;refine HCk.mono ?_;rintro e w1 ⟨rfl,hb⟩;have HG1:=Lib.hid (below_grown hb (some m));have HM1:=Lib.hid (HM.later hb (Nat.le_refl _));clear hb HCk HM;go_wp2_with fail;refine (zcG m v l k0 w1 HM1.o false E).mono ?_;rintro e w2 ⟨rfl,hg2,hM2⟩;have HG2:=Lib.hid (HG1.trans hg2);have HM2:=Lib.hid (show Mdl w2 m v l k0 E from hM2);clear hg2 hM2;go_wp2;go_ret;exact ⟨_,rfl,⟨_,_,_,rfl⟩,HG2.o,by rw [HRb.o];exact HM2.o,fun h=>by rw [HRb.o] at h;exact absurd h HEn.o⟩
/- -/
open Go.Shelf
theorem zrL {w:World} {m:Nat} {v sv:Value} {l:Bs} {k x:Nat} {cs:List ColB} (hM:Mdl w m v l k x) (h:RdC w sv cs):∀ i,i < cs.length->(adr sv (i * 2)).block≠m:=by
 intro i hi e;obtain ⟨ao,cap,hv,_⟩:=hM.rd.shape;obtain ⟨b,o,ha,hc⟩:=RdG.at h (i:=i) (by rw [List.length_map];exact hi);have h0:=hc 0 (.string (cs.getD i default).1) (by rw [getD_map colV cs i hi default];rfl);have ha':adr sv (i * 2)=⟨b,o,none⟩:=ha;rw [ha'] at e;have e:b=m:=e;subst e;rw [Nat.add_zero,cell_of_row _ _ _ _ _ _ hM.blk,hv] at h0;rcases o with _ | _ | _ | o
 ·simp at h0
 ·simp at h0
 ·simp at h0
 simp at h0
theorem RdC.aside {w w':World} {m:Nat} {v sv:Value} {l:Bs} {k x:Nat} {cs:List ColB} (hM:Mdl w m v l k x) (h:RdC w sv cs) (hg:w.grownBy w' (some m)):RdC w' sv cs :=
 RdG.same h fun i hi=>hg.block _ (RdG.block h zcS hi) (fun e=>by
  injection e with e
  exact zrL hM h i (by rw [List.length_map] at hi;exact hi) e)
