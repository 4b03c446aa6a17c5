/- -/
import Derived.Test.YtlapgdocpndfiaaGreatDoorUWire
import Derived.Test.YtlapgdocpndfiaaGreatDoorUCell
import Derived.Test.YtlapgdocpndfiaaGreatDoorShelf5
import Derived.Shelf.Strings.SlTrimAscii
set_option maxHeartbeats 4000000
set_option linter.unusedVariables false
set_option linter.unusedSimpArgs false
set_option maxRecDepth 1000000
namespace Go.Proofs.YtlapgdocpndfiaaGreatDoor
open _root_.Go.Proofs.Tryz
open Go.RowKit Go.Shelf
def lettersL:Bs:=[97,98,99,100,101,102,103,104,105,106,107,108,109,110,111,112,113,114,115,116,117,118,119,120,121,122,48,49,50,51,52,53,54,55,56,57,95]
theorem zrN (c:UInt8):lettersL.contains c=zb4 c.toNat:=by
 have:∀ n:Fin 256,lettersL.contains (UInt8.ofNat n.val)=zb4 n.val:=by decide +kernel
 have h:=this ⟨c.toNat,c.toNat_lt⟩;rwa [UInt8.ofNat_toNat] at h
theorem zoA (l:Bs):(Lib.trimLeftS l lettersL).isEmpty=l.all (fun c=>zb4 c.toNat):=by
 unfold Lib.trimLeftS
 induction l with
 | nil=>rfl
 | cons a r ih =>
  rw [List.dropWhile_cons,List.all_cons,<- zrN a];by_cases ha:lettersL.contains a=true
  ·rw [if_pos ha,ih,ha];rfl
  rw [if_neg ha];simp only [Bool.not_eq_true] at ha;rw [ha];rfl
theorem zrM (s:ByteArray) (l:Bs) (w:World) (h:RdS s l) :
  Calls prog 220 #[.string s,.string ({ data:=#[97,98,99,100,101,102,103,104,105,106,107,108,109,110,111,112,113,114,115,116,117,118,119,120,121,122,48,49,50,51,52,53,54,55,56,57,95] }:ByteArray)] w fun e w'=>e=.returned (.string ⟨(Lib.trimLeftS l lettersL).toArray⟩)/\Below w.heap.size w w':=by
 have c:Calls prog 220 #[.string s,.string ({ data:=#[97,98,99,100,101,102,103,104,105,106,107,108,109,110,111,112,113,114,115,116,117,118,119,120,121,122,48,49,50,51,52,53,54,55,56,57,95] }:ByteArray)] w _:=Any.strings_TrimLeft_laid Tryz.laysTrim (by kernel_rfl) s _ w (by decide) (ascii_of_all (by decide));rw [show s.data.toList=l from by rw [h.eq]] at c;exact c
structure Were (w:World) (c m:Nat) (ah:List Bs):Prop where
 var:w.heap[c]?=some (.cells #[.map (some m)] 299 (0,0))
 set:zdF w m ah
 ne:c≠m
theorem Were.later {w w':World} {c m:Nat} {ah:List Bs} (h:Were w c m ah) {B:Nat} (hb:Below B w w') (hB:w.heap.size<=B):Were w' c m ah :=
 ⟨(hb.block c (Nat.lt_of_lt_of_le (Array.getElem?_eq_some_iff.1 h.var).1 hB)).trans h.var,h.set.later hb hB,h.ne⟩
theorem Were.kept {w w':World} {c m g:Nat} {ah:List Bs} (h:Were w c m ah) (hg:w.grownBy w' (some g)) (h1:c≠g) (h2:m≠g):Were w' c m ah :=
 ⟨(hg.block c (Array.getElem?_eq_some_iff.1 h.var).1 (by simpa using h1)).trans h.var,h.set.kept hg (by simpa using h2),h.ne⟩
theorem Were.alloc {w:World} {c m:Nat} {ah:List Bs} (h:Were w c m ah) (o:Obj):Were (w.alloc o) c m ah:=h.later ((Below.refl w.heap.size w).alloc l_ o) l_
theorem Were.lt {w:World} {c m:Nat} {ah:List Bs} (h:Were w c m ah):c < w.heap.size/\m < w.heap.size:=⟨(Array.getElem?_eq_some_iff.1 h.var).1,h.set.lt⟩
theorem zhH (w:World) :
  Calls prog 167 #[] w fun e w'=>e=.returned (.func (.func 219) #[] #[.pointer (some ⟨w.heap.size + 1,0,none⟩)])/\Were w' (w.heap.size + 1) w.heap.size []/\Below w.heap.size w w':=by
 have hmm:=@run_makeMap prog;have hmf:∀ (fn:Fn) (first cap:Array Value) (w:World),(Instr.makeFunc fn first cap).run prog w=.ok (.func fn first cap) w:=fun _ _ _ _=>rfl;have hs:=zdF.made w;obtain ⟨n0,n1,n2,n3⟩:=new2 w (.map #[] 0) (.cells #[.map (some w.heap.size)] 299);have HS:=h_ (hs.alloc (.cells #[.map (some w.heap.size)] 299));have H2:=h_ n2;have H3:=h_ n3;clear hs n0 n1 n2 n3;go_enter func167,ntmps167;go_wp2;go_ret;exact ⟨rfl,⟨H2.o,HS.o,by omega⟩,H3.o⟩
theorem zE5 (l:Bs) (ah:List Bs):fine l ah=(!l.isEmpty && ((Lib.trimLeftS l lettersL).isEmpty && !ah.contains l)):=by
 unfold fine;rw [zoA]
theorem zjP {w w1 w2:World} {m:Nat} (hb:Below w.heap.size w w1) (hg:w1.grownBy w2 (some m)):w.grownBy w2 (some m) :=
 ⟨hg.os.trans hb.os,hg.tape.trans hb.tape,hg.output.trans hb.output,Nat.le_trans hb.size hg.size,fun j hj hne=>(hg.block j (Nat.lt_of_lt_of_le hj hb.size) hne).trans (hb.block j hj)⟩
theorem Were.put {w w':World} {c m:Nat} {ah ah':List Bs} (h:Were w c m ah) (hs:zdF w' m ah') (hg:w.grownBy w' (some m)):Were w' c m ah' :=
 ⟨(hg.block c (Array.getElem?_eq_some_iff.1 h.var).1 (by simpa using h.ne)).trans h.var,hs,h.ne⟩
theorem zj7 (s:ByteArray) (l:Bs) (c m:Nat) (ah:List Bs) (w:World) (h:RdS s l) (hW:Were w c m ah) (hn:ah.length < 1000) :
  Calls prog 219 #[.string s,.pointer (some ⟨c,0,none⟩)] w fun e w'=>e=.returned (.bool (fine l ah))/\Were w' c m (ah ++ [l])/\w.grownBy w' (some m):=by
 have hd:s.data.toList=l:=by rw [h.eq]
 have hsm:=h.small;have hsz:s.size<=maxLen:=by rw [h.eq];simp [ByteArray.size];unfold maxLen;omega
 have hemp:=h.toList;have HF:=h_ (zE5 l ah);have HD:=h_ hd;have HW:=h_ hW;by_cases hl:l=[]
 ·have q1:(s.toList != [])=false:=by rw [hemp,hl];rfl
  have q2:s.toList.isEmpty=true:=by rw [hemp,hl];rfl
  have c0:=cell_of_one hW.var;have HF2:=h_ (show fine l ah=false by rw [HF.o,hl];rfl);clear HF hl hemp hd hW;go_enter func219,ntmps219;go_wp2_with (at_mapUpdate;refine zf4 m ah HW.set ?_ s hsz ?_ ?_ ?_ ?_)
  ·rfl
  ·rfl
  ·rfl
  ·unfold maxLen;omega
  intro w1 hs1 hg1;rw [HD.o] at hs1;have HS1:=h_ hs1;have HG1:=h_ hg1;clear hs1 hg1 c0;go_wp2;go_ret;exact ⟨by rw [HF2.o];rfl,HW.put HS1.o HG1.o,HG1.o⟩
 have q1:(s.toList != [])=true:=by rw [hemp];simpa using hl
 have q2:s.toList.isEmpty=false:=by rw [hemp];cases l <;> simp_all
 have hle:l.isEmpty=false:=by cases l <;> simp_all
 have hT:=zrM s l w h;obtain ⟨T,hT9⟩:=nm_ (⟨(Lib.trimLeftS l lettersL).toArray⟩:ByteArray);have hTl:T.toList=Lib.trimLeftS l lettersL:=by rw [hT9,Lib.toList_data]
 rw [<- hT9] at hT;by_cases htr:(Lib.trimLeftS l lettersL).isEmpty=true
 ·have t1:T.toList.isEmpty=true:=by rw [hTl];exact htr
  have t2:(T.toList == [])=true:=by rw [hTl];simpa using htr
  have HF2:=h_ (show fine l ah=!ah.contains l by rw [HF.o,hle,htr];rfl);clear HF hl hemp hd hW hTl hT9 hle htr;go_enter func219,ntmps219;go_wp2_with fail;refine hT.mono ?_;rintro e w1 ⟨rfl,hb⟩;have HB:=h_ hb;have hW1:=HW.later hb l_;have c0:=cell_of_one hW1.var;have hlk:=hW1.set.look s hsz;rw [HD.o] at hlk;obtain ⟨bb,hbb⟩:=nm_ (ah.contains l);rw [<- hbb] at hlk;have HBB:=h_ hbb;have HW1:=h_ hW1;clear hb hW1 hbb hT;go_wp2_with (at_mapUpdate;refine zf4 m ah HW1.set ?_ s hsz ?_ ?_ ?_ ?_)
  ·rfl
  ·rfl
  ·rfl
  ·unfold maxLen;omega
  intro w2 hs1 hg1;rw [HD.o] at hs1;have HS1:=h_ hs1;have HG1:=h_ hg1;clear hs1 hg1 c0 hlk;go_wp2;go_ret;exact ⟨by rw [HF2.o,<- HBB.o];rfl,HW1.put HS1.o HG1.o,zjP HB.o HG1.o⟩
 have t1:T.toList.isEmpty=false:=by rw [hTl];simpa using htr
 have t2:(T.toList == [])=false:=by rw [hTl];simpa using htr
 have HF2:=h_ (show fine l ah=false by rw [HF.o,hle,show (Lib.trimLeftS l lettersL).isEmpty=false by simpa using htr];rfl);clear HF hl hemp hd hW hTl hT9 hle htr;go_enter func219,ntmps219;go_wp2_with fail;refine hT.mono ?_;rintro e w1 ⟨rfl,hb⟩;have HB:=h_ hb;have hW1:=HW.later hb l_;have c0:=cell_of_one hW1.var;have HW1:=h_ hW1;clear hb hW1 hT;go_wp2_with (at_mapUpdate;refine zf4 m ah HW1.set ?_ s hsz ?_ ?_ ?_ ?_)
 ·rfl
 ·rfl
 ·rfl
 ·unfold maxLen;omega
 intro w2 hs1 hg1;rw [HD.o] at hs1;have HS1:=h_ hs1;have HG1:=h_ hg1;clear hs1 hg1 c0;go_wp2;go_ret;exact ⟨by rw [HF2.o];rfl,HW1.put HS1.o HG1.o,zjP HB.o HG1.o⟩
def kindOk (k:Int):Bool:=decide (0<=k/\k<=5)
theorem zs5 (k:Int):(((checkC k 0 []:Nat):Int) == 0)=kindOk k:=by
 unfold kindOk;by_cases h:0<=k/\k<=5
 ·rw [decide_eq_true h];have:checkC k 0 []=0:=by
   unfold checkC;rw [if_neg (by omega),if_neg ?_,if_neg (by simp)];rintro (⟨_,b⟩ | ⟨_,b⟩ | ⟨_,b⟩ | ⟨_,b⟩)
   ·exact b rfl
   ·exact b rfl
   ·omega
   exact absurd b (by decide +kernel)
  rw [this];rfl
 rw [decide_eq_false h];have:checkC k 0 []=10:=by unfold checkC;rw [if_pos (by omega)]
 rw [this];rfl
theorem zg0 (k:Int) (w:World) (hT:Tabs w) :
  Calls prog 168 #[.int .i64 k] w fun e w'=>e=.returned (.bool (kindOk k))/\Below w.heap.size w w':=by
 have hc:=zs5 k;obtain ⟨n,hn⟩:=nm_ (checkC k 0 []);rw [<- hn] at hc;have HC:=h_ hc;have HN:=h_ hn;have hcv:cellV 0 ⟨#[]⟩=.agg #[.int .u64 0,.string ⟨#[]⟩]:=rfl;have hk:=zcJ k 0 ⟨#[]⟩ [] w ⟨rfl,by simp⟩ hT;rw [hcv,<- hn] at hk;clear hc hn hcv;go_enter func168,ntmps168;go_wp2_with fail;refine hk.mono ?_;rintro e w1 ⟨rfl,hb⟩;have HB:=h_ hb;clear hb hk;go_wp2;go_ret;exact ⟨by rw [<- HC.o];rfl,HB.o⟩
/- -/
def colL (c:ColB):Col:=(c.1.data.toList,c.2)
def colsL (cs:List ColB):List Col:=cs.map colL
theorem za4 (cs:List ColB):(colsL cs).length=cs.length:=by simp [colsL]
theorem zbJ {cs:List ColB} {k:Nat} (h:k < cs.length):(colsL cs).getD k default=colL (cs.getD k default):=by
 simp [colsL,List.getD,h]
theorem CS.get {cs:List ColB} (h:CS cs) {k:Nat} (hk:k < cs.length):(cs.getD k default).1.size<=140737488351232/\-9223372036854775808<=(cs.getD k default).2/\(cs.getD k default).2<=9223372036854775807:=by
 have e:cs.getD k default=cs[k]:=by simp [List.getD,hk]
 rw [e];exact h _ (List.getElem_mem _)
theorem zaW (v:Value) (cs:List ColB) (w:World) (h:RdC w v cs) (hC:CS cs) (hT:Tabs w) :
  Calls prog 121 #[v] w fun e w'=>e=.returned (.int .i64 (errS (colsL cs):Nat))/\Below w.heap.size w w':=by
 have hlen:=h.len;have hsm:=h.small;by_cases h0:cs.length=0
 ·have HE:=h_ (show errS (colsL cs)=4 by unfold errS;rw [za4,if_pos h0]);have q:((cs.length:Int) == 0)=true:=by rw [h0];rfl
  clear h0 h;go_enter func121,ntmps121;go_wp2;go_ret;exact ⟨by rw [HE.o];rfl,Below.refl _ _⟩
 have q:((cs.length:Int) == 0)=false:=by rw [beq_eq_false_iff_ne];omega
 by_cases h8:8 < cs.length
 ·have HE:=h_ (show errS (colsL cs)=13 by unfold errS;rw [za4,if_neg h0,if_pos h8]);have q2:decide ((cs.length:Int) > 8)=true:=decide_eq_true (by omega);clear h0 h;go_enter func121,ntmps121;go_wp2;go_ret;exact ⟨by rw [HE.o];rfl,Below.refl _ _⟩
 have q2:decide ((cs.length:Int) > 8)=false:=decide_eq_false (by omega);have HE:=h_ (show errS (colsL cs)=errFrom [] (colsL cs) by unfold errS;rw [za4,if_neg h0,if_neg h8]);clear h0;have HH:=h_ h;clear h;go_enter func121,ntmps121;go_wp2_with fail;refine (zhH w).mono ?_;rintro e w1 ⟨rfl,hW,hb⟩;have HW:=h_ hW;have HB:=h_ hb;clear hW hb;go_wp2;go_loopw [15] (fun i wr=>∃ k:Nat,k<=cs.length/\i=.int .i64 k/\Hid (Below w.heap.size w wr)/\Hid (Were wr (w.heap.size + 1) w.heap.size (names ((colsL cs).take k)))/\Hid (errFrom [] (colsL cs)=errFrom (names ((colsL cs).take k)) ((colsL cs).drop k))) (fun i _=>cs.length - (intOf i).toNat)
 case atStart=>exact ⟨0,by omega,rfl,HB,HW,h_ rfl⟩
 clear HW HB;obtain ⟨k,hk,rfl,HB,HW,HN⟩:=hrel;by_cases hlt:k < cs.length
 ·have hr:=HH.later HB.o l_;obtain ⟨b,o,hidx,hcell,hblk⟩:=hr.get hlt;obtain ⟨hc0,hc1⟩:=hcell _ hr;obtain ⟨hs1,hk1,hk2⟩:=hC.get hlt;have hst:=zhM (cs:=colsL cs) (k:=k) (by rw [za4];exact hlt);rw [zbJ hlt] at hst;rcases hcg:cs.getD k default with ⟨s,kd⟩
  rw [hcg] at hc0 hc1 hs1 hk1 hk2 hst;dsimp only at hc0 hc1 hs1 hk1 hk2;have hS:=zeZ hs1;obtain ⟨l,hl⟩:=nm_ s.data.toList;rw [<- hl] at hS;have hst:errFrom (names ((colsL cs).take k)) ((colsL cs).drop k)=if zaF (names ((colsL cs).take k)) (l,kd)≠0 then zaF (names ((colsL cs).take k)) (l,kd) else errFrom (names ((colsL cs).take (k + 1))) ((colsL cs).drop (k + 1)):=by
   rw [hst];unfold colL;rw [<- hl]
  have HST:=h_ hst;have HG:=h_ hcg;have hsl:=hS.len;have hidx':=hidx;have HL:=h_ hl;have HS:=h_ hS;clear hst hcg hcell hr hl hS hs1;by_cases h32:32 < l.length
  ·have q3:decide ((l.length:Int) > 32)=true:=decide_eq_true (by omega)
   have HF:=h_ (show errS (colsL cs)=7 by
    rw [HE.o,HN.o,HST.o]
    have e:zaF (names ((colsL cs).take k)) (l,kd)=7:=by unfold zaF;exact if_pos h32
    rw [e];rfl)
   go_wp2;go_ret;exact ⟨by rw [HF.o];rfl,HB.alloc HB.size _⟩
  have q3:decide ((l.length:Int) > 32)=false:=decide_eq_false (by omega);have HB1:=h_ (HB.alloc HB.size (.cells #[.string s,.int .i64 kd] 79));obtain ⟨N0,N1,N2⟩:=new1 wr (.cells #[.string s,.int .i64 kd] 79);have HW1:=h_ (HW.alloc (.cells #[.string s,.int .i64 kd] 79));have Q1:=h_ N1;have hwr:=HB.size;have hwl:=HW.lt;clear N0 N1 N2;go_wp2_with fail;refine (zj7 s l (w.heap.size + 1) w.heap.size _ _ HS.o HW1.o (by simp [names];omega)).mono ?_;rintro e w2 ⟨rfl,hW2,hg⟩;have HW2:=h_ hW2;have q2:=(hg.block wr.heap.size (by simp) (by simp;omega)).trans Q1.o;have c0:=za1 (i:=0) q2 rfl;have c1:=za1 (i:=1) q2 rfl;have HB2:=h_ (HB1.grown hg (by simp;omega) (fun j hj=>by cases hj;exact l_));have hn2:names ((colsL cs).take (k + 1))=names ((colsL cs).take k) ++ [l]:=by
   rw [zaE (by rw [za4];exact hlt) default,zbJ hlt,HG.o,HL.o];simp [names,colL]
  rw [<- hn2] at hW2;replace HW2:=h_ hW2;clear hW2 hg q2 HW1 hn2 hc0 hc1;by_cases hf:fine l (names ((colsL cs).take k))=true
  ·rw [hf];go_wp2_with fail;refine (zg0 kd w2 (hT.later HB2.o)).mono ?_;rintro e w3 ⟨rfl,hb⟩;have HB3:=bT HB2 hb;have HW3:=h_ (HW2.later hb l_);clear hb c0 c1;by_cases hkd:0<=kd/\kd<=5
   ·rw [show kindOk kd=true from decide_eq_true hkd]
    have HN2:=h_ (show errFrom [] (colsL cs)=errFrom (names ((colsL cs).take (k + 1))) ((colsL cs).drop (k + 1)) by
     rw [HN.o,HST.o]
     have e:zaF (names ((colsL cs).take k)) (l,kd)=0:=by unfold zaF;rw [if_neg h32,if_neg (by rw [hf];decide),if_neg (by dsimp only;omega)]
     rw [e];rfl)
    clear hf;go_wp2;go_roundw
    case rel=>exact ⟨k + 1,by omega,by go_num,HB3,HW3,HN2⟩
    simp [intOf];omega
   rw [show kindOk kd=false from decide_eq_false hkd]
   have HF:=h_ (show errS (colsL cs)=10 by
    rw [HE.o,HN.o,HST.o]
    have e:zaF (names ((colsL cs).take k)) (l,kd)=10:=by unfold zaF;rw [if_neg h32,if_neg (by rw [hf];decide),if_pos (by dsimp only;omega)]
    rw [e];rfl)
   clear hf;go_wp2;go_ret;exact ⟨by rw [HF.o];rfl,HB3.o⟩
  have hf':fine l (names ((colsL cs).take k))=false:=by simpa using hf
  have HF:=h_ (show errS (colsL cs)=2 by
   rw [HE.o,HN.o,HST.o]
   have e:zaF (names ((colsL cs).take k)) (l,kd)=2:=by unfold zaF;rw [if_neg h32,if_pos hf']
   rw [e];rfl)
  rw [hf'];clear hf hf';go_wp2;go_ret;exact ⟨by rw [HF.o];rfl,HB2.o⟩
 obtain rfl:k=cs.length:=by omega
 have HF:=h_ (show errS (colsL cs)=0 by
  rw [HE.o,HN.o,List.drop_of_length_le (by rw [za4];omega)];rfl)
 clear hlt;go_wp2;go_ret;exact ⟨by rw [HF.o];rfl,HB.o⟩
/- -/
theorem zC9 {l:Bs} {k:Nat} (h:k < l.length) (p:UInt8->Bool):(l.take (k + 1)).all p=((l.take k).all p && p (l.getD k 0)):=by
 rw [zaE h 0,List.all_append];simp
theorem zv4 {cs:List ColB} {k:Nat} (h:k < cs.length):names ((colsL cs).take (k + 1))=names ((colsL cs).take k) ++ [(cs.getD k default).1.data.toList]:=by
 rw [zaE (by rw [za4];exact h) default,zbJ h];simp [names,colL]
theorem zt5 (s:ByteArray) (l:Bs) (v:Value) (cs:List ColB) (w:World) (h:RdS s l) (hR:RdC w v cs) :
  Calls prog 109 #[.string s,v] w fun e w'=>e=.returned (.bool (fine l (names (colsL cs))))/\w'=w:=by
 have hlen:=h.len;have hsm:=h.small;have htl:=h.toList;have hdl:s.data.toList=l:=by rw [h.eq]
 have hcl:=hR.len;have hcs:=hR.small;by_cases hl:l=[]
 ·have q:s.toList.isEmpty=true:=by rw [htl,hl];rfl
  have q2:(s.toList == [])=true:=by rw [htl,hl];rfl
  have HF:=h_ (show fine l (names (colsL cs))=false by rw [hl];rfl);clear htl hdl hl hlen;go_enter func109,ntmps109;go_wp2;go_ret;exact ⟨by rw [HF.o];rfl,rfl⟩
 have q:s.toList.isEmpty=false:=by rw [htl];cases l <;> simp_all
 have q2:(s.toList == [])=false:=by rw [htl];simpa using hl
 have hle:l.isEmpty=false:=by cases l <;> simp_all
 have HE:=h_ (show fine l (names (colsL cs))=(l.all (fun c=>zb4 c.toNat) && !(names (colsL cs)).contains l) by unfold fine;rw [hle];rfl);have HI:=h_ h.idx;have HTL:=h_ htl;have HR:=h_ hR;have HDL:=h_ hdl;clear htl hle hl hR hdl;go_enter func109,ntmps109;go_wp2;go_loop [5] (fun i=>∃ k:Nat,k<=l.length/\i=.int .i64 k/\Hid ((l.take k).all (fun c=>zb4 c.toNat)=true)) (fun i=>l.length - (intOf i).toNat)
 case atStart=>exact ⟨0,by omega,rfl,h_ rfl⟩
 obtain ⟨k,hk,rfl,HA⟩:=hrel;by_cases hlt:k < l.length
 ·have hx:=HI.o k hlt;obtain ⟨c,hc⟩:=nm_ ((l.getD k 0).toNat:Nat);have hc9:at8 l k=(c:Int):=by rw [hc];rfl
  have hc1:c < 256:=by rw [hc];exact (l.getD k 0).toNat_lt
  rw [hc9] at hx;have hst:=zC9 hlt (fun c=>zb4 c.toNat);have HS:=h_ (show (l.take (k + 1)).all (fun c=>zb4 c.toNat)=zb4 c by rw [hst,HA.o,<- hc];rfl)
  have HL:=h_ (show l.all (fun c=>zb4 c.toNat)=true->zb4 c=true from fun hh=>by
   rw [hc]
   have e:l.getD k 0=l[k]:=by simp [List.getD,hlt]
   rw [e]
   exact List.all_eq_true.1 hh _ (List.getElem_mem _))
  clear hc hc9 hst;by_cases hle:zb4 c=true
  ·have HS2:=h_ (HS.trans hle);unfold zb4 at hle;have hle:=of_decide_eq_true hle;clear HS HL;rcases hle with ⟨p1,p2⟩ | ⟨p1,p2⟩ | p1
   ·have d1:decide ((c:Int) ≥ 97)=true:=decide_eq_true (by omega);have d2:decide ((c:Int)<=122)=true:=decide_eq_true (by omega);go_wp2;go_round
    case rel=>exact ⟨k + 1,by omega,by go_num,HS2⟩
    simp [intOf];omega
   ·have d1:decide ((c:Int) ≥ 97)=false:=decide_eq_false (by omega);have d2:decide ((c:Int) ≥ 48)=true:=decide_eq_true (by omega);have d3:decide ((c:Int)<=57)=true:=decide_eq_true (by omega);go_wp2;go_round
    case rel=>exact ⟨k + 1,by omega,by go_num,HS2⟩
    simp [intOf];omega
   have d1:decide ((c:Int) ≥ 97)=false:=decide_eq_false (by omega);have d2:decide ((c:Int) ≥ 48)=true:=decide_eq_true (by omega);have d3:decide ((c:Int)<=57)=false:=decide_eq_false (by omega);have d4:((c:Int) == 95)=true:=(by rw [p1];rfl);clear p1;go_wp2;go_round
   case rel=>exact ⟨k + 1,by omega,by go_num,HS2⟩
   simp [intOf];omega
  have HF:=h_ (show fine l (names (colsL cs))=false by
   rw [HE.o,show l.all (fun c=>zb4 c.toNat)=false from by
    cases hb:l.all (fun c=>zb4 c.toNat) with
    | false=>rfl
    | true=>exact absurd (HL.o hb) hle]
   rfl)
  unfold zb4 at hle;have hle:¬ (97<=c/\c<=122∨48<=c/\c<=57∨c=95):=fun hh=>hle (decide_eq_true hh);clear HS HL;have d4:((c:Int) == 95)=false:=by rw [beq_eq_false_iff_ne];omega
  by_cases p1:97<=c
  ·have d1:decide ((c:Int) ≥ 97)=true:=decide_eq_true (by omega);have d2:decide ((c:Int)<=122)=false:=decide_eq_false (by omega);have d5:decide ((c:Int) ≥ 48)=true:=decide_eq_true (by omega);have d3:decide ((c:Int)<=57)=false:=decide_eq_false (by omega);go_wp2;go_ret;exact ⟨by rw [HF.o];rfl,rfl⟩
  have d1:decide ((c:Int) ≥ 97)=false:=decide_eq_false (by omega);by_cases p2:48<=c
  ·have d5:decide ((c:Int) ≥ 48)=true:=decide_eq_true (by omega);have d3:decide ((c:Int)<=57)=false:=decide_eq_false (by omega);go_wp2;go_ret;exact ⟨by rw [HF.o];rfl,rfl⟩
  have d5:decide ((c:Int) ≥ 48)=false:=decide_eq_false (by omega);go_wp2;go_ret;exact ⟨by rw [HF.o];rfl,rfl⟩
 obtain rfl:k=l.length:=by omega
 have HE2:=h_ (show fine l (names (colsL cs))=!(names (colsL cs)).contains l by
  have:=HA.o
  rw [List.take_of_length_le l_] at this
  rw [HE.o,this];rfl)
 clear HA HE;go_wp2;go_loop [7] (fun i=>∃ k:Nat,k<=cs.length/\i=.int .i64 k/\Hid ((names ((colsL cs).take k)).contains l=false)) (fun i=>cs.length - (intOf i).toNat)
 case atStart=>exact ⟨0,by omega,rfl,h_ rfl⟩
 obtain ⟨k,hk,rfl,HA⟩:=hrel;by_cases hlt:k < cs.length
 ·obtain ⟨b,o,hi,hc,hb⟩:=HR.get hlt;obtain ⟨c0,c1⟩:=hc _ HR.o;have hns:=zv4 hlt
  have HIN:=h_ (show (cs.getD k default).1.data.toList ∈ names (colsL cs) from by
   have e:cs.getD k default=cs[k]:=by simp [List.getD,hlt]
   rw [e]
   exact List.mem_map.2 ⟨colL cs[k],List.mem_map.2 ⟨cs[k],List.getElem_mem _,rfl⟩,rfl⟩)
  rcases hcg:cs.getD k default with ⟨t,kd⟩
  rw [hcg] at c0 c1 hns HIN;dsimp only at c0 c1 hns;have HNS:=h_ hns;clear hc hns hcg;by_cases hst:t=s
  ·subst hst
   have HF:=h_ (show fine l (names (colsL cs))=false by
    rw [HE2.o]
    have:=HIN.o
    dsimp only at this
    rw [HDL.o] at this
    simpa using this)
   clear HNS HIN;go_wp2;go_ret;exact ⟨by rw [HF.o];rfl,rfl⟩
  have hne:(t.toList == s.toList)=false:=by
   rw [beq_eq_false_iff_ne];intro e;rw [Lib.toList_data,Lib.toList_data] at e;exact hst (by cases s;cases t;simp at e;rw [e])
  have HN2:=h_ (show (names ((colsL cs).take (k + 1))).contains l=false by
   rw [HNS.o]
   have h0:=HA.o
   have h1:¬ l=t.data.toList:=fun e=>hst (by
    have:=HDL.o
    rw [e] at this
    cases s;cases t;simp at this;rw [this])
   simp at h0 ⊢
   exact ⟨h0,h1⟩)
  clear HNS hst HIN;go_wp2;go_round
  case rel=>exact ⟨k + 1,by omega,by go_num,HN2⟩
  simp [intOf];omega
 obtain rfl:k=cs.length:=by omega
 have HF:=h_ (show fine l (names (colsL cs))=true by
  have:=HA.o
  rw [List.take_of_length_le (by rw [za4];exact l_)] at this
  rw [HE2.o,this];rfl)
 clear hlt;go_wp2;go_ret;exact ⟨by rw [HF.o];rfl,rfl⟩
/- -/
theorem RdC.upto {w:World} {v:Value} {cs:List ColB} (h:RdC w v cs) (i:Nat) (hi:i<=cs.length) :
  ∃ v',(∀ u,(Instr.slice 24 v none (some (.int .i64 (i:Int))) none).run prog u=.ok v' u)/\∀ w',RdC w' v cs->RdC w' v' (cs.take i):=by
 obtain ⟨ao,cap,hv,hcap,hnil,hsome⟩:=RdG.shape h;rw [List.length_map] at hcap hsome hv;subst hv;refine ⟨.slice ao i cap,fun u=>?_,fun w' h'=>?_⟩
 ·rw [run_slice_h (P:=prog) u 24 ao cs.length cap underlying24 .i64 i (by omega) (by omega)];simp [go_sem,Result.andThen,sliced]
 have hsm:=RdC.small h';have hlen:(cs.take i).length=i:=by simp;omega
 refine ⟨⟨ao,cap,by rw [List.length_map,hlen],by rw [List.length_map,hlen];omega,hnil,fun hp=>hsome (by rw [List.length_map,hlen] at hp;omega)⟩,fun j hj k u hu=>?_,fun x hx=>?_,by rw [List.length_map,hlen];omega⟩
 ·rw [List.length_map,hlen] at hj;have hjc:j < cs.length:=by omega
  have e:((cs.take i).map colV).getD j []=(cs.map colV).getD j []:=by
   rw [getD_map colV _ j (by rw [hlen];exact hj) default,getD_map colV _ j hjc default];congr 1;simp [List.getD,hj]
  rw [e] at hu;have:=RdG.cells h' j (by rw [List.length_map];exact hjc) k u hu;obtain ⟨b,o,he⟩:=hsome (by omega);subst he;rw [zaK] at this ⊢;exact this
 obtain ⟨c,_,rfl⟩:=List.mem_map.1 hx;rfl
theorem zbV (v:Value) (cs:List ColB) (w:World) (h:RdC w v cs) (hC:CS cs) :
  Calls prog 83 #[v] w fun e w'=>e=.returned (.int .i64 (errS (colsL cs):Nat))/\Below w.heap.size w w':=by
 have hlen:=h.len;have hsm:=h.small;by_cases h0:cs.length=0
 ·have HE:=h_ (show errS (colsL cs)=4 by unfold errS;rw [za4,if_pos h0]);have q:((cs.length:Int) == 0)=true:=by rw [h0];rfl
  clear h0 h;go_enter func83,ntmps83;go_wp2;go_ret;exact ⟨by rw [HE.o];rfl,Below.refl _ _⟩
 have q:((cs.length:Int) == 0)=false:=by rw [beq_eq_false_iff_ne];omega
 by_cases h8:8 < cs.length
 ·have HE:=h_ (show errS (colsL cs)=13 by unfold errS;rw [za4,if_neg h0,if_pos h8]);have q2:decide ((cs.length:Int) > 8)=true:=decide_eq_true (by omega);clear h0 h;go_enter func83,ntmps83;go_wp2;go_ret;exact ⟨by rw [HE.o];rfl,Below.refl _ _⟩
 have q2:decide ((cs.length:Int) > 8)=false:=decide_eq_false (by omega);have HE:=h_ (show errS (colsL cs)=errFrom [] (colsL cs) by unfold errS;rw [za4,if_neg h0,if_neg h8]);clear h0;have HH:=h_ h;have HB0:=h_ (Below.refl w.heap.size w);clear h;go_enter func83,ntmps83;go_wp2;go_loopw [3] (fun i wr=>∃ k:Nat,k<=cs.length/\i=.int .i64 k/\Hid (Below w.heap.size w wr)/\Hid (errFrom [] (colsL cs)=errFrom (names ((colsL cs).take k)) ((colsL cs).drop k))) (fun i _=>cs.length - (intOf i).toNat)
 case atStart=>exact ⟨0,by omega,rfl,HB0,h_ rfl⟩
 clear HB0;obtain ⟨k,hk,rfl,HB,HN⟩:=hrel;by_cases hlt:k < cs.length
 ·have hr:=HH.later HB.o l_;obtain ⟨b,o,hidx,hcell,hblk⟩:=hr.get hlt;obtain ⟨hc0,hc1⟩:=hcell _ hr;obtain ⟨vu,hup,hur⟩:=hr.upto k hk;have HU:=h_ (hur _ hr);obtain ⟨hs1,hk1,hk2⟩:=hC.get hlt;have hst:=zhM (cs:=colsL cs) (k:=k) (by rw [za4];exact hlt);rw [zbJ hlt] at hst;rcases hcg:cs.getD k default with ⟨s,kd⟩
  rw [hcg] at hc0 hc1 hs1 hk1 hk2 hst;dsimp only at hc0 hc1 hs1 hk1 hk2;have hS:=zeZ hs1;obtain ⟨l,hl⟩:=nm_ s.data.toList;rw [<- hl] at hS;have hst:errFrom (names ((colsL cs).take k)) ((colsL cs).drop k)=if zaF (names ((colsL cs).take k)) (l,kd)≠0 then zaF (names ((colsL cs).take k)) (l,kd) else errFrom (names ((colsL cs).take (k + 1))) ((colsL cs).drop (k + 1)):=by
   rw [hst];unfold colL;rw [<- hl]
  have HST:=h_ hst;have hsl:=hS.len;have HS:=h_ hS;have hnm:names (colsL (cs.take k))=names ((colsL cs).take k):=by unfold colsL;rw [List.map_take]
  have hfn:=fun u (hu:RdC u vu (cs.take k))=>zt5 s l vu (cs.take k) u HS.o hu;rw [hnm] at hfn;obtain ⟨ff,hff⟩:=nm_ (fine l (names ((colsL cs).take k)));rw [<- hff] at hfn;have HFN:=h_ hfn;have HFF:=h_ hff;clear hst hcg hcell hr hl hS hs1 hnm hfn hff hur;by_cases h32:32 < l.length
  ·have q3:decide ((l.length:Int) > 32)=true:=decide_eq_true (by omega)
   have HF:=h_ (show errS (colsL cs)=7 by
    rw [HE.o,HN.o,HST.o]
    have e:zaF (names ((colsL cs).take k)) (l,kd)=7:=by unfold zaF;exact if_pos h32
    rw [e];rfl)
   go_wp2;go_ret;exact ⟨by rw [HF.o];rfl,HB.o⟩
  have q3:decide ((l.length:Int) > 32)=false:=decide_eq_false (by omega);cases ff with
  | false =>
   have HF:=h_ (show errS (colsL cs)=2 by
    rw [HE.o,HN.o,HST.o]
    have e:zaF (names ((colsL cs).take k)) (l,kd)=2:=by unfold zaF;rw [if_neg h32,if_pos HFF.symm]
    rw [e];rfl)
   go_wp2_with fail;go_quiet ((go_at_call 109;exact Calls.quiet_of_same (HFN.o _ (HU.later (Go.below_drewN (Below.refl _ _) _) l_))));go_wp2;go_ret;exact ⟨by rw [HF.o];rfl,Go.below_drewN HB.o _⟩
  | true =>
   by_cases hkd:0<=kd/\kd<=5
   ·have HN2:=h_ (show errFrom [] (colsL cs)=errFrom (names ((colsL cs).take (k + 1))) ((colsL cs).drop (k + 1)) by
     rw [HN.o,HST.o]
     have e:zaF (names ((colsL cs).take k)) (l,kd)=0:=by unfold zaF;rw [if_neg h32,if_neg (by rw [<- HFF.o];decide),if_neg (by dsimp only;omega)]
     rw [e];rfl)
    have d1:decide (kd < 0)=false:=decide_eq_false (by omega);have d2:decide (kd > 5)=false:=decide_eq_false (by omega);go_wp2_with fail;go_quiet ((go_at_call 109;exact Calls.quiet_of_same (HFN.o _ (HU.later (Go.below_drewN (Below.refl _ _) _) l_))));go_wp2;go_roundw
    case rel=>exact ⟨k + 1,by omega,by go_num,h_ (Go.below_drewN HB.o _),HN2⟩
    simp [intOf];omega
   have HF:=h_ (show errS (colsL cs)=10 by
    rw [HE.o,HN.o,HST.o]
    have e:zaF (names ((colsL cs).take k)) (l,kd)=10:=by unfold zaF;rw [if_neg h32,if_neg (by rw [<- HFF.o];decide),if_pos (by dsimp only;omega)]
    rw [e];rfl)
   by_cases hk0:kd < 0
   ·have d1:decide (kd < 0)=true:=decide_eq_true hk0;go_wp2_with fail;go_quiet ((go_at_call 109;exact Calls.quiet_of_same (HFN.o _ (HU.later (Go.below_drewN (Below.refl _ _) _) l_))));go_wp2;go_ret;exact ⟨by rw [HF.o];rfl,Go.below_drewN HB.o _⟩
   have d1:decide (kd < 0)=false:=decide_eq_false (by omega);have d2:decide (kd > 5)=true:=decide_eq_true (by omega);go_wp2_with fail;go_quiet ((go_at_call 109;exact Calls.quiet_of_same (HFN.o _ (HU.later (Go.below_drewN (Below.refl _ _) _) l_))));go_wp2;go_ret;exact ⟨by rw [HF.o];rfl,Go.below_drewN HB.o _⟩
 obtain rfl:k=cs.length:=by omega
 have HF:=h_ (show errS (colsL cs)=0 by
  rw [HE.o,HN.o,List.drop_of_length_le (by rw [za4];omega)];rfl)
 clear hlt;go_wp2;go_ret;exact ⟨by rw [HF.o];rfl,HB.o⟩
/- -/
theorem zz3 {cs ds:List ColB} {k:Nat} (h1:k < cs.length) (h2:k < ds.length) (h:cs.take k=ds.take k) (he:cs.getD k default=ds.getD k default):cs.take (k + 1)=ds.take (k + 1):=by
 rw [zaE h1 default,zaE h2 default,h,he]
theorem zAM (v1 v2:Value) (cs ds:List ColB) (w:World) (h1:RdC w v1 cs) (h2:RdC w v2 ds) :
  Calls prog 91 #[v1,v2] w fun e w'=>e=.returned (.bool (decide (cs=ds)))/\Below w.heap.size w w':=by
 have hl1:=h1.len;have hl2:=h2.len;have hs1:=h1.small;have hs2:=h2.small;by_cases hn:cs.length=ds.length
 ·obtain ⟨n,hn1⟩:=nm_ cs.length;have hn2:n=ds.length:=by omega
  rw [<- hn1] at hl1 hs1;rw [<- hn2] at hl2;have HN1:=h_ hn1;have HN2:=h_ hn2;have H1:=h_ h1;have H2:=h_ h2;have hb0:=h_ (Below.refl w.heap.size w);clear hn hn1 hn2 h1 h2 hs2;go_enter func91,ntmps91;go_wp2;go_loopw [13] (fun i wr=>∃ k:Nat,k<=n/\i=.int .i64 k/\Hid (cs.take k=ds.take k)/\Hid (Below w.heap.size w wr)) (fun i _=>n - (intOf i).toNat)
  case atStart=>exact ⟨0,by omega,rfl,h_ rfl,hb0⟩
  obtain ⟨k,hk,rfl,HT,HB⟩:=hrel;clear hb0;by_cases hlt:k < n
  ·have hr1:=H1.later HB.o l_;have hr2:=H2.later HB.o l_;have k1:k < cs.length:=(by rw [<- HN1.o];exact hlt);have k2:k < ds.length:=(by rw [<- HN2.o];exact hlt);obtain ⟨b1,o1,hi1,hc1,hb1⟩:=hr1.get k1;obtain ⟨b2,o2,hi2,hc2,hb2⟩:=hr2.get k2;obtain ⟨c10,c11⟩:=hc1 _ hr1;obtain ⟨c20,c21⟩:=hc2 _ hr2;have hes:=h_ (fun he=>zz3 k1 k2 HT.o he);have hne:=h_ (show cs.getD k default≠ds.getD k default->cs≠ds from fun h hh=>h (by rw [hh]));clear hr1 hr2 hc1 hc2 k1 k2;rcases hcg:cs.getD k default with ⟨s,kd⟩
   rcases hdg:ds.getD k default with ⟨t,ke⟩
   rw [hcg] at c10 c11;rw [hdg] at c20 c21;rw [hcg,hdg] at hes hne;dsimp only at c10 c11 c20 c21;clear hcg hdg;by_cases hst:s=t
   ·subst hst;by_cases hke:kd=ke
    ·subst hke;have HES:=h_ (hes.o rfl);clear hes hne;go_wp2;go_quiet (fail);go_wp2;go_roundw
     case rel=>exact ⟨k + 1,by omega,by go_num,HES,h_ (Go.below_drewN HB.o _)⟩
     simp [intOf];omega
    have HF:=h_ (show decide (cs=ds)=false from decide_eq_false (hne.o (fun h=>hke (by injection h))));have q1:(kd == ke)=false:=(by simpa using hke);have q2:(kd != ke)=true:=(by simpa using hke);clear hke;clear hes hne;go_wp2;go_quiet (fail);go_wp2;go_ret;exact ⟨by rw [HF.o];rfl,Go.below_drewN HB.o _⟩
   have HF:=h_ (show decide (cs=ds)=false from decide_eq_false (hne.o (fun h=>hst (by injection h))));obtain ⟨q1,q2⟩:=zsV hst;clear hst;clear hes hne;go_wp2;go_quiet (fail);go_wp2;go_ret;exact ⟨by rw [HF.o];rfl,Go.below_drewN HB.o _⟩
  obtain rfl:k=n:=by omega
  have HF:=h_ (show decide (cs=ds)=true from decide_eq_true (by
   have:=HT.o
   rwa [List.take_of_length_le (by rw [<- HN1.o];exact l_),List.take_of_length_le (by rw [<- HN2.o];exact l_)] at this))
  clear hlt;go_wp2;go_ret;exact ⟨by rw [HF.o];rfl,HB.o⟩
 have q:((cs.length:Int) != (ds.length:Int))=true:=by rw [bne_iff_ne];omega
 have q':(cs.length != ds.length)=true:=by simpa using hn
 have HF:=h_ (show decide (cs=ds)=false from decide_eq_false (fun h=>hn (by rw [h])));clear hn h1 h2;go_enter func91,ntmps91;go_wp2;go_ret;exact ⟨by rw [HF.o];rfl,Below.refl _ _⟩
theorem zAU (v1 v2:Value) (cs ds:List ColB) (w:World) (h1:RdC w v1 cs) (h2:RdC w v2 ds) :
  Calls prog 46 #[v1,v2] w fun e w'=>e=.returned (.bool (decide (cs=ds)))/\Below w.heap.size w w':=by
 have hl1:=h1.len;have hl2:=h2.len;have hs1:=h1.small;have hs2:=h2.small;by_cases hn:cs.length=ds.length
 ·obtain ⟨n,hn1⟩:=nm_ cs.length;have hn2:n=ds.length:=by omega
  rw [<- hn1] at hl1 hs1;rw [<- hn2] at hl2;have HN1:=h_ hn1;have HN2:=h_ hn2;have H1:=h_ h1;have H2:=h_ h2;have hb0:=h_ (Below.refl w.heap.size w);clear hn hn1 hn2 h1 h2 hs2;go_enter func46,ntmps46;go_wp2;go_loopw [5] (fun i wr=>∃ k:Nat,k<=n/\i=.int .i64 k/\Hid (cs.take k=ds.take k)/\Hid (Below w.heap.size w wr)) (fun i _=>n - (intOf i).toNat)
  case atStart=>exact ⟨0,by omega,rfl,h_ rfl,hb0⟩
  obtain ⟨k,hk,rfl,HT,HB⟩:=hrel;clear hb0;by_cases hlt:k < n
  ·have hr1:=H1.later HB.o l_;have hr2:=H2.later HB.o l_;have k1:k < cs.length:=(by rw [<- HN1.o];exact hlt);have k2:k < ds.length:=(by rw [<- HN2.o];exact hlt);obtain ⟨b1,o1,hi1,hc1,hb1⟩:=hr1.get k1;obtain ⟨b2,o2,hi2,hc2,hb2⟩:=hr2.get k2;obtain ⟨c10,c11⟩:=hc1 _ hr1;obtain ⟨c20,c21⟩:=hc2 _ hr2;have hes:=h_ (fun he=>zz3 k1 k2 HT.o he);have hne:=h_ (show cs.getD k default≠ds.getD k default->cs≠ds from fun h hh=>h (by rw [hh]));clear hr1 hr2 hc1 hc2 k1 k2;rcases hcg:cs.getD k default with ⟨s,kd⟩
   rcases hdg:ds.getD k default with ⟨t,ke⟩
   rw [hcg] at c10 c11;rw [hdg] at c20 c21;rw [hcg,hdg] at hes hne;dsimp only at c10 c11 c20 c21;clear hcg hdg;by_cases hst:s=t
   ·subst hst;by_cases hke:kd=ke
    ·subst hke;have HES:=h_ (hes.o rfl);clear hes hne;go_wp2;go_quiet (fail);go_wp2;go_roundw
     case rel=>exact ⟨k + 1,by omega,by go_num,HES,h_ (Go.below_drewN HB.o _)⟩
     simp [intOf];omega
    have HF:=h_ (show decide (cs=ds)=false from decide_eq_false (hne.o (fun h=>hke (by injection h))));have q1:(kd == ke)=false:=(by simpa using hke);have q2:(kd != ke)=true:=(by simpa using hke);clear hke;clear hes hne;go_wp2;go_quiet (fail);go_wp2;go_ret;exact ⟨by rw [HF.o];rfl,Go.below_drewN HB.o _⟩
   have HF:=h_ (show decide (cs=ds)=false from decide_eq_false (hne.o (fun h=>hst (by injection h))));obtain ⟨q1,q2⟩:=zsV hst;clear hst;clear hes hne;go_wp2;go_quiet (fail);go_wp2;go_ret;exact ⟨by rw [HF.o];rfl,Go.below_drewN HB.o _⟩
  obtain rfl:k=n:=by omega
  have HF:=h_ (show decide (cs=ds)=true from decide_eq_true (by
   have:=HT.o
   rwa [List.take_of_length_le (by rw [<- HN1.o];exact l_),List.take_of_length_le (by rw [<- HN2.o];exact l_)] at this))
  clear hlt;go_wp2;go_ret;exact ⟨by rw [HF.o];rfl,HB.o⟩
 have q:((cs.length:Int) != (ds.length:Int))=true:=by rw [bne_iff_ne];omega
 have q':(cs.length != ds.length)=true:=by simpa using hn
 have HF:=h_ (show decide (cs=ds)=false from decide_eq_false (fun h=>hn (by rw [h])));clear hn h1 h2;go_enter func46,ntmps46;go_wp2;go_ret;exact ⟨by rw [HF.o];rfl,Below.refl _ _⟩
