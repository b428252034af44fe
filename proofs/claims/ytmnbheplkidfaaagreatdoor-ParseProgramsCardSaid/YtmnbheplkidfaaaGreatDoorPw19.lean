/- Parsing: the reference's reader: processes. (and what follows from it) -/
import Derived.Test.YtmnbheplkidfaaaGreatDoorPw18
set_option maxHeartbeats 16000000
set_option maxRecDepth 100000
namespace Go.Proofs.YtmnbheplkidfaaaGreatDoor
open Go.Lib (hid)
open Go.RowKit Go.Deep Go.Shelf
abbrev KE:List (Nat×Option Tmp):=[(0,some 38),(1,some 39),(2,some 40),(3,some 41),(4,some 42),(5,some 43),(6,some 44),(7,some 45),(8,some 46),(9,none)]
abbrev KD:List (Nat×Option Tmp):=[(0,some 47),(1,some 48),(2,some 49),(3,some 50),(4,some 51),(5,some 52),(6,some 53),(7,some 54),(8,some 55),(9,none)]
theorem Ma(R:Nat)(la:Option Addr)(all:List Tk)(E:Int)(f:Nat)(st:RS)(w:World)(h:RdIs R la all E st w)(hSing:∀g,g<=f+1->∀st1 W,RdIs R la all E st1 W->2*st1.len<=g+1->st1.len<=st.len->Calls Tryz.prog 66 #[.pointer (some ⟨R,0,none⟩)] W (Red R la all E W (QV Qb g) st1 (GPn W.heap.size st1.len)))
 (hf:2*st.len<=f+1):
 Calls Tryz.prog 33 #[.pointer (some ⟨R,0,none⟩)] w (Red R la all E w (QT Qb (f+1)) st (GPn w.heap.size st.len)):=by
 have HSG:Hid (∀g,g<=f->∀st1 W,RdIs R la all E st1 W->2*st1.len<=g+1->st1.len<=st.len->Calls Tryz.prog 66 #[.pointer (some ⟨R,0,none⟩)] W (Red R la all E W (QV Qb (fitF g st1)) st1 (GPn W.heap.size st1.len))):=hid (fun g hg st1 W hp hl hk=>by
  unfold fitF
  split
  ·exact hSing (g+1) (by omega) st1 W hp (by omega) hk
  ·exact hSing g (by omega) st1 W hp hl hk)
 have HF:=hid hf
 obtain⟨W1,hW1⟩:∃W1,w.alloc (.cells z12 31)=W1:=⟨_,rfl⟩
 have hb1:=(made hW1).1
 have x1:=(made hW1).2
 have hs1:w.heap.size<W1.heap.size:=gl0 x1
 have hR:R<w.heap.size:=h.lt
 have hRb:R<W1.heap.size:=Nat.lt_trans hR hs1
 have HLA:=hid h.la
 have HP:Hid (RdIs R la all E st W1):=hid (h.to hb1)
 have HD:Hid (But R w W1):=hid (But.of hb1)
 have HW1:=hid hW1
 have HX1:=hid x1
 have HLN0:Hid (st.len<=1000001):=hid h.len_le
 clear hW1 hb1 x1 h hSing hf
 go_enter Tryz.func33,Tryz.ntmps33
 go_upto_region 1 with fail
 rw[HW1.out]
 go_upto_region 2 with(go_at_call 66;refine(HSG.out f lR st _ HP.out HF.out lR).mono ?_;rintro _ ws⟨⟨_,u,rfl,⟨hg,hk⟩,hv⟩,hp,hb⟩;obtain⟨qa,qn,qc,aa,an,ac,ta,tn,tc,ba,bn,bc,ka,kn,kc,rfl⟩:=PrVal.open hg;have HGu:=hid hg;have HKu:=hid hk;have HVu:=hid hv;have HPs:=hid hp;have HBs:=hid hb;clear hg hk hv hp hb;obtain⟨W3,hW3⟩:∃W,ws.alloc (.cells (gP u qa qn qc aa an ac ta tn tc ba bn bc ka kn kc) 31)=W:=⟨_,rfl⟩;have hb3:Below ws.heap.size ws W3:=(by rw[<-hW3];exact bR.alloc lR _);have HX3:=hid (show W3.heap[ws.heap.size]? =some (.cells (gP u qa qn qc aa an ac ta tn tc ba bn bc ka kn kc) 31 (0,0)) by rw[<-hW3];exact World.alloc_heap_new _ _);have HW3:=hid hW3;have HB3:=hid hb3;clear hb3 hW3)
 rw[HW3.out]
 have hwz:=HBs.out.size
 have HROW:Hid (LRow 31 12 W1.heap.size (fun B w v p=>PrVal B w v p) (fun _=>False) W3 (.slice (some ⟨ws.heap.size,0,none⟩) 1 1) [.agg (gP u qa qn qc aa an ac ta tn tc ba bn bc ka kn kc)] ([u])):=hid (by rw[<-HW3.out];exact LRow.one lyPr (u:= .agg (gP u qa qn qc aa an ac ta tn tc ba bn bc ka kn kc)) (x:=u) (PrVal.mono (fun k hk=>⟨hk.1,hk.2,fun h=>h⟩) HGu.out) (fun _ h=>h.elim) hwz)
 have HP3:=hid (HPs.out.to HB3.out)
 have HBo3:=hid ((HD.out.trans HBs.out).to HB3.out)
 have HZ3:=hid ((HB3.out.block w.heap.size (by omega)).trans ((HBs.out.block w.heap.size hs1 (by omega)).trans HX1.out))
 have hw3:W1.heap.size<=W3.heap.size:=lT hwz HB3.out.size
 have HC3:=hid hw3
 clear hw3 hwz HGu HPs HBs HB3 HX3 HW3 HP HD HX1
 go_loopw [3] (fun l wr=>∃(us:List Pr) (x:Pr) (vs:List Value) (ga:Option Addr) (gn gc:Nat) (g:Nat) (st1 st2:RS),l= .slice ga gn gc/\Hid (Qa E (QV Qb (fitF g st1)) st1=st2)/\Hid (LRow 31 12 W1.heap.size (fun B w v p=>PrVal B w v p) (fun _=>False) wr (.slice ga gn gc) vs (us++[x]))/\Hid (RdIs R la all E st2 wr)/\Hid (But R w wr)/\Hid (PLeft E (f+1) st us g st1)/\Hid (∀y,Qj (QV Qb (fitF g st1)) st1=some y->x=y)/\Hid (g<=f)/\Hid (us.length+st1.len<=st.len)/\Hid ((Ju x).length<=st1.len+1)/\Hid (W1.heap.size<=wr.heap.size)/\Hid (Blk wr w.heap.size z12 31)) (fun _ wr=>lenW R all wr)
 case atStart=>
  exact⟨[],u,_,_,_,_,f,st,_,rfl,hid rfl,HROW,HP3,HBo3,hid (PLeft.start E f st HF.out),HVu,hid lR,hid (by show 0+_<=_;omega),HKu,HC3,HZ3⟩
 case round=>
  clear HVu HKu HROW HP3 HBo3 HZ3 HC3
  rename Pr=>u0
  obtain⟨us,x,vs,ga,gn,gc,g,st1,st2,rfl,HST,HLR,HPa,HBo,HPL,HVX,HGF,HLN,HKX,HWV,HZ0⟩:=hrel
  rename World=>V0
  have hsv:=HWV.out
  have HLSZ:Hid ((us++[x]).length<=1000002):=hid (by rw[List.length_append,List.length_singleton];have:=HLN.out;have:=HLN0.out;omega)
  have HLENV:=hid HPa.out.lenW
  have HLT:Hid (∀k,(Value.slice ga gn gc).ownBlock=some k->W1.heap.size<=k/\k<V0.heap.size):=hid (fun k hk=>HLR.out.row.lt k hk)
  obtain⟨t3,ht3⟩:∃t3,Qi st2=t3:=⟨_,rfl⟩
  have HT3:=hid ht3
  cases hq:stHd sBar st2 with
  |true=>
   have k0:(t3.toList==[124])=true:=by rw[<-ht3];exact Qt hq
   have hnl:=JQ E hq
   have hs2:st2.len<=st1.len:=by rw[<-HST.out];exact len_le E (fun _ _ _ h=>Nat.le_of_lt (Fq _ _ _ _ h)) st1
   have hfu:=HPL.out.fuel
   obtain⟨g3,rfl⟩:∃g3,g=g3+1:=⟨g-1,by omega⟩
   have hmore:=HPL.out.more HVX.out (by rw[HST.out];exact hq) (by rw[HST.out];omega)
   rw[HST.out] at hmore
   obtain⟨st4,hst4⟩:∃st4,Qa E (need sBar) st2=st4:=⟨_,rfl⟩
   rw[hst4] at hmore hnl
   have HST4:=hid hst4
   have HMORE:=hid hmore
   have HNL:Hid (st4.len<st2.len/\st2.len<=st1.len):=hid ⟨hnl,hs2⟩
   have HG3:Hid (g3<=f):=hid (by have:=HGF.out;omega)
   clear hmore hnl hs2 hfu ht3 hq hst4
   go_upto_region 3 with(go_at_call 58;refine(Qw R _ all E _ _ HPa.out).mono ?_;rw[HT3.out];rintro en w7⟨rfl,hb⟩;have HB7:=hid hb;have HP7:=hid (HPa.out.to hb);clear hb)
   go_upto_region 4 with(go_at_call 59;refine(QD R _ all E _ (by decide+kernel) _ _ HP7.out).mono ?_;rw[HST4.out];rintro en V5⟨rfl,hp,hb⟩;have HP5:=hid hp;have HB5:=hid ((But.of HB7.out).trans hb);clear hp hb)
   have h5:=HB5.out.size
   go_wp2_with (first|(go_at_call 66;refine(HSG.out g3 HG3.out st4 _ HP5.out HMORE.out.fuel (by have:=HLN.out;have:=HNL.out;omega)).mono ?_;rintro _ ws⟨⟨_,u,rfl,⟨hg,hk⟩,hv⟩,hp,hb⟩;obtain⟨qa,qn,qc,aa,an,ac,ta,tn,tc,ba,bn,bc,ka,kn,kc,rfl⟩:=PrVal.open hg;have HGu:=hid hg;have HKu:=hid hk;have HVu:=hid hv;have HPs:=hid hp;have HBs:=hid hb;clear hg hk hv hp hb;obtain⟨W3,hW3⟩:∃W,ws.alloc (.cells (gP u qa qn qc aa an ac ta tn tc ba bn bc ka kn kc) 31)=W:=⟨_,rfl⟩;have hb3:Below ws.heap.size ws W3:=(by rw[<-hW3];exact bR.alloc lR _);have HX3:=hid (show W3.heap[ws.heap.size]? =some (.cells (gP u qa qn qc aa an ac ta tn tc ba bn bc ka kn kc) 31 (0,0)) by rw[<-hW3];exact World.alloc_heap_new _ _);have HW3:=hid hW3;have HB3:=hid hb3;clear hb3 hW3)|(rw[HW3.out];have hbs:=HBs.out.size;have HRW:Hid (LRow 31 12 W1.heap.size (fun B w v p=>PrVal B w v p) (fun _=>False) W3 (.slice ga gn gc) vs (us++[x])):=hid (HLR.out.frame lyPr ((((HB5.out.trans HBs.out).to HB3.out)).o _) hRb (fun _ h=>h.elim));have HV3:Hid (PrVal (fun k=>W1.heap.size<=k/\k<W3.heap.size/\¬False/\some k≠(Value.slice ga gn gc).ownBlock) W3 (.agg (gP u qa qn qc aa an ac ta tn tc ba bn bc ka kn kc)) u):=hid (PrVal.mono (fun k hk=>⟨lT (lT hsv h5) hk.1,hk.2,fun h=>h,fun e=>by have:=(HLT.out k e.symm).2;have:=hk.1;omega⟩) (GPr.but HGu.out (But.of (P:=R) HB3.out) (by omega)));at_builtin;refine Ji Yv rfl _ _ rfl rfl HRW.out.row (some ⟨ws.heap.size,0,none⟩) 1 1 [[.int .i64 u.k,.string u.c,.string u.x,.slice qa qn qc,.slice aa an ac,.int .i64 u.t.k,.int .i64 u.t.p,.string u.t.n,.int .i64 u.t.s,.slice ta tn tc,.slice ba bn bc,.slice ka kn kc]] rfl rfl ?_ (JY HX3.out) ?_ ?_ (lT (lT hsv h5) (lT hbs HB3.out.size)) ?_))
   ·intro e he;rw[mS he];rfl
   ·intro e he u hu;rw[mS he] at hu;exact lyPr.one HV3.out u hu
   ·rw[List.length_map,List.length_singleton,HRW.out.len];have:=HLSZ.out;omega
   intro ha hn' hc' w6 hr6 hg6 hq6
   have hrow6:=HRW.out.grow lyPr HV3.out hr6 hg6 hq6 (fun _ h=>h.elim)
   have HR6:=hid hrow6
   have HP6:=hid ((HPs.out.to HB3.out).grown hg6 HLA.out hR (fun k hk=>lT (Nat.le_of_lt hs1) (HLT.out k hk).1))
   have HBO6:Hid (But R w w6):=hid ((((((HBo.out.trans HB5.out).trans HBs.out).to HB3.out).o (fun _=>False)).trans (ButO.grown hg6 R) (fun k hk=> .inr (by have:=(HLT.out k hk.symm).1;omega))).but (fun _ _ h=>h))
   have HZ6:Hid (Blk w6 w.heap.size z12 31):=hid ((hg6.block w.heap.size (by have:=HB3.out.size;omega) (fun e=>by have:=(HLT.out _ e.symm).1;omega)).trans ((HB3.out.block w.heap.size (by omega)).trans (((HB5.out.trans HBs.out).block w.heap.size (by omega) (by omega)).trans HZ0.out)))
   have HS6:Hid (W1.heap.size<=w6.heap.size):=hid (lT (lT (lT hsv h5) (lT hbs HB3.out.size)) hg6.size)
   clear hr6 hg6 hq6 hrow6
   go_wp2_with fail
   go_roundw
   case rel=>exact⟨us++[x],u,_,_,_,_,g3,st4,_,rfl,hid rfl,HR6,HP6,HBO6,HMORE,HVu,HG3,hid (by have:=HLN.out;have:=HNL.out;rw[List.length_append,List.length_singleton];omega),HKu,HS6,HZ6⟩
   case measure=>
    rw[HP6.out.lenW,HLENV.out]
    have a:=HNL.out
    have b:(Qa E (QV Qb (fitF g3 st4)) st4).len<=st4.len:=len_le E (fun _ _ _ h=>Nat.le_of_lt (Fq _ _ _ _ h)) st4
    omega
  |false=>
   have k0:(t3.toList==[124])=false:=by rw[<-ht3];exact Qt hq
   have hlast:=HPL.out.last HVX.out (by rw[HST.out];exact hq)
   rw[HST.out] at hlast
   have HEND:=hid hlast.1
   have HVL:=hid hlast.2
   have HCT:=hid HPL.out.cnt
   clear hlast ht3 hq
   go_upto_region 5 with(go_at_call 58;refine(Qw R _ all E _ _ HPa.out).mono ?_;rw[HT3.out];rintro en w7⟨rfl,hb⟩;have HP7:=hid (HPa.out.to hb);have HBo7:=hid (HBo.out.to hb);have HLR7:Hid (LRow 31 12 W1.heap.size (fun B w v p=>PrVal B w v p) (fun _=>False) w7 (.slice ga gn gc) vs (us++[x])):=hid (HLR.out.frame lyPr ((But.of (P:=R) hb).o _) hRb (fun _ h=>h.elim));have HZ7:=hid ((hb.block w.heap.size (gl0 HZ0.out)).trans HZ0.out);have hsv7:=hb.size;clear hb)
   clear HPa HBo HLR HZ0 HT3 k0
   match us,HLR7,HPL,HLN,HLSZ,HVL,HCT with
   |[],HLR7,HPL,HLN,HLSZ,HVL,HCT=>
    have HVL0:Hid (∀y,Qj (QT Qb (f+1)) st=some y->x=y):=hid (fun y hy=>(HVL.out y hy).symm)
    obtain⟨v,hv,hpv⟩:=HLR7.out.at (j:=0) (x:=x) rfl
    obtain⟨qa,qn,qc,aa,an,ac,ta,tn,tc,ba,bn,bc,ka,kn,kc,hve⟩:=PrVal.open hpv
    rcases HLR7.out.parts with⟨_,e⟩|⟨gb,cap,hsl,hgb,hgw,hcap⟩
    ·cases e
    have hcell:∀i z,(cl v)[i]? =some z->w7.cell? ⟨gb,0*12+i,none⟩=some z:=fun i z hz=>HLR7.out.cells hsl hv hz
    subst hve
    injection hsl with e1 e2 e3
    subst e1
    subst e2
    subst e3
    have hcc:w7.cell? ⟨gb,0,none⟩=some (.int .i64 x.k)/\w7.cell? ⟨gb,1,none⟩=some (.string x.c)/\w7.cell? ⟨gb,2,none⟩=some (.string x.x)/\w7.cell? ⟨gb,3,none⟩=some (.slice qa qn qc)/\w7.cell? ⟨gb,4,none⟩=some (.slice aa an ac)/\w7.cell? ⟨gb,5,none⟩=some (.int .i64 x.t.k)/\w7.cell? ⟨gb,6,none⟩=some (.int .i64 x.t.p)/\w7.cell? ⟨gb,7,none⟩=some (.string x.t.n)/\w7.cell? ⟨gb,8,none⟩=some (.int .i64 x.t.s)/\w7.cell? ⟨gb,9,none⟩=some (.slice ta tn tc)/\w7.cell? ⟨gb,10,none⟩=some (.slice ba bn bc)/\w7.cell? ⟨gb,11,none⟩=some (.slice ka kn kc):=⟨hcell 0 _ rfl,hcell 1 _ rfl,hcell 2 _ rfl,hcell 3 _ rfl,hcell 4 _ rfl,hcell 5 _ rfl,hcell 6 _ rfl,hcell 7 _ rfl,hcell 8 _ rfl,hcell 9 _ rfl,hcell 10 _ rfl,hcell 11 _ rfl⟩
    obtain⟨d0,d1,d2,d3,d4,d5,d6,d7,d8,d9,d10,d11⟩:=hcc
    have HPV:=hid hpv
    obtain⟨⟨q0,q1,q2,q3,q4,q5,q6,q7,q8,q9,q10,q11⟩,z0,z1,z2,z3,z4,z5,z6,z7,z8,z9,z10,z11⟩:=c12p HZ7.out
    clear hcell hv hpv HLR7
    go_wp2_with fail
    have hx8:=JZ HZ7.out (.int .i64 x.k) (.string x.c) (.string x.x) (.slice qa qn qc) (.slice aa an ac) (.int .i64 x.t.k) (.int .i64 x.t.p) (.string x.t.n) (.int .i64 x.t.s) (.slice ta tn tc) (.slice ba bn bc) (.slice ka kn kc)
    obtain⟨⟨y0,y1,y2,y3,y4,y5,y6,y7,y8,y9,y10,y11⟩,-⟩:=c12p hx8
    refine bodyPost_ret (v:= .agg (gP x qa qn qc aa an ac ta tn tc ba bn bc ka kn kc)) (by simp[results,Tryz.results33,go_sem,y0,y1,y2,y3,y4,y5,y6,y7,y8,y9,y10,y11]) rfl ?_
    have hsw:W1.heap.size<=w7.heap.size:=lT hsv hsv7
    have hgx:GPr W1.heap.size w7 x (.agg (gP x qa qn qc aa an ac ta tn tc ba bn bc ka kn kc)):=PrVal.mono (fun k hk=>⟨hk.1,hk.2.1⟩) HPV.out
    have hkx:(Ju x).length<=st.len+1:=by have:=HKX.out;have:=HLN.out;simp only[List.length_nil] at this;omega
    have HPe:Hid (RdIs R la all E (Qa E (QT Qb (f+1)) st) w7):=hid (by rw[HEND.out];exact HP7.out)
    refine⟨⟨_,x,rfl,⟨(hgx.put12 hs1 (.int .i64 x.k) (.string x.c) (.string x.x) (.slice qa qn qc) (.slice aa an ac) (.int .i64 x.t.k) (.int .i64 x.t.p) (.string x.t.n) (.int .i64 x.t.s) (.slice ta tn tc) (.slice ba bn bc) (.slice ka kn kc)).mono (Nat.le_of_lt hs1),hkx⟩,HVL0.out⟩,HPe.out.oth (X:=w.heap.size) (fun j hj=>QN hj (.int .i64 x.k) (.string x.c) (.string x.x) (.slice qa qn qc) (.slice aa an ac) (.int .i64 x.t.k) (.int .i64 x.t.p) (.string x.t.n) (.int .i64 x.t.s) (.slice ta tn tc) (.slice ba bn bc) (.slice ka kn kc)) (QF _ _ (.int .i64 x.k) (.string x.c) (.string x.x) (.slice qa qn qc) (.slice aa an ac) (.int .i64 x.t.k) (.int .i64 x.t.p) (.string x.t.n) (.int .i64 x.t.s) (.slice ta tn tc) (.slice ba bn bc) (.slice ka kn kc)) hR HLA.out,HBo7.out.put12 lR (.int .i64 x.k) (.string x.c) (.string x.x) (.slice qa qn qc) (.slice aa an ac) (.int .i64 x.t.k) (.int .i64 x.t.p) (.string x.t.n) (.int .i64 x.t.s) (.slice ta tn tc) (.slice ba bn bc) (.slice ka kn kc)⟩
   |u1::us,HLR7,HPL,HLN,HLSZ,HVL,HCT=>
    rcases HLR7.out.parts with⟨_,e⟩|⟨gb,cap,hsl,hgb,hgw,hcap⟩
    ·cases e
    have HEL:Hid (∀(k:Nat) (v:Value) (p:Pr),vs[k]? =some v->(u1::us++[x])[k]? =some p->PrVal (fun b=>W1.heap.size<=b/\b<w7.heap.size) w7 v p):=hid (fun k v p h1 h2=>PrVal.mono (fun b hb=>⟨hb.1,hb.2.1⟩) (HLR7.out.val k v p h1 h2))
    have HCE:Hid (∀(k:Nat) (v:Value) (i:Nat) (z:Value),vs[k]? =some v->(cl v)[i]? =some z->w7.cell? ⟨gb,k*12+i,none⟩=some z):=hid (fun k v i z h1 h2=>HLR7.out.cells hsl h1 h2)
    have HVN:Hid (vs.length=(u1::us++[x]).length):=hid HLR7.out.len
    injection hsl with e1 e2 e3
    subst e1
    subst e2
    subst e3
    have HVL1:Hid (∀y,Qj (QT Qb (f+1)) st=some y->Pr.mk 7 ⟨#[]⟩ ⟨#[]⟩ [] [] zT ((u1::us++[x]).flatMap Ju)=y):=hid (fun y hy=>by rw[HVL.out y hy,if_neg (List.cons_ne_nil _ _)])
    have HCX:Hid (((u1::us++[x]).flatMap Ju).length<=st.len+1):=hid (by
     have a:=HCT.out
     have b:=HKX.out
     rw[List.flatMap_append,List.flatMap_singleton,List.length_append]
     omega)
    have hN2:2<=(u1::us++[x]).length:=by simp
    have hNZ:=HLSZ.out
    clear HLR7 HVL HCT HLSZ HLN HPL
    obtain⟨xs,hxs⟩:∃xs,u1::us++[x]=xs:=⟨_,rfl⟩
    rw[hxs] at HEL HVN HVL1 HCX hN2 hNZ hcap |-
    clear hxs
    obtain⟨N,hN⟩:∃N,xs.length=N:=⟨_,rfl⟩
    rw[hN] at HVN hN2 hNZ hcap |-
    have HN:=hid hN
    have kN:((N:Int)==1)=false:=by simp;omega
    clear hN HKX HST HVX HGF HLENV HWV HF HSG
    go_upto_region 8 with fail
    obtain⟨W8,hW8⟩:∃W,w7.alloc (.cells (cN 7 ⟨#[]⟩ ⟨#[]⟩ sN sN sN) 31)=W:=⟨_,rfl⟩
    rw[hW8]
    have hb8:=(made hW8).1
    have x8:=(made hW8).2
    have HB8:=hid hb8
    have HX8:=hid x8
    have hgw8:W1.heap.size<=w7.heap.size:=lT hsv hsv7
    have h78:w7.heap.size<W8.heap.size:=gl0 x8
    clear hb8 x8 hW8
    go_wp2_with fail
    go_loopw [5] (fun i wr=>∃(k:Nat) (ya:Option Addr) (yn yc:Nat) (zs:List Value),i= .int .i64 k/\k<=N/\Hid (Blk wr w7.heap.size (cN 7 ⟨#[]⟩ ⟨#[]⟩ sN sN (.slice ya yn yc)) 31)/\Hid (LRow 31 12 W1.heap.size (fun B w v p=>PrVal B w v p) (fun j=>j=w7.heap.size) wr (.slice ya yn yc) zs ((xs.take k).flatMap Ju))/\Hid (Below w7.heap.size w7 wr)/\Hid (∀j,(Value.slice ya yn yc).ownBlock=some j->w7.heap.size<j)) (fun i _=>N-(intOf i).toNat)
    case atStart=>
     exact⟨0,none,0,0,[],rfl,Nat.zero_le _,HX8,hid (LRow.nil _ _ _ _ _ _),HB8,hid (fun j h=>by cases h)⟩
    case round=>
     obtain⟨k,ya,yn,yc,zs,rfl,hkN,HBOX,HLO,HBW,HOW⟩:=hrel
     rename World=>V8
     by_cases hlt:k<N
     ·obtain⟨p,hp⟩:∃p,xs[k]? =some p:=⟨_,List.getElem?_eq_getElem (by rw[HN.out];exact hlt)⟩
      obtain⟨v,hv⟩:∃v,vs[k]? =some v:=⟨_,List.getElem?_eq_getElem (by rw[HVN.out];exact hlt)⟩
      have hpv:=HEL.out k v p hv hp
      obtain⟨qa,qn,qc,aa,an,ac,ta,tn,tc,ba,bn,bc,ka,kn,kc,hve⟩:=PrVal.open hpv
      have hcell:∀i z,(cl v)[i]? =some z->V8.cell? ⟨gb,k*12+i,none⟩=some z:=fun i z hz=>(HBW.out.cell (p:=⟨gb,k*12+i,none⟩) hgw).trans (HCE.out k v i z hv hz)
      subst hve
      have HCL:Hid (V8.cell? ⟨gb,k*12,none⟩=some (.int .i64 p.k)/\V8.cell? ⟨gb,k*12+1,none⟩=some (.string p.c)/\V8.cell? ⟨gb,k*12+2,none⟩=some (.string p.x)/\V8.cell? ⟨gb,k*12+3,none⟩=some (.slice qa qn qc)/\V8.cell? ⟨gb,k*12+4,none⟩=some (.slice aa an ac)/\V8.cell? ⟨gb,k*12+5,none⟩=some (.int .i64 p.t.k)/\V8.cell? ⟨gb,k*12+6,none⟩=some (.int .i64 p.t.p)/\V8.cell? ⟨gb,k*12+7,none⟩=some (.string p.t.n)/\V8.cell? ⟨gb,k*12+8,none⟩=some (.int .i64 p.t.s)/\V8.cell? ⟨gb,k*12+9,none⟩=some (.slice ta tn tc)/\V8.cell? ⟨gb,k*12+10,none⟩=some (.slice ba bn bc)/\V8.cell? ⟨gb,k*12+11,none⟩=some (.slice ka kn kc)):=hid ⟨hcell 0 _ rfl,hcell 1 _ rfl,hcell 2 _ rfl,hcell 3 _ rfl,hcell 4 _ rfl,hcell 5 _ rfl,hcell 6 _ rfl,hcell 7 _ rfl,hcell 8 _ rfl,hcell 9 _ rfl,hcell 10 _ rfl,hcell 11 _ rfl⟩
      have HPV:=hid hpv
      clear hcell hpv
      have c0:=HCL.out.1
      have hlz:0<=(k:Int):=by omega
      have hli:(k:Int)<(N:Int):=by omega
      have HBXO:Hid (∀W,ButO R (fun j=>some j=(Value.slice ya yn yc).ownBlock) V8 W->Blk W w7.heap.size (cN 7 ⟨#[]⟩ ⟨#[]⟩ sN sN (.slice ya yn yc)) 31):=hid (fun W hW=>(hW.block w7.heap.size (gl0 HBOX.out) (by omega) (fun e=>by have:=HOW.out _ e.symm;omega)).trans HBOX.out)
      by_cases h7:p.k=7
      ·have kk:(p.k==7)=true:=by rw[h7];rfl
       go_upto_region 12 with fail
       refine wp_region_held_drew (S:=fun _=>True) (by kernel_rfl) trivial (fun hHeld=>?_)
       refine QY [0,1,2,3,4,5,6,7,8,9] (Rail [(7,1),(7,6)] [(0,.pointer (some ⟨w7.heap.size,11,none⟩)),(1,.slice ya yn yc),(2,.slice (some ⟨gb,0,none⟩) N gc),(3,.int .i64 k),(4,.pointer (some ⟨gb,k*12,none⟩)),(5,.pointer (some ⟨gb,k*12+11,none⟩)),(6,.slice ka kn kc),(8,.pointer (some ⟨w7.heap.size,11,none⟩))] [(7,fun v W=>∃(ha:Option Addr) (hn hc:Nat) (zs':List Value),v= .slice ha hn hc/\Below w7.heap.size w7 W/\Blk W w7.heap.size (cN 7 ⟨#[]⟩ ⟨#[]⟩ sN sN (.slice ya yn yc)) 31/\LRow 31 12 W1.heap.size (fun B w v p=>PrVal B w v p) (fun j=>j=w7.heap.size) W (.slice ha hn hc) zs' ((xs.take k).flatMap Ju++Ju p)/\(∀j,(Value.slice ha hn hc).ownBlock=some j->w7.heap.size<j)),(9,fun _ W=>∃(ha:Option Addr) (hn hc:Nat) (zs':List Value),Below w7.heap.size w7 W/\Blk W w7.heap.size (cN 7 ⟨#[]⟩ ⟨#[]⟩ sN sN (.slice ha hn hc)) 31/\LRow 31 12 W1.heap.size (fun B w v p=>PrVal B w v p) (fun j=>j=w7.heap.size) W (.slice ha hn hc) zs' ((xs.take k).flatMap Ju++Ju p)/\(∀j,(Value.slice ha hn hc).ownBlock=some j->w7.heap.size<j))] (fun W=>W=V8.drew)) (by kernel_rfl) (by kernel_rfl) (fun _ _ _ _=>trivial) (Rail.start (S0:=fun W=>W=V8.drew) rfl _) ?stepsA ?stopA
       case stepsA=>
        refine fC ⟨?_,fC ⟨?_,fC ⟨?_,fC ⟨?_,fC ⟨?_,fC ⟨?_,fC ⟨?_,fC ⟨?_,fC ⟨?_,fC ⟨?_,fN⟩⟩⟩⟩⟩⟩⟩⟩⟩⟩
        ·refine InvStep.lst 0 [] KE (fun L vals olds wx hLk hdeps hRl K hK2=>?_)
         simp only[Qs,setD,sS,sZ] at hK2 |-
         clear hdeps
         go_simp
         exact hK2 _ _ (hRl.pure 0 _ rfl fN (fC ⟨rfl,fN⟩))
        ·refine InvStep.lst 1 [0] KE (fun L vals olds wx hLk hdeps hRl K hK2=>?_)
         simp only[Qs,setD,sS,sZ] at hK2 |-
         simp only[List.all_cons,List.all_nil,Bool.and_true] at hdeps
         have es0:=(Qe (vals:=vals) (olds:=olds) hdeps).trans (hRl.val 0 rfl hdeps)
         simp only[es0] at hK2 |-
         clear es0
         have hbx:=hRl.before 0 1 (I:=fun W=>W=V8.drew) rfl rfl hLk (fun e=>e) fN
         subst hbx
         have cl:=(c12p HBOX.out).1.2.2.2.2.2.2.2.2.2.2.2
         go_simp
         clear cl
         exact hK2 _ _ (hRl.pure 1 _ rfl fN (fC ⟨rfl,fN⟩))
        ·refine InvStep.lst 2 [] KE (fun L vals olds wx hLk hdeps hRl K hK2=>?_)
         simp only[Qs,setD,sS,sZ] at hK2 |-
         clear hdeps
         go_simp
         exact hK2 _ _ (hRl.pure 2 _ rfl fN (fC ⟨rfl,fN⟩))
        ·refine InvStep.lst 3 [] KE (fun L vals olds wx hLk hdeps hRl K hK2=>?_)
         simp only[Qs,setD,sS,sZ] at hK2 |-
         clear hdeps
         go_simp
         exact hK2 _ _ (hRl.pure 3 _ rfl fN (fC ⟨rfl,fN⟩))
        ·refine InvStep.lst 4 [2,3] KE (fun L vals olds wx hLk hdeps hRl K hK2=>?_)
         simp only[Qs,setD,sS,sZ] at hK2 |-
         simp only[List.all_cons,List.all_nil,Bool.and_true,Bool.and_eq_true] at hdeps
         have es0:=(Qe (vals:=vals) (olds:=olds) hdeps.1).trans (hRl.val 2 rfl hdeps.1)
         have es1:=(Qe (vals:=vals) (olds:=olds) hdeps.2).trans (hRl.val 3 rfl hdeps.2)
         simp only[es0,es1] at hK2 |-
         clear es0 es1
         go_simp
         exact hK2 _ _ (hRl.pure 4 _ rfl fN (fC ⟨rfl,fN⟩))
        ·refine InvStep.lst 5 [4] KE (fun L vals olds wx hLk hdeps hRl K hK2=>?_)
         simp only[Qs,setD,sS,sZ] at hK2 |-
         simp only[List.all_cons,List.all_nil,Bool.and_true] at hdeps
         have es0:=(Qe (vals:=vals) (olds:=olds) hdeps).trans (hRl.val 4 rfl hdeps)
         simp only[es0] at hK2 |-
         clear es0
         go_simp
         exact hK2 _ _ (hRl.pure 5 _ rfl fN (fC ⟨rfl,fN⟩))
        ·refine InvStep.lst 6 [5] KE (fun L vals olds wx hLk hdeps hRl K hK2=>?_)
         simp only[Qs,setD,sS,sZ] at hK2 |-
         simp only[List.all_cons,List.all_nil,Bool.and_true] at hdeps
         have es0:=(Qe (vals:=vals) (olds:=olds) hdeps).trans (hRl.val 5 rfl hdeps)
         simp only[es0] at hK2 |-
         clear es0
         have hbx:=hRl.before 0 6 (I:=fun W=>W=V8.drew) rfl rfl hLk (fun e=>e) fN
         subst hbx
         have cl:=HCL.out.2.2.2.2.2.2.2.2.2.2.2
         go_simp
         clear cl
         exact hK2 _ _ (hRl.pure 6 _ rfl fN (fC ⟨rfl,fN⟩))
        ·refine InvStep.lst 7 [1,6] KE (fun L vals olds wx hLk hdeps hRl K hK2=>?_)
         simp only[Qs,setD,sS,sZ] at hK2 |-
         simp only[List.all_cons,List.all_nil,Bool.and_true,Bool.and_eq_true] at hdeps
         obtain⟨hc,hn⟩:=hRl.stat 0 rfl hLk trivial rfl (fC ⟨hdeps.1,(fC ⟨hdeps.2,fN⟩)⟩) rfl
         dsimp only[QR,List.take] at hc
         have e1:=(Qe (vals:=vals) (olds:=olds) hdeps.1).trans (hRl.val 1 rfl hdeps.1)
         have e6:=(Qe (vals:=vals) (olds:=olds) hdeps.2).trans (hRl.val 6 rfl hdeps.2)
         subst hc
         have hrow:=HLO.out.frame lyPr ((But.refl R V8).drew.o (fun j=>j=w7.heap.size)) hRb (O':=fun j=>j=w7.heap.size) (fun j hj=> .inl hj)
         have hpk:PrVal (fun b=>W1.heap.size<=b/\b<w7.heap.size) V8.drew (.agg (gP p qa qn qc aa an ac ta tn tc ba bn bc ka kn kc)) p:=PrVal.keep (fun j o hj ho _=>(HBW.out.drew.block j hj.2).trans ho) HPV.out
         obtain⟨zs2,a2,c2,ekv,hl2,hv2,hsrc⟩:=LC (PrVal.kids hpk)
         injection ekv with ek1 ek2 ek3
         have hall2:=WT hl2 hv2
         obtain⟨hft,hfl⟩:=Vx hp
         have hf1:Ju p=p.ps:=if_pos h7
         have hzl:=hrow.len
         have hcx:=HCX.out
         have hst:=HLN0.out
         refine Za (ops:=#[]) rfl (Zb Yv (by rfl) _ _ (by rfl) (by exact e1) hrow.row ka kn kc (zs2.map cl) (by exact e6) (by rw[List.length_map,hl2];exact ek2) (fun e he=>by obtain⟨u,hu,rfl⟩:=List.mem_map.1 he;obtain⟨q,hq⟩:=hall2 u hu;exact lyPr.len hq) (by rw[ek1];exact hsrc) (fun e he y hy=>by obtain⟨u,hu,rfl⟩:=List.mem_map.1 he;obtain⟨q,hq⟩:=hall2 u hu;exact lyPr.one hq y hy) (by rw[List.length_map,List.length_map,hzl,hl2,<-hf1];omega) (lT hgw8 HBW.out.size) (zs.map cl++zs2.map cl) rfl (fun ha hn' hc' w4 hr4 hg4 hq4=>?_))
         have hgrow:=hrow.growAll lyPr hl2 (fun j u q h1 h2=>PrVal.mono (fun b hb=>⟨hb.1,lL hb.2 HBW.out.size,fun e=>by have:=hb.2;omega,fun e=>by have:=HOW.out b e.symm;have:=hb.2;omega⟩) (hv2 j u q h1 h2)) hr4 hg4 hq4 (fun j hj=>by rw[hj];exact gl0 HBOX.out)
         have hbo:ButO R (fun j=>some j=(Value.slice ya yn yc).ownBlock) V8 w4:=((But.refl R V8).drew.o _).trans (ButO.grown hg4 R) (fun j h=> .inl h)
         have hbl:Below w7.heap.size w7 w4:=HBW.out.drew.grown hg4 (HBW.out.size) (fun j hj=>Nat.le_of_lt (HOW.out j hj))
         exact hK2 _ _ (hn _ _ ⟨ha,hn',hc',zs++zs2,rfl,hbl,HBXO.out w4 hbo,by rw[hf1];exact hgrow,fun j hj=>by
          rcases hq4 with e|e
          ·exact HOW.out j (e.symm.trans hj)
          ·have e':=Option.some.inj (e.symm.trans hj)
           have:=gl0 HBOX.out
           rw[<-e'];exact this⟩)
        ·refine InvStep.lst 8 [] KE (fun L vals olds wx hLk hdeps hRl K hK2=>?_)
         simp only[Qs,setD,sS,sZ] at hK2 |-
         clear hdeps
         go_simp
         exact hK2 _ _ (hRl.pure 8 _ rfl fN (fC ⟨rfl,fN⟩))
        ·refine InvStep.lst 9 [7,8] KE (fun L vals olds wx hLk hdeps hRl K hK2=>?_)
         simp only[Qs,setD,sS,sZ] at hK2 |-
         simp only[List.all_cons,List.all_nil,Bool.and_true,Bool.and_eq_true] at hdeps
         obtain⟨hc,hn⟩:=hRl.stat 1 rfl hLk hdeps.1 rfl fN rfl
         dsimp only[QR,List.take] at hc
         have e8:=(Qe (vals:=vals) (olds:=olds) hdeps.2).trans (hRl.val 7 rfl hdeps.2)
         obtain⟨ha,hn',hc',zs',e5,hbl,hbx,hlr,how⟩:=hc
         have e5':=(Qe (vals:=vals) (olds:=olds) hdeps.1).trans e5
         have cl:=(c12p hbx).1.2.2.2.2.2.2.2.2.2.2.2
         have fz:=(c12p hbx).2.2.2.2.2.2.2.2.2.2.2.2
         simp only[e5',e8] at hK2 |-
         have HH:=hid hlr
         have HBB:=hid hbl
         have HXX:=hid hbx
         have HWW:=hid how
         clear e5 e5' e8 hlr hbl hbx how
         go_simp
         clear cl fz
         exact hK2 undef _ (hn _ _ ⟨ha,hn',hc',zs',HBB.out.setCell lR _,Qd HXX.out 11 _,HH.out.frame lyPr (ButO.setC (O:=fun j=>j=w7.heap.size) (ButO.refl R _ _) rfl 11 _) hRb (fun j hj=> .inl hj),HWW.out⟩)
       case stopA=>
        refine JI [(0,some 38),(1,some 39),(2,some 40),(3,some 41),(4,some 42),(5,some 43),(6,some 44),(7,some 45),(8,some 46),(9,none)] (by kernel_rfl) (by decide) (fun L vals olds wA hall hRl=>?_)
        have hfin:=hRl.fin (by simp at hall |-;simp[hall])
        dsimp only[QR] at hfin
        clear hRl hall hHeld
        simp only[Qs,sS,sZ]
        obtain⟨s0,hs0⟩:∃s,QA L vals olds 0=s:=⟨_,rfl⟩
        rw[hs0]
        clear hs0
        obtain⟨s1,hs1⟩:∃s,QA L vals olds 1=s:=⟨_,rfl⟩
        rw[hs1]
        clear hs1
        obtain⟨s2,hs2⟩:∃s,QA L vals olds 2=s:=⟨_,rfl⟩
        rw[hs2]
        clear hs2
        obtain⟨s3,hs3⟩:∃s,QA L vals olds 3=s:=⟨_,rfl⟩
        rw[hs3]
        clear hs3
        obtain⟨s4,hs4⟩:∃s,QA L vals olds 4=s:=⟨_,rfl⟩
        rw[hs4]
        clear hs4
        obtain⟨s5,hs5⟩:∃s,QA L vals olds 5=s:=⟨_,rfl⟩
        rw[hs5]
        clear hs5
        obtain⟨s6,hs6⟩:∃s,QA L vals olds 6=s:=⟨_,rfl⟩
        rw[hs6]
        clear hs6
        obtain⟨s7,hs7⟩:∃s,QA L vals olds 7=s:=⟨_,rfl⟩
        rw[hs7]
        clear hs7
        obtain⟨s8,hs8⟩:∃s,QA L vals olds 8=s:=⟨_,rfl⟩
        rw[hs8]
        clear hs8
        obtain⟨ha,hn',hc',zs',hbl,hbx,hlr,how⟩:=hfin
        have hft:=(Vx hp).1
        have HBL:=hid hbl
        have HBX:=hid hbx
        have HLRn:Hid (LRow 31 12 W1.heap.size (fun B w v p=>PrVal B w v p) (fun j=>j=w7.heap.size) wA (.slice ha hn' hc') zs' ((xs.take (k+1)).flatMap Ju)):=hid (by rw[hft];exact hlr)
        have HOWn:=hid how
        clear hbl hbx hlr how hft
        go_wp2_with fail
        go_roundw
        case rel=>exact⟨k+1,ha,hn',hc',zs',by go_num,by omega,HBX,HLRn,HBL,HOWn⟩
        case measure=>simp[intOf];omega
      ·have kk:(p.k==7)=false:=by simpa using h7
       go_upto_region 13 with fail
       refine wp_region_held_drew (S:=fun _=>True) (by kernel_rfl) trivial (fun hHeld=>?_)
       refine QY [0,1,2,3,4,5,6,7,8,9] (Rail [(7,1),(6,5)] [(0,.pointer (some ⟨w7.heap.size,11,none⟩)),(1,.slice ya yn yc),(2,.slice (some ⟨gb,0,none⟩) N gc),(3,.int .i64 k),(4,.pointer (some ⟨gb,k*12,none⟩)),(5,.agg (gP p qa qn qc aa an ac ta tn tc ba bn bc ka kn kc)),(8,.pointer (some ⟨w7.heap.size,11,none⟩))] [(6,fun v W=>∃nb:Nat,v= .slice (some ⟨nb,0,none⟩) 1 1/\Below V8.heap.size V8 W/\V8.heap.size<=nb/\W.heap[nb]? =some (.cells (gP p qa qn qc aa an ac ta tn tc ba bn bc ka kn kc) 31 (0,0))),(7,fun v W=>∃(ha:Option Addr) (hn hc:Nat) (zs':List Value),v= .slice ha hn hc/\Below w7.heap.size w7 W/\Blk W w7.heap.size (cN 7 ⟨#[]⟩ ⟨#[]⟩ sN sN (.slice ya yn yc)) 31/\LRow 31 12 W1.heap.size (fun B w v p=>PrVal B w v p) (fun j=>j=w7.heap.size) W (.slice ha hn hc) zs' ((xs.take k).flatMap Ju++Ju p)/\(∀j,(Value.slice ha hn hc).ownBlock=some j->w7.heap.size<j)),(9,fun _ W=>∃(ha:Option Addr) (hn hc:Nat) (zs':List Value),Below w7.heap.size w7 W/\Blk W w7.heap.size (cN 7 ⟨#[]⟩ ⟨#[]⟩ sN sN (.slice ha hn hc)) 31/\LRow 31 12 W1.heap.size (fun B w v p=>PrVal B w v p) (fun j=>j=w7.heap.size) W (.slice ha hn hc) zs' ((xs.take k).flatMap Ju++Ju p)/\(∀j,(Value.slice ha hn hc).ownBlock=some j->w7.heap.size<j))] (fun W=>W=V8.drew)) (by kernel_rfl) (by kernel_rfl) (fun _ _ _ _=>trivial) (Rail.start (S0:=fun W=>W=V8.drew) rfl _) ?stepsB ?stopB
       case stepsB=>
        refine fC ⟨?_,fC ⟨?_,fC ⟨?_,fC ⟨?_,fC ⟨?_,fC ⟨?_,fC ⟨?_,fC ⟨?_,fC ⟨?_,fC ⟨?_,fN⟩⟩⟩⟩⟩⟩⟩⟩⟩⟩
        ·refine InvStep.lst 0 [] KD (fun L vals olds wx hLk hdeps hRl K hK2=>?_)
         simp only[Qs,setD,sS,sZ] at hK2 |-
         clear hdeps
         go_simp
         exact hK2 _ _ (hRl.pure 0 _ rfl fN (fC ⟨rfl,fN⟩))
        ·refine InvStep.lst 1 [0] KD (fun L vals olds wx hLk hdeps hRl K hK2=>?_)
         simp only[Qs,setD,sS,sZ] at hK2 |-
         simp only[List.all_cons,List.all_nil,Bool.and_true] at hdeps
         have es0:=(Qe (vals:=vals) (olds:=olds) hdeps).trans (hRl.val 0 rfl hdeps)
         simp only[es0] at hK2 |-
         clear es0
         have hbv:=hRl.before 1 1 (I:=fun W=>Below V8.heap.size V8 W) rfl rfl hLk (fun e=>by rw[e];exact bR.drew) (fC ⟨fun v h=>by obtain⟨_,_,h,_⟩:=h;exact h,fN⟩)
         have cl:=(c12p ((hbv.block w7.heap.size (gl0 HBOX.out)).trans HBOX.out)).1.2.2.2.2.2.2.2.2.2.2.2
         clear hbv
         go_simp
         clear cl
         exact hK2 _ _ (hRl.pure 1 _ rfl fN (fC ⟨rfl,fN⟩))
        ·refine InvStep.lst 2 [] KD (fun L vals olds wx hLk hdeps hRl K hK2=>?_)
         simp only[Qs,setD,sS,sZ] at hK2 |-
         clear hdeps
         go_simp
         exact hK2 _ _ (hRl.pure 2 _ rfl fN (fC ⟨rfl,fN⟩))
        ·refine InvStep.lst 3 [] KD (fun L vals olds wx hLk hdeps hRl K hK2=>?_)
         simp only[Qs,setD,sS,sZ] at hK2 |-
         clear hdeps
         go_simp
         exact hK2 _ _ (hRl.pure 3 _ rfl fN (fC ⟨rfl,fN⟩))
        ·refine InvStep.lst 4 [2,3] KD (fun L vals olds wx hLk hdeps hRl K hK2=>?_)
         simp only[Qs,setD,sS,sZ] at hK2 |-
         simp only[List.all_cons,List.all_nil,Bool.and_true,Bool.and_eq_true] at hdeps
         have es0:=(Qe (vals:=vals) (olds:=olds) hdeps.1).trans (hRl.val 2 rfl hdeps.1)
         have es1:=(Qe (vals:=vals) (olds:=olds) hdeps.2).trans (hRl.val 3 rfl hdeps.2)
         simp only[es0,es1] at hK2 |-
         clear es0 es1
         go_simp
         exact hK2 _ _ (hRl.pure 4 _ rfl fN (fC ⟨rfl,fN⟩))
        ·refine InvStep.lst 5 [4] KD (fun L vals olds wx hLk hdeps hRl K hK2=>?_)
         simp only[Qs,setD,sS,sZ] at hK2 |-
         simp only[List.all_cons,List.all_nil,Bool.and_true] at hdeps
         have es0:=(Qe (vals:=vals) (olds:=olds) hdeps).trans (hRl.val 4 rfl hdeps)
         simp only[es0] at hK2 |-
         clear es0
         have hbx:=hRl.before 0 5 (I:=fun W=>W=V8.drew) rfl rfl hLk (fun e=>e) fN
         subst hbx
         obtain⟨cl0,cl1,cl2,cl3,cl4,cl5,cl6,cl7,cl8,cl9,cl10,cl11⟩:=HCL.out
         go_simp
         clear cl0 cl1 cl2 cl3 cl4 cl5 cl6 cl7 cl8 cl9 cl10 cl11
         exact hK2 _ _ (hRl.pure 5 _ rfl fN (fC ⟨rfl,fN⟩))
        ·refine InvStep.lst 6 [5] KD (fun L vals olds wx hLk hdeps hRl K hK2=>?_)
         simp only[Qs,setD,sS,sZ] at hK2 |-
         simp only[List.all_cons,List.all_nil,Bool.and_true] at hdeps
         obtain⟨hc,hn⟩:=hRl.stat 0 rfl hLk trivial rfl (fC ⟨hdeps,fN⟩) rfl
         dsimp only[QR,List.take] at hc
         have e5:=(Qe (vals:=vals) (olds:=olds) hdeps).trans (hRl.val 5 rfl hdeps)
         simp only[e5] at hK2 |-
         have HCc:=hid hc
         clear e5 hc
         go_simp
         have hc:=HCc.out
         obtain⟨Wa,hWa⟩:∃Wa,wx.alloc (.cells (gP p qa qn qc aa an ac ta tn tc ba bn bc ka kn kc) 31)=Wa:=⟨_,rfl⟩
         have hbl:=(made hWa).1
         have xx:=(made hWa).2
         rw[hWa]
         have hx0:wx.heap.size=V8.heap.size:=by rw[hc];rfl
         have hbv:Below V8.heap.size V8 Wa:=by
          have h1:Below V8.heap.size V8 wx:=by rw[hc];exact bR.drew
          rw[hx0] at hbl
          exact h1.trans hbl
         exact hK2 _ _ (hn _ _ ⟨wx.heap.size,rfl,hbv,Nat.le_of_eq hx0.symm,xx⟩)
        ·refine InvStep.lst 7 [1,6] KD (fun L vals olds wx hLk hdeps hRl K hK2=>?_)
         simp only[Qs,setD,sS,sZ] at hK2 |-
         simp only[List.all_cons,List.all_nil,Bool.and_true,Bool.and_eq_true] at hdeps
         obtain⟨hc,hn⟩:=hRl.stat 1 rfl hLk hdeps.2 rfl (fC ⟨hdeps.1,fN⟩) rfl
         dsimp only[QR,List.take] at hc
         have e1:=(Qe (vals:=vals) (olds:=olds) hdeps.1).trans (hRl.val 1 rfl hdeps.1)
         obtain⟨nb,e6,hbv,hnb,hx4⟩:=hc
         have e6':=(Qe (vals:=vals) (olds:=olds) hdeps.2).trans e6
         have hrow:=HLO.out.frame lyPr ((But.of (P:=R) hbv).o (fun j=>j=w7.heap.size)) hRb (O':=fun j=>j=w7.heap.size) (fun j hj=> .inl hj)
         have hpk:PrVal (fun b=>W1.heap.size<=b/\b<w7.heap.size) wx (.agg (gP p qa qn qc aa an ac ta tn tc ba bn bc ka kn kc)) p:=PrVal.keep (fun j o hj ho _=>(hbv.block j (lL hj.2 HBW.out.size)).trans ((HBW.out.block j hj.2).trans ho)) HPV.out
         obtain⟨hft,hfl⟩:=Vx hp
         have hf1:Ju p=[p]:=if_neg h7
         have hf2:(Ju p).length=1:=by rw[hf1];rfl
         have hzl:=hrow.len
         have hcx:=HCX.out
         have hst:=HLN0.out
         have hvs:=hbv.size
         refine Za (ops:=#[]) rfl (Zb Yv (by rfl) _ _ (by rfl) (by exact e1) hrow.row (some ⟨nb,0,none⟩) 1 1 [cl (.agg (gP p qa qn qc aa an ac ta tn tc ba bn bc ka kn kc))] (by exact e6') rfl (fun e he=>by rw[mS he];rfl) (JY hx4) (fun e he y hy=>lyPr.one hpk y (by rw[mS he] at hy;exact hy)) (by rw[List.length_map,List.length_singleton,hzl];omega) (lT (lT hgw8 HBW.out.size) hvs) (zs.map cl++[cl (.agg (gP p qa qn qc aa an ac ta tn tc ba bn bc ka kn kc))]) rfl (fun ha hn' hc' w4 hr4 hg4 hq4=>?_))
         have hgrow:=hrow.grow lyPr (x:=p) (PrVal.mono (fun b hb=>⟨hb.1,lL (lL hb.2 HBW.out.size) hvs,fun e=>by have:=hb.2;omega,fun e=>by have:=HOW.out b e.symm;have:=hb.2;omega⟩) hpk) hr4 hg4 hq4 (fun j hj=>by rw[hj];exact lL (gl0 HBOX.out) hvs)
         have hbo:ButO R (fun j=>some j=(Value.slice ya yn yc).ownBlock) V8 w4:=((But.of (P:=R) hbv).o _).trans (ButO.grown hg4 R) (fun j h=> .inl h)
         have hbl:Below w7.heap.size w7 w4:=(HBW.out.trans (hbv.mono HBW.out.size)).grown hg4 (lT HBW.out.size hvs) (fun j hj=>Nat.le_of_lt (HOW.out j hj))
         exact hK2 _ _ (hn _ _ ⟨ha,hn',hc',_,rfl,hbl,HBXO.out w4 hbo,by rw[hf1];exact hgrow,fun j hj=>by
          rcases hq4 with e|e
          ·exact HOW.out j (e.symm.trans hj)
          ·have e':=Option.some.inj (e.symm.trans hj)
           have:=gl0 HBOX.out
           omega⟩)
        ·refine InvStep.lst 8 [] KD (fun L vals olds wx hLk hdeps hRl K hK2=>?_)
         simp only[Qs,setD,sS,sZ] at hK2 |-
         clear hdeps
         go_simp
         exact hK2 _ _ (hRl.pure 8 _ rfl fN (fC ⟨rfl,fN⟩))
        ·refine InvStep.lst 9 [7,8] KD (fun L vals olds wx hLk hdeps hRl K hK2=>?_)
         simp only[Qs,setD,sS,sZ] at hK2 |-
         simp only[List.all_cons,List.all_nil,Bool.and_true,Bool.and_eq_true] at hdeps
         obtain⟨hc,hn⟩:=hRl.stat 2 rfl hLk hdeps.1 rfl fN rfl
         dsimp only[QR,List.take] at hc
         have e8:=(Qe (vals:=vals) (olds:=olds) hdeps.2).trans (hRl.val 6 rfl hdeps.2)
         obtain⟨ha,hn',hc',zs',e5,hbl,hbx,hlr,how⟩:=hc
         have e5':=(Qe (vals:=vals) (olds:=olds) hdeps.1).trans e5
         have cl:=(c12p hbx).1.2.2.2.2.2.2.2.2.2.2.2
         have fz:=(c12p hbx).2.2.2.2.2.2.2.2.2.2.2.2
         simp only[e5',e8] at hK2 |-
         have HH:=hid hlr
         have HBB:=hid hbl
         have HXX:=hid hbx
         have HWW:=hid how
         clear e5 e5' e8 hlr hbl hbx how
         go_simp
         clear cl fz
         exact hK2 undef _ (hn _ _ ⟨ha,hn',hc',zs',HBB.out.setCell lR _,Qd HXX.out 11 _,HH.out.frame lyPr (ButO.setC (O:=fun j=>j=w7.heap.size) (ButO.refl R _ _) rfl 11 _) hRb (fun j hj=> .inl hj),HWW.out⟩)
       case stopB=>
        refine JI [(0,some 47),(1,some 48),(2,some 49),(3,some 50),(4,some 51),(5,some 52),(6,some 53),(7,some 54),(8,some 55),(9,none)] (by kernel_rfl) (by decide) (fun L vals olds wB hall hRl=>?_)
        have hfin:=hRl.fin (by simp at hall |-;simp[hall])
        dsimp only[QR] at hfin
        clear hRl hall hHeld
        simp only[Qs,sS,sZ]
        obtain⟨s0,hs0⟩:∃s,QA L vals olds 0=s:=⟨_,rfl⟩
        rw[hs0]
        clear hs0
        obtain⟨s1,hs1⟩:∃s,QA L vals olds 1=s:=⟨_,rfl⟩
        rw[hs1]
        clear hs1
        obtain⟨s2,hs2⟩:∃s,QA L vals olds 2=s:=⟨_,rfl⟩
        rw[hs2]
        clear hs2
        obtain⟨s3,hs3⟩:∃s,QA L vals olds 3=s:=⟨_,rfl⟩
        rw[hs3]
        clear hs3
        obtain⟨s4,hs4⟩:∃s,QA L vals olds 4=s:=⟨_,rfl⟩
        rw[hs4]
        clear hs4
        obtain⟨s5,hs5⟩:∃s,QA L vals olds 5=s:=⟨_,rfl⟩
        rw[hs5]
        clear hs5
        obtain⟨s6,hs6⟩:∃s,QA L vals olds 6=s:=⟨_,rfl⟩
        rw[hs6]
        clear hs6
        obtain⟨s7,hs7⟩:∃s,QA L vals olds 7=s:=⟨_,rfl⟩
        rw[hs7]
        clear hs7
        obtain⟨s8,hs8⟩:∃s,QA L vals olds 8=s:=⟨_,rfl⟩
        rw[hs8]
        clear hs8
        obtain⟨ha,hn',hc',zs',hbl,hbx,hlr,how⟩:=hfin
        have hft:=(Vx hp).1
        have HBL:=hid hbl
        have HBX:=hid hbx
        have HLRn:Hid (LRow 31 12 W1.heap.size (fun B w v p=>PrVal B w v p) (fun j=>j=w7.heap.size) wB (.slice ha hn' hc') zs' ((xs.take (k+1)).flatMap Ju)):=hid (by rw[hft];exact hlr)
        have HOWn:=hid how
        clear hbl hbx hlr how hft
        go_wp2_with fail
        go_roundw
        case rel=>exact⟨k+1,ha,hn',hc',zs',by go_num,by omega,HBX,HLRn,HBL,HOWn⟩
        case measure=>simp[intOf];omega
     ·obtain rfl:k=N:=by omega
      have htk:xs.take xs.length=xs:=List.take_length
      rw[HN.out] at htk
      obtain⟨⟨d0,d1,d2,d3,d4,d5,d6,d7,d8,d9,d10,d11⟩,-⟩:=c12p HBOX.out
      have hx9:=(HBW.out.block w.heap.size (gl0 HZ7.out)).trans HZ7.out
      obtain⟨⟨q0,q1,q2,q3,q4,q5,q6,q7,q8,q9,q10,q11⟩,z0,z1,z2,z3,z4,z5,z6,z7,z8,z9,z10,z11⟩:=c12p hx9
      have HX9:=hid hx9
      clear hx9
      have HTK:=hid htk
      clear htk
      go_wp2_with fail
      have hx8:=JZ HX9.out (.int .i64 7) tE tE sN sN iZ iZ tE iZ sN sN (.slice ya yn yc)
      obtain⟨⟨y0,y1,y2,y3,y4,y5,y6,y7,y8,y9,y10,y11⟩,-⟩:=c12p hx8
      refine bodyPost_ret (v:= .agg (cN 7 ⟨#[]⟩ ⟨#[]⟩ sN sN (.slice ya yn yc))) (by simp[results,Tryz.results33,go_sem,y0,y1,y2,y3,y4,y5,y6,y7,y8,y9,y10,y11]) rfl ?_
      have hcx:=HCX.out
      have hst:=HLN0.out
      have hlo:=HLO.out
      rw[HTK.out] at hlo
      have hsw:w7.heap.size<=V8.heap.size:=HBW.out.size
      have hnode:GPr W1.heap.size V8 (.mk 7 ⟨#[]⟩ ⟨#[]⟩ [] [] zT (xs.flatMap Ju)) (.agg (cN 7 ⟨#[]⟩ ⟨#[]⟩ sN sN (.slice ya yn yc))):=GPr.node (t:=zT) (Nat.zero_le _) (Nat.zero_le _) (Jv _ _) (JK _ _) (YF _ _) (PrSl.mono (fun j hj=>⟨hj.1,hj.2.1⟩) (hlo.prs (by unfold maxLen;omega)))
      have HPe:Hid (RdIs R la all E (Qa E (QT Qb (f+1)) st) V8):=hid (by rw[HEND.out];exact HP7.out.to HBW.out)
      refine⟨⟨_,.mk 7 ⟨#[]⟩ ⟨#[]⟩ [] [] zT (xs.flatMap Ju),rfl,⟨(hnode.put12 hs1 (.int .i64 7) tE tE sN sN iZ iZ tE iZ sN sN (.slice ya yn yc)).mono (Nat.le_of_lt hs1),hcx⟩,HVL1.out⟩,HPe.out.oth (X:=w.heap.size) (fun j hj=>QN hj (.int .i64 7) tE tE sN sN iZ iZ tE iZ sN sN (.slice ya yn yc)) (QF _ _ (.int .i64 7) tE tE sN sN iZ iZ tE iZ sN sN (.slice ya yn yc)) hR HLA.out,(HBo7.out.to HBW.out).put12 lR (.int .i64 7) tE tE sN sN iZ iZ tE iZ sN sN (.slice ya yn yc)⟩
end Go.Proofs.YtmnbheplkidfaaaGreatDoor
namespace Go.Proofs.YtmnbheplkidfaaaGreatDoor
open Go.RowKit Go.Deep Go.Shelf
def Ec(R:Nat)(la:Option Addr)(all:List Tk)(E:Int)(f:Nat):Prop:=
 (∀st W,RdIs R la all E st W->2*st.len<=f+1->Calls Tryz.prog 66 #[.pointer (some ⟨R,0,none⟩)] W (Red R la all E W (QV Qb f) st (GPn W.heap.size st.len)))/\
 (∀st W,RdIs R la all E st W->2*st.len<=f->Calls Tryz.prog 33 #[.pointer (some ⟨R,0,none⟩)] W (Red R la all E W (QT Qb f) st (GPn W.heap.size st.len)))
theorem Fj(R:Nat)(la:Option Addr)(all:List Tk)(E:Int)(f:Nat):KG R la all E (Ql Qb f) f:=Nz R la all E (fun g hS=>Td R la all E g hS) f
theorem DA(R:Nat)(la:Option Addr)(all:List Tk)(E:Int)(hall:UA all):∀f,Ec R la all E f:=by
 intro f
 induction f using Nat.strongRecOn with
 |ind f ih=>
  have hsing:∀st W,RdIs R la all E st W->2*st.len<=f+1->Calls Tryz.prog 66 #[.pointer (some ⟨R,0,none⟩)] W (Red R la all E W (QV Qb f) st (GPn W.heap.size st.len)):=by
   intro st W h hl
   match st,h,hl with
   | .inr z,h,_=>exact VO R la all E z W h _
   | .inl ts,h,hl=>
    have hl1:RS.len (.inl ts)=ts.length+1:=rfl
    obtain⟨g,rfl⟩:∃g,f=g+1:=⟨f-1,by omega⟩
    have hg:=ih g (Nat.lt_succ_self g)
    exact Dl R la all E hall g (RS.len (.inl ts)) (Fj R la all E g) (fun st' W' h' hl'=>hg.2 st' W' h' (by omega)) (fun st' W' h' hl'=>hg.1 st' W' h' (by omega)) _ W h lR (by omega)
  refine⟨hsing,fun st W h hl=>?_⟩
  match f,ih,hsing,hl with
  |0,_,_,hl=>
   match st,h,hl with
   | .inl ts,_,hl=>have hl1:RS.len (.inl ts)=ts.length+1:=rfl;omega
   | .inr z,h,hl=>
    exact Ma R la all E 0 (.inr z) W h (fun g _ st1 W1 h1 _ hk=>by
     match st1,h1,hk with
     | .inl ts,_,hk=>have hl1:RS.len (.inl ts)=ts.length+1:=rfl;have hl2:RS.len (.inr z)=0:=rfl;omega
     | .inr z1,h1,_=>exact VO R la all E z1 W1 h1 _) (by show 2*0<=1;omega)
  |f+1,ih,hsing,hl=>
   exact Ma R la all E f st W h (fun g hg st1 W1 h1 hl1 _=>by
    by_cases e:g=f+1
    ·subst e;exact hsing st1 W1 h1 hl1
    ·exact(ih g (by omega)).1 st1 W1 h1 hl1) hl
theorem Ko(R:Nat)(la:Option Addr)(all:List Tk)(E:Int)(hall:UA all)(f:Nat)(st:RS)(w:World)(h:RdIs R la all E st w)(hf:2*st.len<=f):
 Calls Tryz.prog 33 #[.pointer (some ⟨R,0,none⟩)] w (Red R la all E w (QT Qb f) st (GPn w.heap.size st.len)):=(DA R la all E hall f).2 st w h hf
end Go.Proofs.YtmnbheplkidfaaaGreatDoor
namespace Go.Proofs.YtmnbheplkidfaaaGreatDoor
open Go.Lib (hid)
open Go.RowKit Go.Deep Go.Shelf
theorem UP{α:Type}{l:List α}{j:Nat}{x:α}(f:α->Nat)(h:l[j]? =some x):sumN ((l.take (j+1)).map f)=sumN ((l.take j).map f)+f x:=by
 rw[MZ f h,JN];simp[sumN]
theorem Ug{α:Type}(l:List α)(j:Nat)(f:α->Nat):sumN ((l.take j).map f)<=sumN (l.map f):=YE (DT l j f)
theorem Xf{B:Nat->Prop}{w:World}{p:Pr}{lv av tl tk kv:Value}(h:PrVal B w (QW p lv av tl tk kv) p):
 (∃(a:Option Addr) (n c:Nat),lv= .slice a n c)/\(∃(a:Option Addr) (n c:Nat),av= .slice a n c)/\(∃(a:Option Addr) (n c:Nat),tl= .slice a n c)/\(∃(a:Option Addr) (n c:Nat),tk= .slice a n c)/\∃(a:Option Addr) (n c:Nat),kv= .slice a n c:=by
 obtain⟨lv',av',tl',tk',kv',e,_,hl,ha,ht,hk⟩:=h
 simp only[QW,Value.agg.injEq,Array.mk.injEq,List.cons.injEq,and_true,true_and] at e
 obtain⟨rfl,rfl,rfl,rfl,rfl⟩:=e
 obtain⟨a1,n1,c1,e1,_⟩:=hl.open
 obtain⟨a2,n2,c2,e2,_⟩:=ha.open
 obtain⟨a3,n3,c3,e3,_⟩:=hk.open
 obtain⟨s1,s2⟩:=UQ ht
 exact⟨⟨_,_,_,e1⟩,⟨_,_,_,e2⟩,s1,s2,⟨_,_,_,e3⟩⟩
theorem Gl(B:Nat->Prop)(g:Pg)(hg:GGood g)(hsz:g.total<=1000000000)(v:Value)(w:World)(hB:Low B w)(hv:PgVal B w v g):
 Calls Tryz.prog 63 #[v] w fun e w'=>e= .returned (.int .i64 g.total)/\Below w.heap.size w w':=by
 obtain⟨dv,lv,av,tl,tk,kv,rfl,hd,hp⟩:=hv
 obtain⟨⟨la,ln,lc,rfl⟩,⟨aa,an,ac,rfl⟩,⟨ta,tn,tc,rfl⟩,⟨ua,un,uc,rfl⟩,ka,kn,kc,rfl⟩:=Xf hp
 obtain⟨pa,len,c,rfl,hlen,hmx,hget⟩:=hd.open
 have hgm:=(hg.2.2 g.m g.main_mem)
 obtain⟨w1,hw1⟩:∃w1,w.alloc (JA g (.slice pa len c) (.slice la ln lc) (.slice aa an ac) (.slice ta tn tc) (.slice ua un uc) (.slice ka kn kc))=w1:=⟨_,rfl⟩
 have hb01:Below w.heap.size w w1:=by rw[<-hw1];exact Jg w _ _
 have hs1:w1.heap.size=w.heap.size+1:=by rw[<-hw1];simp
 have Qu:∀(W:World),Below (w.heap.size+1) w1 W->∀(j:Nat) (v:Value),#[.slice pa len c,.int .i64 g.m.k,.string g.m.c,.string g.m.x,.slice la ln lc,.slice aa an ac,.int .i64 g.m.t.k,.int .i64 g.m.t.p,.string g.m.t.n,.int .i64 g.m.t.s,.slice ta tn tc,.slice ua un uc,.slice ka kn kc][j]? =some v->W.cell? ⟨w.heap.size,j,none⟩=some v:=fun W hW j v hj=>JB (by rw[hw1];exact hW) j hj
 have hlow:∀W,Below (w.heap.size+1) w1 W->Below w.heap.size w W:=fun W hW=>hb01.trans (hW.mono (by omega))
 have HSz:Hid (∀q:QQ (w.heap.size+1) w1,Calls Tryz.prog 89 #[QW g.m (.slice la ln lc) (.slice aa an ac) (.slice ta tn tc) (.slice ua un uc) (.slice ka kn kc)] q.1 fun e w'=>e= .returned (.int .i64 g.m.size)/\Below q.1.heap.size q.1 w'):=hid (fun q=>Mg B g.m hgm.2.2 _ q.1 (hB.le (hlow _ q.2).size) (hp.to hB (hlow _ q.2)))
 have HTy:Hid (∀q:QQ (w.heap.size+1) w1,Calls Tryz.prog 90 #[QW g.m (.slice la ln lc) (.slice aa an ac) (.slice ta tn tc) (.slice ua un uc) (.slice ka kn kc)] q.1 fun e w'=>e= .returned (.int .i64 g.m.typ)/\Below q.1.heap.size q.1 w'):=hid (fun q=>NK B g.m hgm.1.2 (by have:=g.total_eq;omega) _ q.1 (hB.le (hlow _ q.2).size) (hp.to hB (hlow _ q.2)))
 have htot:=g.total_eq
 have hle0:g.m.size+g.m.typ+sumN (g.ds.map Df.all)<=1000000000:=by omega
 have HTot:=hid htot
 rw[htot]
 have HD:Hid (∀(j:Nat) (d:Df),g.ds[j]? =some d->∃kb ko,pa=some ⟨kb,ko,none⟩/\kb<w.heap.size/\(∀W,Below w.heap.size w W->DfAt B W d kb (ko+j*14))/\PGood d.b/\d.b.size<=1000000/\d.b.typ<=1000000000/\(∀a∈d.ms,a.t.size<=100000)):=hid (fun j d hj=>by
  obtain⟨kb,ko,e,hkb,hda⟩:=hget j d hj
  have hmem:=List.mem_of_getElem? hj
  have h1:=hg.2.2 d.b (Pg.body_mem hmem)
  have h2:d.b.typ<=1000000000:=by
   have h3:=UP Df.all hj
   have h4:=Ug g.ds (j+1) Df.all
   unfold Df.all at h3
   unfold Df.all at h4 hle0
   omega
  exact⟨kb,ko,e,hB kb hkb,fun W hW=>hda.keep (hW.keeps'.mono hB) hkb,h1.1,h1.2.2,h2,fun a ha=>(hg.pm hmem ha).1⟩)
 obtain⟨ds,hds⟩:∃ds,g.ds=ds:=⟨_,rfl⟩
 rw[hds] at hlen HD hle0 |-
 clear hget hd hp hgm hsz hg htot hds
 unfold QW at HSz HTy
 obtain⟨z1,hz1⟩:∃z,g.m.size=z:=⟨_,rfl⟩
 obtain⟨z2,hz2⟩:∃z,g.m.typ=z:=⟨_,rfl⟩
 rw[hz1] at HSz hle0 |-
 rw[hz2] at HTy hle0 |-
 have hz12:z1+z2<=1000000000:=by omega
 clear hz1 hz2
 have CE:=hid Qu
 have HL:=hid hlow
 have HW1:=hid hw1
 have HLE:=hid hle0
 have e0:=fun q:QQ (w.heap.size+1) w1=>Qu q.1 q.2 0 _ rfl
 have e1:=fun q:QQ (w.heap.size+1) w1=>Qu q.1 q.2 1 _ rfl
 have e2:=fun q:QQ (w.heap.size+1) w1=>Qu q.1 q.2 2 _ rfl
 have e3:=fun q:QQ (w.heap.size+1) w1=>Qu q.1 q.2 3 _ rfl
 have e4:=fun q:QQ (w.heap.size+1) w1=>Qu q.1 q.2 4 _ rfl
 have e5:=fun q:QQ (w.heap.size+1) w1=>Qu q.1 q.2 5 _ rfl
 have e6:=fun q:QQ (w.heap.size+1) w1=>Qu q.1 q.2 6 _ rfl
 have e7:=fun q:QQ (w.heap.size+1) w1=>Qu q.1 q.2 7 _ rfl
 have e8:=fun q:QQ (w.heap.size+1) w1=>Qu q.1 q.2 8 _ rfl
 have e9:=fun q:QQ (w.heap.size+1) w1=>Qu q.1 q.2 9 _ rfl
 have e10:=fun q:QQ (w.heap.size+1) w1=>Qu q.1 q.2 10 _ rfl
 have e11:=fun q:QQ (w.heap.size+1) w1=>Qu q.1 q.2 11 _ rfl
 have e12:=fun q:QQ (w.heap.size+1) w1=>Qu q.1 q.2 12 _ rfl
 clear Qu hlow hle0 hb01
 simp only[JA] at hw1
 go_enter Tryz.func63,Tryz.ntmps63
 go_wp2_with fail
 clear hw1
 refine Jd (w.heap.size+1) w1 (by kernel_rfl) (by kernel_rfl) bR ?_
 repeat (go_big_quiet_step (first|(go_at_call 89;exact Jy _ (by omega) (HSz.out _))|(go_at_call 90;exact Jy _ (by omega) (HTy.out _))))
 refine wpQuiet_nil ?_
 rintro _⟨⟨w5,hb5⟩,rfl⟩
 clear e0 e1 e2 e3 e4 e5 e6 e7 e8 e9 e10 e11 e12
 go_wp2_with fail
 go_loopw [3,4] (fun a i wr=>∃j:Nat,i= .int .i64 j/\j<=len/\a= .int .i64 ((z1+z2+sumN ((ds.take j).map Df.all):Nat):Int)/\Below (w.heap.size+1) w1 wr) (fun _ i _=>len-(intOf i).toNat)
 case atStart=>exact⟨0,rfl,by omega,by simp[sumN],hb5⟩
 case round=>
  obtain⟨j,rfl,hj,rfl,hb⟩:=hrel
  obtain⟨wo,hwo⟩:∃wo,wo=wr:=⟨_,rfl⟩
  subst hwo
  have c0:=CE.out wo hb 0 _ rfl
  have hw:=HL.out wo hb
  by_cases hlt:j<len
  ·obtain⟨d,hdj⟩:∃d,ds[j]? =some d:=⟨_,List.getElem?_eq_getElem (by rw[<-hlen.out];exact hlt)⟩
   obtain⟨kb,ko,rfl,hkb,hda,hdg,hds,hdt,hpm⟩:=HD.out j d hdj
   have hst:=UP Df.all hdj
   have hsl:=Ug ds (j+1) Df.all
   have hle:=HLE.out
   obtain⟨a0,ha0⟩:∃a0,z1+z2+sumN ((ds.take j).map Df.all)=a0:=⟨_,rfl⟩
   have hall:d.all=d.b.size+d.b.typ+sumN d.pms:=rfl
   have hbnd:a0+(d.b.size+d.b.typ+sumN d.pms)<=1000000000:=by omega
   have HST:=hid hst
   have HA0:=hid ha0
   have HALL:=hid hall
   rw[ha0]
   obtain⟨ma,mn,mc,la',ln',lc',aa',an',ac',ta',tn',tc',ua',un',uc',ka',kn',kc',⟨d0,d1,d2,d3,d4,d5,d6,d7,d8,d9,d10,d11,d12,d13⟩,hms,hval⟩:=(hda wo hw).load'
   have hBr:Low B wo:=hB.le hw.size
   have hkr:=hw.size
   have HS2:Hid (∀q:QQ wo.heap.size wo,Calls Tryz.prog 89 #[QW d.b (.slice la' ln' lc') (.slice aa' an' ac') (.slice ta' tn' tc') (.slice ua' un' uc') (.slice ka' kn' kc')] q.1 fun e w'=>e= .returned (.int .i64 d.b.size)/\Below q.1.heap.size q.1 w'):=hid (fun q=>Mg B d.b hds _ q.1 (hBr.le q.2.size) (hval.to hBr q.2))
   have HT2:Hid (∀q:QQ wo.heap.size wo,Calls Tryz.prog 90 #[QW d.b (.slice la' ln' lc') (.slice aa' an' ac') (.slice ta' tn' tc') (.slice ua' un' uc') (.slice ka' kn' kc')] q.1 fun e w'=>e= .returned (.int .i64 d.b.typ)/\Below q.1.heap.size q.1 w'):=hid (fun q=>NK B d.b hdg.2 hdt _ q.1 (hBr.le q.2.size) (hval.to hBr q.2))
   have lift:∀ {v:Value} {x:Nat},wo.cell? ⟨kb,x,none⟩=some v->∀q:QQ wo.heap.size wo,q.1.cell? ⟨kb,x,none⟩=some v:=fun h q=>(q.2.cell (p:=⟨kb,_,none⟩) (by simp;omega)).trans h
   obtain⟨pma,pmn,pmc,hpe,hmlen,hmmx,hmget⟩:=hms.open
   simp only[Value.slice.injEq] at hpe
   obtain⟨rfl,rfl,rfl⟩:=hpe
   have HMG:Hid (∀(k:Nat) (a:Pm),d.ms[k]? =some a->∃pb po,ma=some ⟨pb,po,none⟩/\pb<wo.heap.size/\(∀W,Below wo.heap.size wo W->PmAt B W a pb (po+k*7))/\a.t.size<=100000):=hid (fun k a hk=>by
    obtain⟨pb,po,e,hpb,hpa⟩:=hmget k a hk
    exact⟨pb,po,e,hBr pb hpb,fun W hW=>hpa.keep (hW.keeps'.mono hBr) hpb,hpm a (List.mem_of_getElem? hk)⟩)
   have HML:=hid hmlen.out
   unfold QW at HS2 HT2
   obtain⟨y1,hy1⟩:∃y,d.b.size=y:=⟨_,rfl⟩
   obtain⟨y2,hy2⟩:∃y,d.b.typ=y:=⟨_,rfl⟩
   rw[hy1] at HS2 hbnd HALL
   rw[hy2] at HT2 hbnd HALL
   have f0:∀q:QQ wo.heap.size wo,q.1.cell? ⟨w.heap.size,0,none⟩=some (.slice (some ⟨kb,ko,none⟩) len c):=fun q=>CE.out q.1 (hb.trans (q.2.mono (by have:=hb.size;omega))) 0 _ rfl
   have g2:=lift d2
   have g3:=lift d3
   have g4:=lift d4
   have g5:=lift d5
   have g6:=lift d6
   have g7:=lift d7
   have g8:=lift d8
   have g9:=lift d9
   have g10:=lift d10
   have g11:=lift d11
   have g12:=lift d12
   have g13:=lift d13
   have h12:a0+y1+y2<=1000000000:=by omega
   have h11:a0+y1<=1000000000:=by omega
   have HBND:=hid hbnd
   clear hst hsl hle ha0 hall hda hval hms hmget hpm hdg hds hdt hy1 hy2 lift d2 d3 d4 d5 d6 d7 d8 d9 d10 d11 d12 d13 d0 hdj hbnd hmlen
   go_wp2_with fail
   refine Jd wo.heap.size wo (by kernel_rfl) (by kernel_rfl) bR ?_
   repeat (go_big_quiet_step (first|(go_at_call 89;exact Jy _ lR (HS2.out _))|(go_at_call 90;exact Jy _ lR (HT2.out _))))
   refine wpQuiet_nil ?_
   rintro _⟨⟨w6,hb6⟩,rfl⟩
   clear f0 g2 g3 g4 g5 g6 g7 g8 g9 g10 g11 g12 g13
   go_wp2_with fail
   go_loopw [3,5] (fun a i wr=>∃k:Nat,i= .int .i64 k/\k<=mn/\a= .int .i64 ((a0+y1+y2+sumN (d.pms.take k):Nat):Int)/\Below wo.heap.size wo wr) (fun _ i _=>mn-(intOf i).toNat)
   case atStart=>exact⟨0,rfl,by omega,by simp[sumN],hb6⟩
   case round=>
    obtain⟨k,rfl,hk,rfl,hb7⟩:=hrel
    have hsw:=hb.size
    have p0:=CE.out wr (hb.trans (hb7.mono (by omega))) 0 _ rfl
    have p1:=(hb7.cell (p:=⟨kb,ko+j*14+1,none⟩) (by simp;omega)).trans d1
    by_cases hlt2:k<mn
    ·obtain⟨a,hak⟩:∃a,d.ms[k]? =some a:=⟨_,List.getElem?_eq_getElem (by rw[<-HML.out];exact hlt2)⟩
     obtain⟨pb,po,rfl,hpb,hpa,has⟩:=HMG.out k a hak
     obtain⟨la3,ln3,lc3,ka3,kn3,kc3,⟨q0,q1,q2,q3,q4,q5,q6⟩,htv⟩:=(hpa wr hb7).load'
     have hst2:sumN (d.pms.take (k+1))=sumN (d.pms.take k)+a.t.size:=by
      unfold Df.pms;rw[<-List.map_take,<-List.map_take];exact UP _ hak
     have hsl2:sumN (d.pms.take (k+1))<=sumN d.pms:=YE (List.take_prefix _ _)
     have HT3:=hid (NB B a.t (by omega) _ wr (hBr.le hb7.size) htv)
     obtain⟨s1,hs1⟩:∃s,a.t.size=s:=⟨_,rfl⟩
     obtain⟨s0,hs0⟩:∃s,a0+y1+y2+sumN (d.pms.take k)=s:=⟨_,rfl⟩
     rw[hs1] at HT3 hst2
     have hs01:s0+s1<=1000000000:=by have:=HBND.out;omega
     have HX:Hid (a0+y1+y2+sumN (d.pms.take (k+1))=s0+s1):=hid (by omega)
     rw[hs0]
     clear hst2 hsl2 hs0 hs1 htv hpa has hak q0
     go_wp2_with (go_at_call 40;refine HT3.out.mono ?_;rintro e w8⟨rfl,hb8⟩)
     go_roundw
     case rel=>exact⟨k+1,by go_num,by omega,YZ (by rw[HX.out];omega),Qf hb7 hb8⟩
     case measure=>simp[intOf];omega
    ·obtain rfl:k=mn:=by omega
     have HX:Hid (a0+y1+y2+sumN (d.pms.take k)=z1+z2+sumN ((ds.take (j+1)).map Df.all)):=hid (by
      have h1:d.pms.take k=d.pms:=List.take_of_length_le (by unfold Df.pms;rw[List.length_map,HML.out];exact lR)
      rw[h1,HST.out,HALL.out];have:=HA0.out;omega)
     rw[HX.out]
     go_wp2_with fail
     go_roundw
     case rel=>exact⟨j+1,by go_num,by omega,rfl,hb.trans (hb7.mono (by omega))⟩
     case measure=>simp[intOf];omega
  ·obtain rfl:j=len:=by omega
   go_wp2_with fail
   go_ret
   exact⟨Jh (by rw[List.take_of_length_le (by rw[hlen.out];exact lR)]),hw⟩
mutual
def Pr.dN:Pr->Nat
 | .mk _ _ _ _ _ t ps=>max (max (Pr.depths ps+1) t.depth) (Pr.dNs ps)
def Pr.dNs:List Pr->Nat
 |[]=>0
 |p::r=>max p.dN (Pr.dNs r)
end
theorem Pr.dN_eq(p:Pr):p.dN=max (max p.depth p.t.depth) (Pr.dNs p.ps):=by
 cases p;rw[Pr.dN,Pr.depth_eq];rfl
theorem Pr.dNs_append(l r:List Pr):Pr.dNs (l++r)=max (Pr.dNs l) (Pr.dNs r):=by
 induction l with
 |nil=>simp[Pr.dNs]
 |cons t l ih=>simp only[List.cons_append,Pr.dNs,ih];omega
theorem Pr.dNs_take{l:List Pr}{i:Nat}{p:Pr}(h:l[i]? =some p):Pr.dNs (l.take (i+1))=max (Pr.dNs (l.take i)) p.dN:=by
 rw[Qn h,Pr.dNs_append];simp[Pr.dNs]
theorem Pr.dNs_take_le(l:List Pr)(i:Nat):Pr.dNs (l.take i)<=Pr.dNs l:=by
 have:=Pr.dNs_append (l.take i) (l.drop i);rw[List.take_append_drop] at this;omega
mutual
theorem Pr.dN_le:∀(p:Pr) (n:Nat),p.tf->p.depth<=n->100000<=n->p.dN<=n
 | .mk k c x ls vs t ps,n,ht,hd,hn=>by
  unfold Pr.tf at ht
  rw[Pr.depth_eq] at hd
  have hd:Pr.depths ps+1<=n:=hd
  have:=Pr.dNs_le ps n ht.2 (by omega) hn
  rw[Pr.dN];omega
theorem Pr.dNs_le:∀(l:List Pr) (n:Nat),Pr.tfs l->Pr.depths l<=n->100000<=n->Pr.dNs l<=n
 |[],n,_,_,_=>Nat.zero_le _
 |p::r,n,ht,hd,hn=>by
  unfold Pr.tfs at ht
  rw[Pr.depths] at hd
  have:=Pr.dN_le p n ht.1 (by omega) hn
  have:=Pr.dNs_le r n ht.2 (by omega) hn
  rw[Pr.dNs];omega
end
mutual
theorem Pr.deep_dN:∀(p:Pr) (d:Nat),d<=100->(p.deepP d=true↔d<p.depth\/100<p.dN)
 | .mk k c x ls vs t ps,d,hd=>by
  have h:=Pr.deeps_dN ps (d-1) (by omega)
  rw[Pr.deepP,Pr.depth_eq,Pr.dN,Bool.or_eq_true,Bool.or_eq_true,decide_eq_true_eq,decide_eq_true_eq,h]
  show(d=0\/100<t.depth)\/_↔d<Pr.depths ps+1\/_
  omega
theorem Pr.deeps_dN:∀(l:List Pr) (d:Nat),d<=100->(Pr.deepPs l d=true↔d<Pr.depths l\/100<Pr.dNs l)
 |[],d,_=>by rw[Pr.deepPs,Pr.depths,Pr.dNs];simp
 |p::r,d,hd=>by
  have h1:=Pr.deep_dN p d hd
  have h2:=Pr.deeps_dN r d hd
  rw[Pr.deepPs,Pr.depths,Pr.dNs,Bool.or_eq_true,h1,h2]
  omega
end
theorem Pr.deep_is(p:Pr):p.deepP 100=decide (100<p.dN):=by
 have h:=Pr.deep_dN p 100 lR
 have h2:p.depth<=p.dN:=by rw[Pr.dN_eq];omega
 cases hd:p.deepP 100 with
 |true=>rw[hd] at h;symm;rw[decide_eq_true_eq];have:=h.1 rfl;omega
 |false=>rw[hd] at h;symm;rw[decide_eq_false_iff_not];intro h3;have:=h.2 (.inr h3);cases this
theorem Do(B:Nat->Prop)(p:Pr)(lv av tl tk kv:Value)(hd0:p.depth<=1000000)(hd1:p.t.depth<=1000000)(hd2:Pr.dNs p.ps<=1000000)
 (ih:∀u∈p.ps,∀(v:Value) (w:World),Low B w->PrVal B w v u->Calls Tryz.prog 62 #[v] w fun e w'=>e= .returned (.int .i64 u.dN)/\Below w.heap.size w w')
 (w:World) (hB:Low B w) (hp:PrVal B w (QW p lv av tl tk kv) p):
 Calls Tryz.prog 62 #[QW p lv av tl tk kv] w fun e w'=>e= .returned (.int .i64 ((max (max p.depth p.t.depth) (Pr.dNs p.ps):Nat):Int))/\Below w.heap.size w w':=by
 obtain⟨⟨la,ln,lc,rfl⟩,⟨aa,an,ac,rfl⟩,⟨ta,tn,tc,rfl⟩,⟨ua,un,uc,rfl⟩,pa,len,c,rfl⟩:=Xf hp
 have hp0:=hp
 obtain⟨lv',av',tl',tk',kv',e,_,_,_,ht,hk⟩:=hp
 simp only[QW,Value.agg.injEq,Array.mk.injEq,List.cons.injEq,and_true,true_and] at e
 obtain⟨rfl,rfl,rfl,rfl,rfl⟩:=e
 obtain⟨pa',len',c',e,hlen,hm,hget⟩:=hk.open
 simp only[Value.slice.injEq] at e
 obtain⟨rfl,rfl,rfl⟩:=e
 obtain⟨w1,hw1⟩:∃w1,w.alloc (Zl p (.slice la ln lc) (.slice aa an ac) (.slice ta tn tc) (.slice ua un uc) (.slice pa len c))=w1:=⟨_,rfl⟩
 have hb01:Below w.heap.size w w1:=by rw[<-hw1];exact Jg w _ _
 have Qu:∀(W:World),Below (w.heap.size+1) w1 W->∀(j:Nat) (v:Value),(gP p la ln lc aa an ac ta tn tc ua un uc pa len c)[j]? =some v->W.cell? ⟨w.heap.size,j,none⟩=some v:=fun W hW j v hj=>JB (by rw[hw1];exact hW) j hj
 have hs1:w1.heap.size=w.heap.size+1:=by rw[<-hw1];simp
 have hlow:∀W,Below (w.heap.size+1) w1 W->Below w.heap.size w W:=fun W hW=>hb01.trans (hW.mono (by omega))
 have HD1:Hid (∀q:QQ (w.heap.size+1) w1,Calls Tryz.prog 88 #[QW p (.slice la ln lc) (.slice aa an ac) (.slice ta tn tc) (.slice ua un uc) (.slice pa len c)] q.1 fun e w'=>e= .returned (.int .i64 p.depth)/\Below q.1.heap.size q.1 w'):=hid (fun q=>Gx B p hd0 _ q.1 (hB.le (hlow _ q.2).size) (hp0.to hB (hlow _ q.2)))
 have HD2:Hid (∀q:QQ (w.heap.size+1) w1,Calls Tryz.prog 39 #[.agg #[.int .i64 p.t.k,.int .i64 p.t.p,.string p.t.n,.int .i64 p.t.s,.slice ta tn tc,.slice ua un uc]] q.1 fun e w'=>e= .returned (.int .i64 p.t.depth)/\Below q.1.heap.size q.1 w'):=hid (fun q=>Mc B p.t hd1 _ q.1 (hB.le (hlow _ q.2).size) (ht.keep ((hlow _ q.2).keeps'.mono hB)))
 have HG:=hid hget
 have HIH:=hid ih
 have HL:=hid hlow
 have CE:=hid Qu
 have HW1:=hid hw1
 obtain⟨ps,hps⟩:∃ps,p.ps=ps:=⟨_,rfl⟩
 rw[hps] at HG hlen hd2 HIH |-
 unfold QW at HD1
 obtain⟨z1,hz1⟩:∃z,p.depth=z:=⟨_,rfl⟩
 obtain⟨z2,hz2⟩:∃z,p.t.depth=z:=⟨_,rfl⟩
 rw[hz1] at HD1 hd0 |-
 rw[hz2] at HD2 hd1 |-
 have e0:=fun q:QQ (w.heap.size+1) w1=>Qu q.1 q.2 0 _ rfl
 have e1:=fun q:QQ (w.heap.size+1) w1=>Qu q.1 q.2 1 _ rfl
 have e2:=fun q:QQ (w.heap.size+1) w1=>Qu q.1 q.2 2 _ rfl
 have e3:=fun q:QQ (w.heap.size+1) w1=>Qu q.1 q.2 3 _ rfl
 have e4:=fun q:QQ (w.heap.size+1) w1=>Qu q.1 q.2 4 _ rfl
 have e5:=fun q:QQ (w.heap.size+1) w1=>Qu q.1 q.2 5 _ rfl
 have e6:=fun q:QQ (w.heap.size+1) w1=>Qu q.1 q.2 6 _ rfl
 have e7:=fun q:QQ (w.heap.size+1) w1=>Qu q.1 q.2 7 _ rfl
 have e8:=fun q:QQ (w.heap.size+1) w1=>Qu q.1 q.2 8 _ rfl
 have e9:=fun q:QQ (w.heap.size+1) w1=>Qu q.1 q.2 9 _ rfl
 have e10:=fun q:QQ (w.heap.size+1) w1=>Qu q.1 q.2 10 _ rfl
 have e11:=fun q:QQ (w.heap.size+1) w1=>Qu q.1 q.2 11 _ rfl
 clear Qu hlow hb01 hget hk ih ht hp0 hps hz1 hz2
 simp only[Zl] at hw1
 unfold QW
 go_enter Tryz.func62,Tryz.ntmps62
 go_wp2_with fail
 clear hw1
 refine Jd (w.heap.size+1) w1 (by kernel_rfl) (by kernel_rfl) bR ?_
 repeat (go_big_quiet_step (first|(go_at_call 88;exact Jy _ (by omega) (HD1.out _))|(go_at_call 39;exact Jy _ (by omega) (HD2.out _))))
 refine wpQuiet_nil ?_
 rintro _⟨⟨w5,hb5⟩,rfl⟩
 clear e0 e1 e2 e3 e4 e5 e6 e7 e8 e9 e10 e11
 go_wp2_with fail
 go_loopw [3,4] (fun a i wr=>∃j:Nat,i= .int .i64 j/\j<=len/\a= .int .i64 ((max (max z1 z2) (Pr.dNs (ps.take j)):Nat):Int)/\Below (w.heap.size+1) w1 wr) (fun _ i _=>len-(intOf i).toNat)
 case atStart=>exact⟨0,rfl,by omega,YZ (by simp only[List.take_zero,Pr.dNs];omega),hb5⟩
 case round=>
  obtain⟨j,rfl,hj,rfl,hb⟩:=hrel
  have c11:=CE.out wr hb 11 _ rfl
  have hw:=HL.out wr hb
  by_cases hlt:j<len
  ·obtain⟨t,ht⟩:∃t,ps[j]? =some t:=⟨_,List.getElem?_eq_getElem (by rw[<-hlen.out];exact hlt)⟩
   obtain⟨kb,ko,rfl,hkb,hty⟩:=HG.out j t ht
   obtain⟨la',ln',lc',aa',an',ac',ta',tn',tc',ua',un',uc',ka',kn',kc',⟨d0,d1,d2,d3,d4,d5,d6,d7,d8,d9,d10,d11⟩,hval⟩:=(hty.keep (hw.keeps'.mono hB)).load'
   have hsz:=Pr.dNs_take ht
   have hle:=Pr.dNs_take_le ps (j+1)
   have IH:=hid (HIH.out t (List.mem_of_getElem? ht) _ wr (hB.le hw.size) hval)
   obtain⟨a0,ha0⟩:∃a0,max (max z1 z2) (Pr.dNs (ps.take j))=a0:=⟨_,rfl⟩
   have HA:Hid (max (max z1 z2) (Pr.dNs (ps.take (j+1)))=max a0 t.dN):=hid (by omega)
   have ha1:max a0 t.dN<=1000000:=by omega
   rw[ha0]
   unfold QW at IH
   clear hsz hle ha0 ht hval hty
   go_wp2_with (go_at_call 62;refine IH.out.mono ?_;rintro e w1⟨rfl,hb1⟩)
   go_roundw
   case rel=>exact⟨j+1,by go_num,by omega,YZ (by rw[HA.out];omega),hb.trans (hb1.mono (by have:=hb.size;omega))⟩
   case measure=>simp[intOf];omega
  ·obtain rfl:j=len:=by omega
   go_wp2_with fail
   go_ret
   exact⟨Jh (by rw[List.take_of_length_le (by rw[hlen.out];exact lR)]),hw⟩
theorem NG(B:Nat->Prop):∀(p:Pr),p.depth<=1000000->p.tf->∀(v:Value) (w:World),Low B w->PrVal B w v p->Calls Tryz.prog 62 #[v] w fun e w'=>e= .returned (.int .i64 p.dN)/\Below w.heap.size w w':=by
 refine Pr.ind ?_
 intro k c x ls vs t ps ih hsz htf v w hB hv
 have h1:Pr.depths ps+1<=1000000:=by rw[Pr.depth_eq] at hsz;exact hsz
 have h2:=Pr.dNs_le ps 1000000 (by unfold Pr.tf at htf;exact htf.2) (by omega) (by omega)
 have hv0:=hv
 obtain⟨lv,av,tl,tk,kv,rfl,_⟩:=hv
 have:=Do B (.mk k c x ls vs t ps) lv av tl tk kv hsz (lT (Pr.tf_depth htf) (by omega)) h2 (fun u hu=>ih u hu (lT (Pr.depth_mem hu) (show Pr.depths ps<=1000000 by omega)) (Pr.tf_ps htf u hu)) w hB hv0
 rw[Pr.dN_eq];exact this
theorem Pg.big_def{g:Pg}{d:Df}(hd:d∈g.ds)(h:d.deep=true):g.tooBig=true:=by
 unfold Pg.tooBig
 rw[show g.ds.any Df.deep=true from List.any_eq_true.2 ⟨d,hd,h⟩,Bool.true_or,Bool.true_or]
theorem Pg.big_main{g:Pg}(h:100<g.m.dN):g.tooBig=true:=by
 unfold Pg.tooBig
 rw[Pr.deep_is,decide_eq_true h,Bool.or_true,Bool.true_or]
theorem Pg.big_total{g:Pg}(h:10000<g.total):g.tooBig=true:=by
 unfold Pg.tooBig
 rw[decide_eq_true h,Bool.or_true]
theorem Pg.big_no{g:Pg}(h1:¬100<g.m.dN)(h2:¬10000<g.total)(h:∀d∈g.ds,d.deep=false):g.tooBig=false:=by
 unfold Pg.tooBig
 rw[Pr.deep_is,decide_eq_false h1,decide_eq_false h2,Bool.or_false,Bool.or_false]
 rw[List.any_eq_false]
 exact fun d hd=>by rw[h d hd];simp
theorem Df.deep_b{d:Df}(h:100<d.b.dN):d.deep=true:=by unfold Df.deep;rw[Pr.deep_is,decide_eq_true h,Bool.or_true]
theorem Df.deep_m{d:Df}{a:Pm}(ha:a∈d.ms)(h:100<a.t.depth):d.deep=true:=by
 unfold Df.deep
 rw[show(d.ms.any fun a=>decide (100<a.t.depth))=true from List.any_eq_true.2 ⟨a,ha,decide_eq_true h⟩,Bool.true_or]
theorem Df.deep_no{d:Df}(h1:¬100<d.b.dN)(h:∀a∈d.ms,a.t.depth<=100):d.deep=false:=by
 unfold Df.deep
 rw[Pr.deep_is,decide_eq_false h1,Bool.or_false,List.any_eq_false]
 exact fun a ha=>by have:=h a ha;simpa using this
theorem VC{α:Type}{Q:α->Prop}{l:List α}{j:Nat}{x:α}(hx:l[j]? =some x)(h:∀y∈l.take j,Q y)(hq:Q x):∀y∈l.take (j+1),Q y:=by
 rw[Qn hx]
 intro y hy
 rcases List.mem_append.1 hy with hy|hy
 ·exact h y hy
 ·rw[mS hy];exact hq
theorem Tb(B:Nat->Prop)(g:Pg)(hg:GGood g)(hsz:g.total<=1000000000)(v:Value)(w:World)(hB:Low B w)(hv:PgVal B w v g):
 Calls Tryz.prog 29 #[v] w fun e w'=>e= .returned (.bool (!g.tooBig))/\Below w.heap.size w w':=by
 have hv0:=hv
 obtain⟨dv,lv,av,tl,tk,kv,rfl,hd,hp⟩:=hv
 obtain⟨⟨la,ln,lc,rfl⟩,⟨aa,an,ac,rfl⟩,⟨ta,tn,tc,rfl⟩,⟨ua,un,uc,rfl⟩,ka,kn,kc,rfl⟩:=Xf hp
 obtain⟨pa,len,c,rfl,hlen,hmx,hget⟩:=hd.open
 have hgm:=(hg.2.2 g.m g.main_mem)
 obtain⟨w1,hw1⟩:∃w1,w.alloc (JA g (.slice pa len c) (.slice la ln lc) (.slice aa an ac) (.slice ta tn tc) (.slice ua un uc) (.slice ka kn kc))=w1:=⟨_,rfl⟩
 have hb01:Below w.heap.size w w1:=by rw[<-hw1];exact Jg w _ _
 have hs1:w1.heap.size=w.heap.size+1:=by rw[<-hw1];simp
 have Qu:∀(W:World),Below (w.heap.size+1) w1 W->∀(j:Nat) (v:Value),#[.slice pa len c,.int .i64 g.m.k,.string g.m.c,.string g.m.x,.slice la ln lc,.slice aa an ac,.int .i64 g.m.t.k,.int .i64 g.m.t.p,.string g.m.t.n,.int .i64 g.m.t.s,.slice ta tn tc,.slice ua un uc,.slice ka kn kc][j]? =some v->W.cell? ⟨w.heap.size,j,none⟩=some v:=fun W hW j v hj=>JB (by rw[hw1];exact hW) j hj
 have hlow:∀W,Below (w.heap.size+1) w1 W->Below w.heap.size w W:=fun W hW=>hb01.trans (hW.mono (by omega))
 have hdn:=Pr.dN_le g.m 1000000 hgm.1.2 (by omega) (by omega)
 have HDP:Hid (∀W,Below (w.heap.size+1) w1 W->Calls Tryz.prog 62 #[QW g.m (.slice la ln lc) (.slice aa an ac) (.slice ta tn tc) (.slice ua un uc) (.slice ka kn kc)] W fun e w'=>e= .returned (.int .i64 g.m.dN)/\Below W.heap.size W w'):=hid (fun W hW=>NG B g.m (by omega) hgm.1.2 _ W (hB.le (hlow _ hW).size) (hp.to hB (hlow _ hW)))
 have HTO:Hid (∀W,Below (w.heap.size+1) w1 W->Calls Tryz.prog 63 #[.agg #[.slice pa len c,.int .i64 g.m.k,.string g.m.c,.string g.m.x,.slice la ln lc,.slice aa an ac,.int .i64 g.m.t.k,.int .i64 g.m.t.p,.string g.m.t.n,.int .i64 g.m.t.s,.slice ta tn tc,.slice ua un uc,.slice ka kn kc]] W fun e w'=>e= .returned (.int .i64 g.total)/\Below W.heap.size W w'):=hid (fun W hW=>Gl B g hg hsz _ W (hB.le (hlow _ hW).size) (hv0.keep ((hlow _ hW).keeps'.mono hB)))
 have HD:Hid (∀(j:Nat) (d:Df),g.ds[j]? =some d->∃kb ko,pa=some ⟨kb,ko,none⟩/\kb<w.heap.size/\(∀W,Below w.heap.size w W->DfAt B W d kb (ko+j*14))/\PGood d.b/\d.b.depth<=1000000/\(∀a∈d.ms,a.t.depth<=100000)/\(d.deep=true->g.tooBig=true)):=hid (fun j d hj=>by
  obtain⟨kb,ko,e,hkb,hda⟩:=hget j d hj
  have hmem:=List.mem_of_getElem? hj
  have h1:=hg.2.2 d.b (Pg.body_mem hmem)
  exact⟨kb,ko,e,hB kb hkb,fun W hW=>hda.keep (hW.keeps'.mono hB) hkb,h1.1,by have:=h1.2.1;omega,fun a ha=>(hg.pm hmem ha).2,Pg.big_def hmem⟩)
 have HB1:Hid (100<g.m.dN->g.tooBig=true):=hid Pg.big_main
 have HB2:Hid (10000<g.total->g.tooBig=true):=hid Pg.big_total
 have HB3:Hid (¬100<g.m.dN->¬10000<g.total->(∀d∈g.ds,d.deep=false)->g.tooBig=false):=hid Pg.big_no
 obtain⟨ds,hds⟩:∃ds,g.ds=ds:=⟨_,rfl⟩
 rw[hds] at hlen HD HB3
 clear hget hd hp hgm hg hds hv0
 obtain⟨z1,hz1⟩:∃z,g.m.dN=z:=⟨_,rfl⟩
 obtain⟨z2,hz2⟩:∃z,g.total=z:=⟨_,rfl⟩
 obtain⟨q,hq⟩:∃q,g.tooBig=q:=⟨_,rfl⟩
 rw[hz1] at HDP HB1 HB3 hdn
 rw[hz2] at HTO HB2 HB3 hsz
 rw[hq] at HB1 HB2 HB3 HD |-
 clear hz1 hz2 hq
 unfold QW at HDP
 have CE:=hid Qu
 have HL:=hid hlow
 have HW1:=hid hw1
 have b0:Below (w.heap.size+1) w1 w1:=bR
 have e0:=Qu w1 b0 0 _ rfl
 have e1:=Qu w1 b0 1 _ rfl
 have e2:=Qu w1 b0 2 _ rfl
 have e3:=Qu w1 b0 3 _ rfl
 have e4:=Qu w1 b0 4 _ rfl
 have e5:=Qu w1 b0 5 _ rfl
 have e6:=Qu w1 b0 6 _ rfl
 have e7:=Qu w1 b0 7 _ rfl
 have e8:=Qu w1 b0 8 _ rfl
 have e9:=Qu w1 b0 9 _ rfl
 have e10:=Qu w1 b0 10 _ rfl
 have e11:=Qu w1 b0 11 _ rfl
 have e12:=Qu w1 b0 12 _ rfl
 clear Qu hlow hb01
 simp only[JA] at hw1
 cases h1:decide (100<z1)
 case true=>
  have h1':decide ((100:Int)<(z1:Int))=true:=by have:=of_decide_eq_true h1;simp;omega
  have hq:=HB1.out (of_decide_eq_true h1)
  subst hq
  go_enter Tryz.func29,Tryz.ntmps29
  go_wp2_with (go_at_call 62;refine(HDP.out w1 b0).mono ?_;rintro e w2⟨rfl,hb⟩)
  go_ret
  exact⟨rfl,HL.out _ (hb.mono (by omega))⟩
 case false=>
  have h1':decide ((100:Int)<(z1:Int))=false:=by have:=of_decide_eq_false h1;simp;omega
  have LATE:Hid (∀w2,Below w1.heap.size w1 w2->Below (w.heap.size+1) w1 w2):=hid (fun w2 h=>h.mono (by omega))
  cases h2:decide (10000<z2)
  case true=>
   have h2':decide ((10000:Int)<(z2:Int))=true:=by have:=of_decide_eq_true h2;simp;omega
   have hq:=HB2.out (of_decide_eq_true h2)
   subst hq
   go_enter Tryz.func29,Tryz.ntmps29
   go_wp2_with (first|(go_at_call 62;refine(HDP.out w1 b0).mono ?_;rintro e w2⟨rfl,hb⟩;have hb2:=LATE.out _ hb;have f0:=CE.out w2 hb2 0 _ rfl;have f1:=CE.out w2 hb2 1 _ rfl;have f2:=CE.out w2 hb2 2 _ rfl;have f3:=CE.out w2 hb2 3 _ rfl;have f4:=CE.out w2 hb2 4 _ rfl;have f5:=CE.out w2 hb2 5 _ rfl;have f6:=CE.out w2 hb2 6 _ rfl;have f7:=CE.out w2 hb2 7 _ rfl;have f8:=CE.out w2 hb2 8 _ rfl;have f9:=CE.out w2 hb2 9 _ rfl;have f10:=CE.out w2 hb2 10 _ rfl;have f11:=CE.out w2 hb2 11 _ rfl;have f12:=CE.out w2 hb2 12 _ rfl)|(go_at_call 63;refine(HTO.out w2 hb2).mono ?_;rintro e w3⟨rfl,hb3⟩;have hb4:=LATE.out _ (Qf hb hb3)))
   go_ret
   exact⟨rfl,HL.out _ hb4⟩
  case false=>
   have h2':decide ((10000:Int)<(z2:Int))=false:=by have:=of_decide_eq_false h2;simp;omega
   have HQ:Hid ((∀d∈ds,d.deep=false)->q=false):=hid (HB3.out (of_decide_eq_false h1) (of_decide_eq_false h2))
   go_enter Tryz.func29,Tryz.ntmps29
   go_wp2_with (first|(go_at_call 62;refine(HDP.out w1 b0).mono ?_;rintro e w2⟨rfl,hb⟩;have hb2:=LATE.out _ hb;have f0:=CE.out w2 hb2 0 _ rfl;have f1:=CE.out w2 hb2 1 _ rfl;have f2:=CE.out w2 hb2 2 _ rfl;have f3:=CE.out w2 hb2 3 _ rfl;have f4:=CE.out w2 hb2 4 _ rfl;have f5:=CE.out w2 hb2 5 _ rfl;have f6:=CE.out w2 hb2 6 _ rfl;have f7:=CE.out w2 hb2 7 _ rfl;have f8:=CE.out w2 hb2 8 _ rfl;have f9:=CE.out w2 hb2 9 _ rfl;have f10:=CE.out w2 hb2 10 _ rfl;have f11:=CE.out w2 hb2 11 _ rfl;have f12:=CE.out w2 hb2 12 _ rfl)|(go_at_call 63;refine(HTO.out w2 hb2).mono ?_;rintro e w3⟨rfl,hb3⟩;have hb4:=LATE.out _ (Qf hb hb3)))
   clear e0 e1 e2 e3 e4 e5 e6 e7 e8 e9 e10 e11 e12 f0 f1 f2 f3 f4 f5 f6 f7 f8 f9 f10 f11 f12 hw1
   go_loopw [3,4] (fun i _ wr=>∃j:Nat,i= .int .i64 j/\j<=len/\Hid (∀d∈ds.take j,d.deep=false)/\Below (w.heap.size+1) w1 wr) (fun i _ _=>len-(intOf i).toNat)
   case atStart=>exact⟨0,rfl,by omega,hid (fun d hd=>by cases hd),hb4⟩
   case round=>
    obtain⟨j,rfl,hj,HJ,hb5⟩:=hrel
    obtain⟨wo,hwo⟩:∃wo,wo=wr:=⟨_,rfl⟩
    subst hwo
    have c0:=CE.out wo hb5 0 _ rfl
    have hw:=HL.out wo hb5
    by_cases hlt:j<len
    ·obtain⟨d,hdj⟩:∃d,ds[j]? =some d:=⟨_,List.getElem?_eq_getElem (by rw[<-hlen.out];exact hlt)⟩
     obtain⟨kb,ko,rfl,hkb,hda,hdg,hdd,hpm,hdq⟩:=HD.out j d hdj
     obtain⟨ma,mn,mc,la',ln',lc',aa',an',ac',ta',tn',tc',ua',un',uc',ka',kn',kc',⟨d0,d1,d2,d3,d4,d5,d6,d7,d8,d9,d10,d11,d12,d13⟩,hms,hval⟩:=(hda wo hw).load'
     have hBr:Low B wo:=hB.le hw.size
     have hkr:=hw.size
     have hdl:=Pr.dN_le d.b 1000000 hdg.2 hdd (by omega)
     have IH:=hid (NG B d.b hdd hdg.2 _ wo hBr hval)
     obtain⟨pma,pmn,pmc,hpe,hmlen,hmmx,hmget⟩:=hms.open
     simp only[Value.slice.injEq] at hpe
     obtain⟨rfl,rfl,rfl⟩:=hpe
     have HMG:Hid (∀(k:Nat) (a:Pm),d.ms[k]? =some a->∃pb po,ma=some ⟨pb,po,none⟩/\pb<wo.heap.size/\(∀W,Below wo.heap.size wo W->PmAt B W a pb (po+k*7))/\a.t.depth<=100000/\(100<a.t.depth->q=true)):=hid (fun k a hk=>by
      obtain⟨pb,po,e,hpb,hpa⟩:=hmget k a hk
      exact⟨pb,po,e,hBr pb hpb,fun W hW=>hpa.keep (hW.keeps'.mono hBr) hpb,hpm a (List.mem_of_getElem? hk),fun h=>hdq (Df.deep_m (List.mem_of_getElem? hk) h)⟩)
     have HML:=hid hmlen.out
     have HDB:Hid (100<d.b.dN->q=true):=hid (fun h=>hdq (Df.deep_b h))
     have HDN:Hid (¬100<d.b.dN->(∀a∈d.ms,a.t.depth<=100)->∀x∈ds.take (j+1),x.deep=false):=hid (fun h1 h2=>VC hdj HJ.out (Df.deep_no h1 h2))
     unfold QW at IH
     obtain⟨y1,hy1⟩:∃y,d.b.dN=y:=⟨_,rfl⟩
     rw[hy1] at IH HDB HDN hdl
     clear hda hval hms hmget hpm hdg hdd hdq hy1 hdj hmlen d0
     cases h3:decide (100<y1)
     case true=>
      have h3':decide ((100:Int)<(y1:Int))=true:=by have:=of_decide_eq_true h3;simp;omega
      have hq:=HDB.out (of_decide_eq_true h3)
      subst hq
      go_wp2_with (go_at_call 62;refine IH.out.mono ?_;rintro e w6⟨rfl,hb6⟩)
      go_ret
      exact⟨rfl,HL.out _ (hb5.trans (hb6.mono (by have:=hb5.size;omega)))⟩
     case false=>
      have h3':decide ((100:Int)<(y1:Int))=false:=by have:=of_decide_eq_false h3;simp;omega
      go_wp2_with (go_at_call 62;refine IH.out.mono ?_;rintro e w6⟨rfl,hb6⟩)
      go_loopw [4] (fun i wr=>∃k:Nat,i= .int .i64 k/\k<=mn/\Hid (∀a∈d.ms.take k,a.t.depth<=100)/\Below wo.heap.size wo wr) (fun i _=>mn-(intOf i).toNat)
      case atStart=>exact⟨0,rfl,by omega,hid (fun d hd=>by cases hd),hb6⟩
      case round=>
       obtain⟨k,rfl,hk,HK,hb7⟩:=hrel
       have hsw:=hb5.size
       have p0:=CE.out wr (hb5.trans (hb7.mono (by omega))) 0 _ rfl
       have p1:=(hb7.cell (p:=⟨kb,ko+j*14+1,none⟩) (by simp;omega)).trans d1
       by_cases hlt2:k<mn
       ·obtain⟨a,hak⟩:∃a,d.ms[k]? =some a:=⟨_,List.getElem?_eq_getElem (by rw[<-HML.out];exact hlt2)⟩
        obtain⟨pb,po,rfl,hpb,hpa,has,haq⟩:=HMG.out k a hak
        obtain⟨la3,ln3,lc3,ka3,kn3,kc3,⟨q0,q1,q2,q3,q4,q5,q6⟩,htv⟩:=(hpa wr hb7).load'
        have HT3:=hid (Mc B a.t (by omega) _ wr (hBr.le hb7.size) htv)
        have HAN:Hid (¬100<a.t.depth->∀x∈d.ms.take (k+1),x.t.depth<=100):=hid (fun h=>VC hak HK.out (by omega))
        have HAQ:=hid haq
        obtain⟨s1,hs1⟩:∃s,a.t.depth=s:=⟨_,rfl⟩
        rw[hs1] at HT3 HAN HAQ has
        clear hpa hak q0 htv haq hs1
        cases h4:decide (100<s1)
        case true=>
         have h4':decide ((100:Int)<(s1:Int))=true:=by have:=of_decide_eq_true h4;simp;omega
         have hq:=HAQ.out (of_decide_eq_true h4)
         subst hq
         go_wp2_with (go_at_call 39;refine HT3.out.mono ?_;rintro e w8⟨rfl,hb8⟩)
         go_ret
         exact⟨rfl,HL.out _ (hb5.trans ((Qf hb7 hb8).mono (by omega)))⟩
        case false=>
         have h4':decide ((100:Int)<(s1:Int))=false:=by have:=of_decide_eq_false h4;simp;omega
         go_wp2_with (go_at_call 39;refine HT3.out.mono ?_;rintro e w8⟨rfl,hb8⟩)
         go_roundw
         case rel=>exact⟨k+1,by go_num,by omega,hid (HAN.out (of_decide_eq_false h4)),Qf hb7 hb8⟩
         case measure=>simp[intOf];omega
       ·obtain rfl:k=mn:=by omega
        go_wp2_with fail
        go_roundw
        case rel=>exact⟨j+1,by go_num,by omega,hid (HDN.out (of_decide_eq_false h3) (fun a ha=>HK.out a (by rw[List.take_of_length_le (by rw[HML.out];exact lR)];exact ha))),hb5.trans (hb7.mono (by omega))⟩
        case measure=>simp[intOf];omega
    ·obtain rfl:j=len:=by omega
     have hq:=HQ.out (fun d hd=>HJ.out d (by rw[List.take_of_length_le (by rw[hlen.out];exact lR)];exact hd))
     subst hq
     go_wp2_with fail
     go_ret
     exact⟨rfl,hw⟩
end Go.Proofs.YtmnbheplkidfaaaGreatDoor
namespace Go.Proofs.YtmnbheplkidfaaaGreatDoor
open Go.RowKit Go.Deep Go.Shelf
def finE{α:Type}(F:List Tk->PR α)(big:α->Bool)(E:Int)(st:RS):α ⊕ (Int×Int):=match Qj F st with
 |some x=>(match Rh E (!big x) (Qa E F st) with | .inr z=> .inr z | .inl _=> .inl x)
 |none=>(match Qa E F st with | .inr z=> .inr z | .inl _=> .inr (0,0))
theorem RD{α:Type}(F:List Tk->PR α)(big:α->Bool)(s:ByteArray)(r:List Tok.Item ⊕ (Int×Int)):ZP F big s r=finE F big (s.size:Int) (stOf r):=by
 cases r with
 |inr z=>rfl
 |inl I=>
  show pfin F big (s.size:Int) (I.map tkOf)=finE F big (s.size:Int) (.inl (I.map tkOf))
  unfold pfin finE
  cases h:F (I.map tkOf) with
  |bad e r=>rw[JM h,QE _ h]
  |ok x r=>
   rw[JP h,QM _ h]
   cases r with
   |nil=>show(if big x=true then Sum.inr (2,(s.size:Int)) else .inl x)=(match Rh (s.size:Int) (!big x) (.inl []) with | .inr z=> .inr z | .inl _=> .inl x);cases big x <;> rfl
   |cons y q=>rfl
theorem TX{α:Type}{F G:List Tk->PR α}{ts:List Tk}(h:F ts=G ts)(big:α->Bool)(E:Int):finE F big E (.inl ts)=finE G big E (.inl ts):=by
 unfold finE Qj Qa
 simp only[h]
theorem WE{α:Type}{E:Int}{F:List Tk->PR α}{st:RS}{rr:List Tk}(h:Qa E F st= .inl rr):∃x ts,st= .inl ts/\F ts= .ok x rr/\Qj F st=some x:=by
 match st with
 | .inr z=>cases h
 | .inl ts=>
  cases hF:F ts with
  |bad e r=>rw[QE _ hF] at h;cases h
  |ok x r=>rw[QM _ hF] at h;cases h;exact⟨x,ts,rfl,hF,JP hF⟩
theorem MJ{α:Type}{E:Int}{F:List Tk->PR α}{st:RS}{z:Int×Int}(h:Qa E F st= .inr z)(big:α->Bool):finE F big E st= .inr z:=by
 match st with
 | .inr y=>injection h with h;subst h;rfl
 | .inl ts=>
  unfold finE
  cases hF:F ts with
  |bad e r=>rw[JM hF,h]
  |ok x r=>rw[QM _ hF] at h;cases h
theorem LN(B:Nat->Prop)(w:World):DfSl B w sN []:=⟨.inl ⟨⟨_,_,rfl⟩,rfl⟩,Nat.zero_le _⟩
end Go.Proofs.YtmnbheplkidfaaaGreatDoor
namespace Go.Proofs.YtmnbheplkidfaaaGreatDoor
open Go.Lib (hid)
open Go.RowKit Go.Deep Go.Shelf
theorem Dw(B:Nat->Prop)(v v':Value)(ls ls':List ByteArray)(w:World)(h:StrSl B w v ls)(h':StrSl B w v' ls'):
 Calls Tryz.prog 34 #[v,v'] w fun e w'=>e= .returned (.bool (decide (ls=ls')))/\Drew w w':=by
 obtain⟨pa,len,c,rfl,hlen,hm,hget⟩:=h.open
 obtain⟨pa',len',c',rfl,hlen',hm',hget'⟩:=h'.open
 have HG:=hid hget
 have HG':=hid hget'
 clear hget hget' h h'
 by_cases hl:len=len'
 ·subst hl
  go_enter Tryz.func34,Tryz.ntmps34
  go_wp2_with fail
  go_loopw [5] (fun i wr=>∃(j:Nat),i= .int .i64 j/\j<=len/\Hid (ls.take j=ls'.take j)/\Drew w wr) (fun i _=>len-(intOf i).toNat)
  case atStart=>exact⟨0,rfl,by omega,hid (by simp),Drew.refl _⟩
  case round=>
   obtain⟨j,rfl,hj,HT,hd⟩:=hrel
   by_cases hlt:j<len
   ·obtain⟨s,hs⟩:∃s,ls[j]? =some s:=⟨_,List.getElem?_eq_getElem (by rw[<-hlen.out];exact hlt)⟩
    obtain⟨s',hs'⟩:∃s',ls'[j]? =some s':=⟨_,List.getElem?_eq_getElem (by rw[<-hlen'.out];exact hlt)⟩
    obtain⟨_,kb,ko,rfl,hkb,hc⟩:=HG.out j s hs
    obtain⟨_,kb',ko',rfl,hkb',hc'⟩:=HG'.out j s' hs'
    replace hc:wr.cell? ⟨kb,ko+j,none⟩=some (.string s):=by obtain⟨m,rfl⟩:=hd;exact hc
    replace hc':wr.cell? ⟨kb',ko'+j,none⟩=some (.string s'):=by obtain⟨m,rfl⟩:=hd;exact hc'
    by_cases hss:s=s'
    ·subst hss
     have hn:Hid (ls.take (j+1)=ls'.take (j+1)):=hid (by rw[Qn hs,Qn hs',HT.out])
     clear hs hs'
     go_wp2_with fail
     go_quiet (fail)
     go_wp2_with fail
     go_roundw
     case rel=>exact⟨j+1,by go_num,by omega,hn,hd.more _⟩
     case measure=>simp[intOf];omega
    ·have hne:Hid (ls≠ls'):=hid (fun e=>hss (by rw[e,hs'] at hs;exact(Option.some.inj hs).symm))
     have hb1:=Ue hss
     have hb2:(s.toList==s'.toList)=false:=by simpa using hb1
     clear hs hs' hss
     go_wp2_with fail
     go_quiet (fail)
     go_wp2_with fail
     go_ret
     exact⟨Qm (by simp[hne.out]),hd.more _⟩
   ·obtain rfl:j=len:=by omega
    go_wp2_with fail
    go_ret
    refine⟨Qm ?_,hd⟩
    have:=HT.out
    rw[List.take_of_length_le (by rw[hlen.out];exact lR),List.take_of_length_le (by rw[hlen'.out];exact lR)] at this
    simp[this]
 ·have hl':(len != len')=true:=by simpa using hl
  have hne:ls≠ls':=fun e=>hl (by rw[hlen.out,hlen'.out,e])
  have HN:=hid hne
  clear hne
  go_enter Tryz.func34,Tryz.ntmps34
  go_wp2_with fail
  go_ret
  exact⟨Qm (by simp[HN.out]),Drew.refl _⟩
def Ld(B:Nat->Prop)(p:Pr):Prop:=∀(q:Pr) (v v':Value) (w:World),Low B w->PrVal B w v p->PrVal B w v' q->Calls Tryz.prog 15 #[v,v'] w fun e w'=>e= .returned (.bool (eqP p q))/\Below w.heap.size w w'
abbrev wb2(w:World)(p q:Pr)(la:Option Addr)(ln lc:Nat)(aa:Option Addr)(an ac:Nat)(ta:Option Addr)(tn tc:Nat)(ua:Option Addr)(un uc:Nat)(ka:Option Addr)(kn kc:Nat)(la':Option Addr)(ln' lc':Nat)(aa':Option Addr)(an' ac':Nat)(ta':Option Addr)(tn' tc':Nat)(ua':Option Addr)(un' uc':Nat)(ka':Option Addr)(kn' kc':Nat):World:=
 (w.alloc (Zl p (.slice la ln lc) (.slice aa an ac) (.slice ta tn tc) (.slice ua un uc) (.slice ka kn kc))).alloc (Zl q (.slice la' ln' lc') (.slice aa' an' ac') (.slice ta' tn' tc') (.slice ua' un' uc') (.slice ka' kn' kc'))
theorem Gm(B:Nat->Prop)(p q:Pr)(ih:∀u∈p.ps,Ld B u)(v v':Value)(w:World)(hB:Low B w)(hv:PrVal B w v p)(hv':PrVal B w v' q):
 Calls Tryz.prog 15 #[v,v'] w fun e w'=>e= .returned (.bool (eqP p q))/\Below w.heap.size w w':=by
 obtain⟨lv,av,tl,tk,kv,rfl,_,hl,ha,ht,hk⟩:=hv
 obtain⟨lv',av',tl',tk',kv',rfl,_,hl',ha',ht',hk'⟩:=hv'
 obtain⟨ka,kn,kc,rfl,hkn,hkm,hkg⟩:=hk.open
 obtain⟨ka',kn',kc',rfl,hkn',hkm',hkg'⟩:=hk'.open
 obtain⟨aa,an,ac,rfl,han,ham,hag⟩:=ha.open
 obtain⟨aa',an',ac',rfl,han',ham',hag'⟩:=ha'.open
 obtain⟨la,ln,lc,rfl,_⟩:=hl.open
 obtain⟨la',ln',lc',rfl,_⟩:=hl'.open
 obtain⟨⟨ta,tn,tc,rfl⟩,ua,un,uc,rfl⟩:=UQ ht
 obtain⟨⟨ta',tn',tc',rfl⟩,ua',un',uc',rfl⟩:=UQ ht'
 have hb0:Below w.heap.size w ((w.alloc (Zl p (.slice la ln lc) (.slice aa an ac) (.slice ta tn tc) (.slice ua un uc) (.slice ka kn kc))).alloc (Zl q (.slice la' ln' lc') (.slice aa' an' ac') (.slice ta' tn' tc') (.slice ua' un' uc') (.slice ka' kn' kc'))):=Jb w _ _
 obtain⟨b1,hb1⟩:∃x,decide (p.ls=q.ls)=x:=⟨_,rfl⟩
 obtain⟨b2,hb2⟩:∃x,eqV p.vs q.vs=x:=⟨_,rfl⟩
 obtain⟨b3,hb3⟩:∃x,eqB p.t q.t=x:=⟨_,rfl⟩
 obtain⟨b4,hb4⟩:∃x,eqQ p.ps q.ps=x:=⟨_,rfl⟩
 have HEQ:Hid (eqP p q=(decide (p.k=q.k)&&(decide (p.c=q.c)&&(decide (p.x=q.x)&&(b1&&(b2&&(b3&&b4))))))):=hid (by
  rw[<-hb1,<-hb2,<-hb3,<-hb4,Bool.eq_iff_iff]
  simp only[eqP_true,Bool.and_eq_true,decide_eq_true_eq,eqV_true,eqB_true,eqQ_true]
  cases p;cases q
  simp only[Pr.mk.injEq,Pr.k,Pr.c,Pr.x,Pr.ls,Pr.vs,Pr.t,Pr.ps])
 have HT:Hid (Calls Tryz.prog 34 #[.slice la ln lc,.slice la' ln' lc'] ((w.alloc (Zl p (.slice la ln lc) (.slice aa an ac) (.slice ta tn tc) (.slice ua un uc) (.slice ka kn kc))).alloc (Zl q (.slice la' ln' lc') (.slice aa' an' ac') (.slice ta' tn' tc') (.slice ua' un' uc') (.slice ka' kn' kc'))) fun e w'=>e= .returned (.bool b1)/\Below ((w.alloc (Zl p (.slice la ln lc) (.slice aa an ac) (.slice ta tn tc) (.slice ua un uc) (.slice ka kn kc))).alloc (Zl q (.slice la' ln' lc') (.slice aa' an' ac') (.slice ta' tn' tc') (.slice ua' un' uc') (.slice ka' kn' kc'))).heap.size ((w.alloc (Zl p (.slice la ln lc) (.slice aa an ac) (.slice ta tn tc) (.slice ua un uc) (.slice ka kn kc))).alloc (Zl q (.slice la' ln' lc') (.slice aa' an' ac') (.slice ta' tn' tc') (.slice ua' un' uc') (.slice ka' kn' kc'))) w'):=hid ((Dw B _ _ _ _ _ (hl.keep (hb0.keeps'.mono hB)) (hl'.keep (hb0.keeps'.mono hB))).mono fun e w' ⟨h1,h2⟩=>⟨by rw[h1,hb1],h2.below _⟩)
 have HY:Hid (∀W,Below w.heap.size w W->Calls Tryz.prog 18 #[.agg #[.int .i64 p.t.k,.int .i64 p.t.p,.string p.t.n,.int .i64 p.t.s,.slice ta tn tc,.slice ua un uc],.agg #[.int .i64 q.t.k,.int .i64 q.t.p,.string q.t.n,.int .i64 q.t.s,.slice ta' tn' tc',.slice ua' un' uc']] W fun e w'=>e= .returned (.bool b3)/\Below W.heap.size W w'):=hid (fun W hW=>by
  rw[<-hb3];exact NC B p.t q.t _ _ W (hB.le hW.size) (ht.keep (hW.keeps'.mono hB)) (ht'.keep (hW.keeps'.mono hB)))
 have HV1:Hid (an≠an'->b2=false):=hid (fun h=>by rw[<-hb2];exact SW (fun e=>h (by rw[han.out,han'.out,e])))
 have HV2:Hid (an=an'->p.vs.take an=q.vs.take an->b2=true):=hid (fun h h2=>by rw[<-hb2];exact eqV_true.2 (Vo han.out (h.trans han'.out) h2))
 have HV3:Hid (∀(j:Nat) (s s':Vl),p.vs[j]? =some s->q.vs[j]? =some s'->s≠s'->b2=false):=hid (fun j s s' h h' hn=>by rw[<-hb2];exact SW (fun e=>hn (by rw[e,h'] at h;exact(Option.some.inj h).symm)))
 have HK1:Hid (kn≠kn'->b4=false):=hid (fun h=>by rw[<-hb4];exact SX (fun e=>h (by rw[hkn.out,hkn'.out,e])))
 have HK2:Hid (kn=kn'->p.ps.take kn=q.ps.take kn->b4=true):=hid (fun h h2=>by rw[<-hb4];exact eqQ_true.2 (Vo hkn.out (h.trans hkn'.out) h2))
 have HK3:Hid (∀(j:Nat) (s s':Pr),p.ps[j]? =some s->q.ps[j]? =some s'->s≠s'->b4=false):=hid (fun j s s' h h' hn=>by rw[<-hb4];exact SX (fun e=>hn (by rw[e,h'] at h;exact(Option.some.inj h).symm)))
 have HIH:=hid ih
 have HGV:=hid hag
 have HGV':=hid hag'
 have HGK:=hid hkg
 have HGK':=hid hkg'
 have HB0:=hid hb0
 rw[HEQ.out]
 clear HEQ hb1 hb2 hb3 hb4 hl ha ht hk hl' ha' ht' hk' hag hag' hkg hkg' ih hb0
 unfold QW
 by_cases h1:p.k=q.k
 ·have h1':(p.k != q.k)=false:=by simp[h1]
  rw[show decide (p.k=q.k)=true by simpa using h1,Bool.true_and]
  by_cases h2:p.c=q.c
  ·have h2':(p.c.toList != q.c.toList)=false:=by simp[h2]
   have h2e:(p.c.toList==q.c.toList)=true:=by simp[h2]
   rw[show decide (p.c=q.c)=true by simpa using h2,Bool.true_and]
   by_cases h3:p.x=q.x
   ·have h3':(p.x.toList != q.x.toList)=false:=by simp[h3]
    have h3e:(p.x.toList==q.x.toList)=true:=by simp[h3]
    rw[show decide (p.x=q.x)=true by simpa using h3,Bool.true_and]
    clear h1 h2 h3
    cases b1
    ·rw[Bool.false_and]
     go_enter Tryz.func15,Tryz.ntmps15
     go_wp2_with fail
     refine HT.out.mono ?_
     rintro e w1⟨rfl,g1⟩
     go_wp2_with fail
     go_ret
     exact⟨rfl,Qf HB0.out g1⟩
    ·rw[Bool.true_and]
     by_cases h4:an=an'
     ·subst h4
      cases b3
      ·rw[Bool.false_and,Bool.and_false]
       go_enter Tryz.func15,Tryz.ntmps15
       go_wp2_with fail
       refine HT.out.mono ?_
       rintro e w1⟨rfl,g1⟩
       have gb:Below (w.heap.size+2) (wb2 w p q la ln lc aa an ac ta tn tc ua un uc ka kn kc la' ln' lc' aa' an ac' ta' tn' tc' ua' un' uc' ka' kn' kc') w1:=g1.mono (by simp)
       have c4:=QL gb 4 rfl
       have c4':=QK gb 4 rfl
       have c5:=QL gb 5 rfl
       have c5':=QK gb 5 rfl
       have c6:=QL gb 6 rfl
       have c6':=QK gb 6 rfl
       have c7:=QL gb 7 rfl
       have c7':=QK gb 7 rfl
       have c8:=QL gb 8 rfl
       have c8':=QK gb 8 rfl
       have c9:=QL gb 9 rfl
       have c9':=QK gb 9 rfl
       have c10:=QL gb 10 rfl
       have c10':=QK gb 10 rfl
       go_wp2_with fail
       clear c4 c4' c5 c5' c6 c6' c7 c7' c8 c8' c9 c9' c10 c10'
       refine(HY.out _ (JR gb)).mono ?_
       rintro e w2⟨rfl,g2⟩
       go_wp2_with fail
       go_ret
       exact⟨rfl,Qf (JR gb) g2⟩
      ·rw[Bool.true_and]
       by_cases h5:kn=kn'
       ·subst h5
        go_enter Tryz.func15,Tryz.ntmps15
        go_wp2_with fail
        refine HT.out.mono ?_
        rintro e w1⟨rfl,g1⟩
        have gb:Below (w.heap.size+2) (wb2 w p q la ln lc aa an ac ta tn tc ua un uc ka kn kc la' ln' lc' aa' an ac' ta' tn' tc' ua' un' uc' ka' kn kc') w1:=g1.mono (by simp)
        have c4:=QL gb 4 rfl
        have c4':=QK gb 4 rfl
        have c5:=QL gb 5 rfl
        have c5':=QK gb 5 rfl
        have c6:=QL gb 6 rfl
        have c6':=QK gb 6 rfl
        have c7:=QL gb 7 rfl
        have c7':=QK gb 7 rfl
        have c8:=QL gb 8 rfl
        have c8':=QK gb 8 rfl
        have c9:=QL gb 9 rfl
        have c9':=QK gb 9 rfl
        have c10:=QL gb 10 rfl
        have c10':=QK gb 10 rfl
        go_wp2_with fail
        clear c4 c4' c5 c5' c6 c6' c7 c7' c8 c8' c9 c9' c10 c10'
        refine(HY.out _ (JR gb)).mono ?_
        rintro e w2⟨rfl,g2⟩
        have gc:Below (w.heap.size+2) (wb2 w p q la ln lc aa an ac ta tn tc ua un uc ka kn kc la' ln' lc' aa' an ac' ta' tn' tc' ua' un' uc' ka' kn kc') w2:=gb.trans (g2.mono (by have:=gb.size;simp at this;omega))
        have c11:=QL gc 11 rfl
        have c11':=QK gc 11 rfl
        go_wp2_with fail
        clear c11 c11' HT HY g1 g2
        have GC:=hid gc
        clear gb gc
        go_loopw [5] (fun i wr=>∃(j:Nat),i= .int .i64 j/\j<=an/\Hid (p.vs.take j=q.vs.take j)/\Below (w.heap.size+2) (wb2 w p q la ln lc aa an ac ta tn tc ua un uc ka kn kc la' ln' lc' aa' an ac' ta' tn' tc' ua' un' uc' ka' kn kc') wr) (fun i _=>an-(intOf i).toNat)
        case atStart=>exact⟨0,rfl,by omega,hid (by simp),GC.out⟩
        case round=>
         obtain⟨j,rfl,hj,HTK,hb⟩:=hrel
         have c4:=QL hb 4 rfl
         have c4':=QK hb 4 rfl
         have hw:=JR hb
         by_cases hlt:j<an
         ·obtain⟨s,hs⟩:∃s,p.vs[j]? =some s:=⟨_,List.getElem?_eq_getElem (by rw[<-han.out];exact hlt)⟩
          obtain⟨s',hs'⟩:∃s',q.vs[j]? =some s':=⟨_,List.getElem?_eq_getElem (by rw[<-han'.out];exact hlt)⟩
          obtain⟨_,kb,ko,rfl,hkb,hc⟩:=HGV.out j s hs
          obtain⟨_,kb',ko',rfl,hkb',hc'⟩:=HGV'.out j s' hs'
          have e0:=(hw.cell (p:=⟨kb,_,none⟩) (hB kb hkb)).trans hc.1
          have e1:=(hw.cell (p:=⟨kb,_,none⟩) (hB kb hkb)).trans hc.2.1
          have e2:=(hw.cell (p:=⟨kb,_,none⟩) (hB kb hkb)).trans hc.2.2
          have e0':=(hw.cell (p:=⟨kb',_,none⟩) (hB kb' hkb')).trans hc'.1
          have e1':=(hw.cell (p:=⟨kb',_,none⟩) (hB kb' hkb')).trans hc'.2.1
          have e2':=(hw.cell (p:=⟨kb',_,none⟩) (hB kb' hkb')).trans hc'.2.2
          clear hc hc'
          by_cases hss:s=s'
          ·subst hss
           have hn:Hid (p.vs.take (j+1)=q.vs.take (j+1)):=hid (by rw[Qn hs,Qn hs',HTK.out])
           clear hs hs'
           go_wp2_with fail
           go_quiet (fail)
           go_wp2_with fail
           go_roundw
           case rel=>exact⟨j+1,by go_num,by omega,hn,below_drewN hb _⟩
           case measure=>simp[intOf];omega
          ·have HF:=hid (HV3.out j s s' hs hs' hss)
           clear hs hs'
           obtain⟨k,n,x⟩:=s
           obtain⟨k',n',x'⟩:=s'
           simp only at e0 e1 e2 e0' e1' e2'
           by_cases z1:k=k'
           ·subst z1
            by_cases z2:n=n'
            ·subst z2
             have z3:(x==x')=false:=by simp;intro e;exact hss (by rw[e])
             clear hss
             go_wp2_with fail
             go_quiet (fail)
             go_wp2_with fail
             go_ret
             exact⟨Qm (by rw[HF.out,Bool.false_and]),below_drewN hw _⟩
            ·have z3:=Ue z2
             have z4:(n.toList==n'.toList)=false:=by simpa using z3
             clear hss z2
             go_wp2_with fail
             go_quiet (fail)
             go_wp2_with fail
             go_ret
             exact⟨Qm (by rw[HF.out,Bool.false_and]),below_drewN hw _⟩
           ·have z3:(k==k')=false:=by simpa using z1
            clear hss z1
            go_wp2_with fail
            go_quiet (fail)
            go_wp2_with fail
            go_ret
            exact⟨Qm (by rw[HF.out,Bool.false_and]),below_drewN hw _⟩
         ·obtain rfl:an=j:=by omega
          have HB2:=hid (HV2.out (by first|trivial|rfl) HTK.out)
          clear HTK
          go_wp2_with fail
          clear c4 c4'
          have GD:=hid hb
          clear hb
          go_loopw [6] (fun i wr=>∃(m:Nat),i= .int .i64 m/\m<=kn/\Hid (p.ps.take m=q.ps.take m)/\Below (w.heap.size+2) (wb2 w p q la ln lc aa an ac ta tn tc ua un uc ka kn kc la' ln' lc' aa' an ac' ta' tn' tc' ua' un' uc' ka' kn kc') wr) (fun i _=>kn-(intOf i).toNat)
          case atStart=>exact⟨0,rfl,by omega,hid (by simp),GD.out⟩
          case round=>
           obtain⟨m,rfl,hm,HTK,hb⟩:=hrel
           have c11:=QL hb 11 rfl
           have c11':=QK hb 11 rfl
           have hw:=JR hb
           by_cases hlt:m<kn
           ·obtain⟨s,hs⟩:∃s,p.ps[m]? =some s:=⟨_,List.getElem?_eq_getElem (by rw[<-hkn.out];exact hlt)⟩
            obtain⟨s',hs'⟩:∃s',q.ps[m]? =some s':=⟨_,List.getElem?_eq_getElem (by rw[<-hkn'.out];exact hlt)⟩
            obtain⟨kb,ko,rfl,hkb,hty⟩:=HGK.out m s hs
            obtain⟨kb',ko',rfl,hkb',hty'⟩:=HGK'.out m s' hs'
            obtain⟨la1,ln1,lc1,aa1,an1,ac1,ta1,tn1,tc1,ua1,un1,uc1,ka1,kn1,kc1,⟨D0,D1,D2,D3,D4,D5,D6,D7,D8,D9,D10,D11⟩,hval⟩:=(hty.keep (hw.keeps'.mono hB)).load'
            obtain⟨la2,ln2,lc2,aa2,an2,ac2,ta2,tn2,tc2,ua2,un2,uc2,ka2,kn2,kc2,⟨F0,F1,F2,F3,F4,F5,F6,F7,F8,F9,F10,F11⟩,hval'⟩:=(hty'.keep (hw.keeps'.mono hB)).load'
            have IH:Hid (∀W,Below wr.heap.size wr W->Calls Tryz.prog 15 #[QW s (.slice la1 ln1 lc1) (.slice aa1 an1 ac1) (.slice ta1 tn1 tc1) (.slice ua1 un1 uc1) (.slice ka1 kn1 kc1),QW s' (.slice la2 ln2 lc2) (.slice aa2 an2 ac2) (.slice ta2 tn2 tc2) (.slice ua2 un2 uc2) (.slice ka2 kn2 kc2)] W fun e w'=>e= .returned (.bool (eqP s s'))/\Below W.heap.size W w'):=
             hid (fun W hW=>HIH.out s (List.mem_of_getElem? hs) s' _ _ W (hB.le (lT hw.size hW.size)) (hval.to (hB.le hw.size) hW) (hval'.to (hB.le hw.size) hW))
            have hbk:=hB kb hkb
            have hbk':=hB kb' hkb'
            have lift:∀ {v:Value} {x:Nat},wr.cell? ⟨kb,x,none⟩=some v->∀W,Below wr.heap.size wr W->W.cell? ⟨kb,x,none⟩=some v:=fun h W hW=>(hW.cell (p:=⟨kb,_,none⟩) (by have:=hw.size;simp;omega)).trans h
            have lift':∀ {v:Value} {x:Nat},wr.cell? ⟨kb',x,none⟩=some v->∀W,Below wr.heap.size wr W->W.cell? ⟨kb',x,none⟩=some v:=fun h W hW=>(hW.cell (p:=⟨kb',_,none⟩) (by have:=hw.size;simp;omega)).trans h
            have x11:=fun Q:QQ wr.heap.size wr=>(Q.2.cell (p:=⟨w.heap.size,11,none⟩) (by have:=hb.size;simp at this;simp;omega)).trans c11
            have x11':=fun Q:QQ wr.heap.size wr=>(Q.2.cell (p:=⟨w.heap.size+1,11,none⟩) (by have:=hb.size;simp at this;simp;omega)).trans c11'
            have X0:=fun Q:QQ wr.heap.size wr=>lift D0 Q.1 Q.2
            have Y0:=fun Q:QQ wr.heap.size wr=>lift' F0 Q.1 Q.2
            have X1:=fun Q:QQ wr.heap.size wr=>lift D1 Q.1 Q.2
            have Y1:=fun Q:QQ wr.heap.size wr=>lift' F1 Q.1 Q.2
            have X2:=fun Q:QQ wr.heap.size wr=>lift D2 Q.1 Q.2
            have Y2:=fun Q:QQ wr.heap.size wr=>lift' F2 Q.1 Q.2
            have X3:=fun Q:QQ wr.heap.size wr=>lift D3 Q.1 Q.2
            have Y3:=fun Q:QQ wr.heap.size wr=>lift' F3 Q.1 Q.2
            have X4:=fun Q:QQ wr.heap.size wr=>lift D4 Q.1 Q.2
            have Y4:=fun Q:QQ wr.heap.size wr=>lift' F4 Q.1 Q.2
            have X5:=fun Q:QQ wr.heap.size wr=>lift D5 Q.1 Q.2
            have Y5:=fun Q:QQ wr.heap.size wr=>lift' F5 Q.1 Q.2
            have X6:=fun Q:QQ wr.heap.size wr=>lift D6 Q.1 Q.2
            have Y6:=fun Q:QQ wr.heap.size wr=>lift' F6 Q.1 Q.2
            have X7:=fun Q:QQ wr.heap.size wr=>lift D7 Q.1 Q.2
            have Y7:=fun Q:QQ wr.heap.size wr=>lift' F7 Q.1 Q.2
            have X8:=fun Q:QQ wr.heap.size wr=>lift D8 Q.1 Q.2
            have Y8:=fun Q:QQ wr.heap.size wr=>lift' F8 Q.1 Q.2
            have X9:=fun Q:QQ wr.heap.size wr=>lift D9 Q.1 Q.2
            have Y9:=fun Q:QQ wr.heap.size wr=>lift' F9 Q.1 Q.2
            have X10:=fun Q:QQ wr.heap.size wr=>lift D10 Q.1 Q.2
            have Y10:=fun Q:QQ wr.heap.size wr=>lift' F10 Q.1 Q.2
            have X11:=fun Q:QQ wr.heap.size wr=>lift D11 Q.1 Q.2
            have Y11:=fun Q:QQ wr.heap.size wr=>lift' F11 Q.1 Q.2
            clear lift lift' hval hval' hty hty' D0 F0 D1 F1 D2 F2 D3 F3 D4 F4 D5 F5 D6 F6 D7 F7 D8 F8 D9 F9 D10 F10 D11 F11
            by_cases hss:s=s'
            ·rw[eqP_true.2 hss] at IH
             have hn:Hid (p.ps.take (m+1)=q.ps.take (m+1)):=hid (by rw[Qn hs,Qn hs',HTK.out,hss])
             clear hs hs' hss
             unfold QW at IH
             go_wp2_with fail
             clear c11 c11'
             refine Jd wr.heap.size wr (by kernel_rfl) (by kernel_rfl) bR ?_
             repeat (go_big_quiet_step ((go_at_call 15;exact Jy _ lR (IH.out _ (Subtype.property _)))))
             refine wpQuiet_nil ?_
             rintro _⟨⟨w5,hb5⟩,rfl⟩
             clear x11 x11' X0 Y0 X1 Y1 X2 Y2 X3 Y3 X4 Y4 X5 Y5 X6 Y6 X7 Y7 X8 Y8 X9 Y9 X10 Y10 X11 Y11
             go_wp2_with fail
             go_roundw
             case rel=>exact⟨m+1,by go_num,by omega,hn,hb.trans (hb5.mono (by have:=hb.size;simpa using this))⟩
             case measure=>simp[intOf];omega
            ·rw[Ey hss] at IH
             have HF:=hid (HK3.out m s s' hs hs' hss)
             clear hs hs' hss
             unfold QW at IH
             go_wp2_with fail
             clear c11 c11'
             refine Jd wr.heap.size wr (by kernel_rfl) (by kernel_rfl) bR ?_
             repeat (go_big_quiet_step ((go_at_call 15;exact Jy _ lR (IH.out _ (Subtype.property _)))))
             refine wpQuiet_nil ?_
             rintro _⟨⟨w5,hb5⟩,rfl⟩
             clear x11 x11' X0 Y0 X1 Y1 X2 Y2 X3 Y3 X4 Y4 X5 Y5 X6 Y6 X7 Y7 X8 Y8 X9 Y9 X10 Y10 X11 Y11
             go_wp2_with fail
             go_ret
             exact⟨Qm (by rw[HF.out,Bool.and_false]),Qf hw hb5⟩
           ·obtain rfl:m=kn:=by omega
            have HB4:=hid (HK2.out (by first|trivial|rfl) HTK.out)
            clear HTK
            go_wp2_with fail
            go_ret
            exact⟨Qm (by rw[HB2.out,HB4.out];rfl),hw⟩
       ·have HF:=hid (HK1.out h5)
        have h5':(kn != kn')=true:=by simpa using h5
        clear h5
        go_enter Tryz.func15,Tryz.ntmps15
        go_wp2_with fail
        refine HT.out.mono ?_
        rintro e w1⟨rfl,g1⟩
        have gb:Below (w.heap.size+2) (wb2 w p q la ln lc aa an ac ta tn tc ua un uc ka kn kc la' ln' lc' aa' an ac' ta' tn' tc' ua' un' uc' ka' kn' kc') w1:=g1.mono (by simp)
        have c4:=QL gb 4 rfl
        have c4':=QK gb 4 rfl
        have c5:=QL gb 5 rfl
        have c5':=QK gb 5 rfl
        have c6:=QL gb 6 rfl
        have c6':=QK gb 6 rfl
        have c7:=QL gb 7 rfl
        have c7':=QK gb 7 rfl
        have c8:=QL gb 8 rfl
        have c8':=QK gb 8 rfl
        have c9:=QL gb 9 rfl
        have c9':=QK gb 9 rfl
        have c10:=QL gb 10 rfl
        have c10':=QK gb 10 rfl
        go_wp2_with fail
        clear c4 c4' c5 c5' c6 c6' c7 c7' c8 c8' c9 c9' c10 c10'
        refine(HY.out _ (JR gb)).mono ?_
        rintro e w2⟨rfl,g2⟩
        have gc:Below (w.heap.size+2) (wb2 w p q la ln lc aa an ac ta tn tc ua un uc ka kn kc la' ln' lc' aa' an ac' ta' tn' tc' ua' un' uc' ka' kn' kc') w2:=gb.trans (g2.mono (by have:=gb.size;simp at this;omega))
        have c11:=QL gc 11 rfl
        have c11':=QK gc 11 rfl
        go_wp2_with fail
        go_ret
        exact⟨Qm (by rw[HF.out,Bool.and_false]),JR gc⟩
     ·have HF:=hid (HV1.out h4)
      have h4':(an != an')=true:=by simpa using h4
      have h4'':(an==an')=false:=by simpa using h4
      have h4i:((an:Int)==(an':Int))=false:=by simp;omega
      have h4j:((an:Int) != (an':Int))=true:=by simp;omega
      clear h4
      go_enter Tryz.func15,Tryz.ntmps15
      go_wp2_with fail
      refine HT.out.mono ?_
      rintro e w1⟨rfl,g1⟩
      have gb:Below (w.heap.size+2) (wb2 w p q la ln lc aa an ac ta tn tc ua un uc ka kn kc la' ln' lc' aa' an' ac' ta' tn' tc' ua' un' uc' ka' kn' kc') w1:=g1.mono (by simp)
      have c4:=QL gb 4 rfl
      have c4':=QK gb 4 rfl
      go_wp2_with fail
      go_ret
      exact⟨Qm (by rw[HF.out,Bool.false_and]),JR gb⟩
   ·have h3':=Ue h3
    have h3e:(p.x.toList==q.x.toList)=false:=by simpa using h3'
    rw[show decide (p.x=q.x)=false by simpa using h3,Bool.false_and]
    clear h1 h2 h3
    go_enter Tryz.func15,Tryz.ntmps15
    go_wp2_with fail
    go_ret
    exact⟨rfl,HB0.out⟩
  ·have h2':=Ue h2
   have h2e:(p.c.toList==q.c.toList)=false:=by simpa using h2'
   rw[show decide (p.c=q.c)=false by simpa using h2,Bool.false_and]
   clear h1 h2
   go_enter Tryz.func15,Tryz.ntmps15
   go_wp2_with fail
   go_ret
   exact⟨rfl,HB0.out⟩
 ·have h1':(p.k != q.k)=true:=by simpa using h1
  rw[show decide (p.k=q.k)=false by simpa using h1,Bool.false_and]
  clear h1
  go_enter Tryz.func15,Tryz.ntmps15
  go_wp2_with fail
  go_ret
  exact⟨rfl,HB0.out⟩
theorem KX(B:Nat->Prop):∀(p:Pr),Ld B p:=by
 refine Pr.ind ?_
 intro k c x ls vs t ps ih q v v' w hB hv hv'
 exact Gm B (.mk k c x ls vs t ps) q ih v v' w hB hv hv'
end Go.Proofs.YtmnbheplkidfaaaGreatDoor
