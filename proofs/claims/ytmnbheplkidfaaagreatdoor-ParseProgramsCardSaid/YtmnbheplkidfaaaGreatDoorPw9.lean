/- Parsing: what is too deep. (and what follows from it) -/
import Derived.Test.YtmnbheplkidfaaaGreatDoorPw8
import Derived.Test.YtmnbheplkidfaaaGreatDoorSh
import Derived.Lib.AtoiErrMem
set_option maxHeartbeats 16000000
set_option maxRecDepth 100000
namespace Go.Proofs.YtmnbheplkidfaaaGreatDoor
open Go.Lib (hid)
open Go.RowKit Go.Deep Go.Shelf
theorem Mv(d:Nat):∀ts:List Ty,ts.any (fun u=>decide (d<u.depth))=decide (d<Ty.depths ts)
 |[]=>by simp[Ty.depths]
 |t::r=>by
  rw[List.any_cons,Mv d r,Ty.depths]
  by_cases h1:d<t.depth <;> by_cases h2:d<Ty.depths r <;> simp[h1,h2] <;> omega
theorem DY(d:Nat)(t:Ty):decide (d+1<t.depth)=t.ts.any (fun u=>decide (d<u.depth)):=by
 rw[Mv,Ty.depth_eq]
 by_cases h:d<Ty.depths t.ts <;> simp[h]
mutual
def Pr.deepP:Pr->Nat->Bool
 | .mk _ _ _ _ _ t ps,d=>decide (d=0)||decide (100<t.depth)||Pr.deepPs ps (d-1)
def Pr.deepPs:List Pr->Nat->Bool
 |[],_=>false
 |p::r,d=>p.deepP d||Pr.deepPs r d
end
theorem Pr.deepP_eq(p:Pr)(d:Nat):p.deepP d=(decide (d=0)||decide (100<p.t.depth)||Pr.deepPs p.ps (d-1)):=by cases p;rw[Pr.deepP];rfl
theorem Pr.deepPs_any(d:Nat):∀ps:List Pr,Pr.deepPs ps d=ps.any (fun p=>p.deepP d)
 |[]=>by rw[Pr.deepPs];rfl
 |p::r=>by rw[Pr.deepPs,Pr.deepPs_any d r,List.any_cons]
def RB(B:Nat->Prop)(t:Ty):Prop:=∀(d:Nat) (z:Int),z=d->d<=1000000->∀(v:Value) (w:World),Low B w->TyVal B w v t->Calls Tryz.prog 69 #[v,.int .i64 z] w fun e w'=>e= .returned (.bool (decide (d<t.depth)))/\Below w.heap.size w w'
def RC(B:Nat->Prop)(p:Pr):Prop:=∀(d:Nat) (z:Int),z=d->d<=1000000->∀(v:Value) (w:World),Low B w->PrVal B w v p->Calls Tryz.prog 56 #[v,.int .i64 z] w fun e w'=>e= .returned (.bool (p.deepP d))/\Below w.heap.size w w'
theorem Wb:∀args w,(callFunc 98 args).run Tryz.prog w= .ok (.enter 98 args) w:=enters_of Tryz.func98 (by kernel_rfl) rfl
theorem Wc:∀args w,(callFunc 85 args).run Tryz.prog w= .ok (.enter 85 args) w:=enters_of Tryz.func85 (by kernel_rfl) rfl
theorem RK(B:Nat->Prop)(t:Ty)(ih:RB B t)(d:Nat)(hd:d+1<=1000000)(z:Int)(hz:z=((d+1:Nat):Int))(D:Nat)(v:Value)(w:World)(hD:D<w.heap.size)(hc:w.cell? ⟨D,0,none⟩=some (.int .i64 z))(hB:Low B w)(hv:TyVal B w v t):
 Calls Tryz.prog 98 #[v,.pointer (some ⟨D,0,none⟩)] w fun e w'=>e= .returned (.bool (decide (d<t.depth)))/\Below w.heap.size w w':=by
 have HC:=hid (fun(W:World) (hW:Below w.heap.size w W)=>ih d (z-1) (by omega) (by omega) v W (hB.le hW.size) (hv.keep (hW.keeps'.mono hB)))
 obtain⟨la,ln,lc,ka,kn,kc,rfl⟩:=TyVal.open6 hv
 clear hv ih
 have hbx:Below w.heap.size w (w.alloc (.cells (cT t la ln lc ka kn kc) 28)):=Jg w _ _
 have hcx:=(hbx.cell (p:=⟨D,0,none⟩) hD).trans hc
 have HBX:=hid hbx
 have hz1:1<=z:=by omega
 have hz2:z<=1000000:=by omega
 clear hz
 clear hbx hc
 go_enter Tryz.func98,Tryz.ntmps98
 go_wp2_with (go_at_call 69;refine(HC.out _ HBX.out).mono ?_;rintro e w1⟨rfl,hb⟩;have HB1:=hid hb;clear hb)
 go_ret
 exact⟨rfl,Qf HBX.out HB1.out⟩
theorem UO(B:Nat->Prop):∀t:Ty,RB B t:=by
 refine Ty.ind ?_
 intro k p s0 s ls ts ih d z hzd hd v w hB hv
 obtain⟨t,ht⟩:∃t,Ty.mk k p s0 s ls ts=t:=⟨_,rfl⟩
 have hts:t.ts=ts:=by rw[<-ht];rfl
 rw[ht] at hv |-
 rw[<-hts] at ih
 clear ht hts
 have hk:∃kv lv,v= .agg #[.int .i64 t.k,.int .i64 t.p,.string t.n,.int .i64 t.s,lv,kv]/\TySl B w kv t.ts:=by
  obtain⟨lv,kv,e,_,_,hk⟩:=hv
  exact⟨kv,lv,e,hk⟩
 obtain⟨la,ln,lc,ka,kn,kc,rfl⟩:=TyVal.open6 hv
 obtain⟨kv,lv,e,hk⟩:=hk
 simp only[Value.agg.injEq,Array.mk.injEq,List.cons.injEq,and_true,true_and] at e
 obtain⟨rfl,rfl⟩:=e
 obtain⟨W2,hW2⟩:∃W2,(w.alloc (.cells (cT t la ln lc ka kn kc) 28)).alloc (.cells #[.int .i64 z] 3)=W2:=⟨_,rfl⟩
 have hb2:Below w.heap.size w W2:=by rw[<-hW2];exact(bR.alloc lR _).alloc (by simp) _
 have hz2:W2.heap.size=w.heap.size+2:=by rw[<-hW2];simp
 have x2:W2.heap[w.heap.size+1]? =some (.cells #[.int .i64 z] 3 (0,0)):=by
  rw[<-hW2]
  have:=World.alloc_heap_new (w.alloc (.cells (cT t la ln lc ka kn kc) 28)) (.cells #[.int .i64 z] 3)
  rwa[World.size_alloc] at this
 have x1:W2.heap[w.heap.size]? =some (.cells (cT t la ln lc ka kn kc) 28 (0,0)):=by rw[<-hW2,Below.heap_alloc _ _ _ (by simp)];exact World.alloc_heap_new _ _
 have HK:=hid (hk.keep (hb2.keeps'.mono hB))
 have HLow:Hid (Low B W2):=hid (hB.le hb2.size)
 have HW2:=hid hW2
 have HB2:=hid hb2
 have HX2:=hid x2
 have HX1:=hid x1
 have HIH:=hid ih
 have HZ2:=hid hz2
 clear hv hk hW2 hb2 x2 x1 ih hB hz2
 have HZD:=hid hzd
 clear hzd
 match d,hd,HZD with
 |0,hd,HZD=>
  have hz:(z==0)=true:=by have:=HZD.out;simp;omega
  have hz':decide (z=0)=true:=by have:=HZD.out;simp;omega
  have e0:decide (0<t.depth)=true:=decide_eq_true (Ty.depth_pos t)
  rw[e0]
  clear e0
  go_enter Tryz.func69,Tryz.ntmps69
  go_upto_region 1 with fail
  rw[HW2.out]
  have c2:=Qu HX2.out
  go_wp2_with fail
  go_ret
  exact⟨rfl,HB2.out⟩
 |d+1,hd,HZD=>
  rw[DY]
  have hz:(z==0)=false:=by have:=HZD.out;simp;omega
  have hz':decide (z=0)=false:=by have:=HZD.out;simp;omega
  have en:=Wb
  have HTL:Hid (Kg 98 #[.pointer (some ⟨w.heap.size+1,0,none⟩)] B W2 t.ts (fun u=>decide (d<u.depth))):=hid (fun u hu v W hW hv=>RK B u (HIH.out u hu) d (by omega) z HZD.out (w.heap.size+1) v W (by have:=HZ2.out;have:=hW.size;omega) (Qu ((hW.block _ (by have:=HZ2.out;omega)).trans HX2.out)) (HLow.out.le hW.size) hv)
  go_enter Tryz.func69,Tryz.ntmps69
  go_upto_region 1 with fail
  rw[HW2.out]
  have c2:=Qu HX2.out
  obtain⟨⟨q0,q1,q2,q3,q4,q5⟩,-⟩:=c6 HX1.out
  go_wp2_with (go_at_call 97;refine(Us B t.ts _ 98 _ en _ W2 HLow.out HK.out HTL.out).mono ?_;rintro e w3⟨rfl,hb⟩;have HB3:=hid hb;clear hb)
  go_ret
  exact⟨rfl,Qf HB2.out HB3.out⟩
theorem TH(B:Nat->Prop)(p:Pr)(ih:RC B p)(d:Nat)(hd:d+1<=1000000)(z:Int)(hz:z=((d+1:Nat):Int))(D:Nat)(v:Value)(w:World)(hD:D<w.heap.size)(hc:w.cell? ⟨D,0,none⟩=some (.int .i64 z))(hB:Low B w)(hv:PrVal B w v p):
 Calls Tryz.prog 85 #[v,.pointer (some ⟨D,0,none⟩)] w fun e w'=>e= .returned (.bool (p.deepP d))/\Below w.heap.size w w':=by
 have HC:=hid (fun(W:World) (hW:Below w.heap.size w W)=>ih d (z-1) (by omega) (by omega) v W (hB.le hW.size) (hv.keep (hW.keeps'.mono hB)))
 obtain⟨la,ln,lc,aa,an,ac,ta,tn,tc,ua,un,uc,ka,kn,kc,rfl⟩:=PrVal.open hv
 clear hv ih
 have hbx:Below w.heap.size w (w.alloc (.cells (gP p la ln lc aa an ac ta tn tc ua un uc ka kn kc) 31)):=Jg w _ _
 have hcx:=(hbx.cell (p:=⟨D,0,none⟩) hD).trans hc
 have HBX:=hid hbx
 have hz1:1<=z:=by omega
 have hz2:z<=1000000:=by omega
 clear hz
 clear hbx hc
 go_enter Tryz.func85,Tryz.ntmps85
 go_wp2_with (go_at_call 56;refine(HC.out _ HBX.out).mono ?_;rintro e w1⟨rfl,hb⟩;have HB1:=hid hb;clear hb)
 go_ret
 exact⟨rfl,Qf HBX.out HB1.out⟩
theorem NO(B:Nat->Prop):∀p:Pr,RC B p:=by
 refine Pr.ind ?_
 intro k c x ls vs t0 ps ih d z hzd hd v w hB hv
 obtain⟨p,hp⟩:∃p,Pr.mk k c x ls vs t0 ps=p:=⟨_,rfl⟩
 have hps:p.ps=ps:=by rw[<-hp];rfl
 rw[hp] at hv |-
 rw[<-hps] at ih
 clear hp hps
 have hk:∃lv av tl tk kv,v=QW p lv av tl tk kv/\TyVal B w (.agg #[.int .i64 p.t.k,.int .i64 p.t.p,.string p.t.n,.int .i64 p.t.s,tl,tk]) p.t/\PrSl B w kv p.ps:=by
  obtain⟨lv,av,tl,tk,kv,e,_,_,_,ht,hk⟩:=hv
  exact⟨lv,av,tl,tk,kv,e,ht,hk⟩
 obtain⟨la,ln,lc,aa,an,ac,ta,tn,tc,ua,un,uc,ka,kn,kc,rfl⟩:=PrVal.open hv
 obtain⟨lv,av,tl,tk,kv,e,ht,hk⟩:=hk
 simp only[Value.agg.injEq,Array.mk.injEq,List.cons.injEq,and_true,true_and] at e
 obtain⟨rfl,rfl,rfl,rfl,rfl⟩:=e
 obtain⟨W2,hW2⟩:∃W2,(w.alloc (.cells (gP p la ln lc aa an ac ta tn tc ua un uc ka kn kc) 31)).alloc (.cells #[.int .i64 z] 3)=W2:=⟨_,rfl⟩
 have hb2:Below w.heap.size w W2:=by rw[<-hW2];exact(bR.alloc lR _).alloc (by simp) _
 have hz2:W2.heap.size=w.heap.size+2:=by rw[<-hW2];simp
 have x2:W2.heap[w.heap.size+1]? =some (.cells #[.int .i64 z] 3 (0,0)):=by
  rw[<-hW2]
  have:=World.alloc_heap_new (w.alloc (.cells (gP p la ln lc aa an ac ta tn tc ua un uc ka kn kc) 31)) (.cells #[.int .i64 z] 3)
  rwa[World.size_alloc] at this
 have x1:W2.heap[w.heap.size]? =some (.cells (gP p la ln lc aa an ac ta tn tc ua un uc ka kn kc) 31 (0,0)):=by rw[<-hW2,Below.heap_alloc _ _ _ (by simp)];exact World.alloc_heap_new _ _
 have HT:=hid (fun(W:World) (hW:Below W2.heap.size W2 W)=>UO B p.t 100 100 rfl (by decide) _ W (hB.le (lT hb2.size hW.size)) ((ht.keep (hb2.keeps'.mono hB)).keep (hW.keeps'.mono (hB.le hb2.size))))
 have HK:=hid (fun(W:World) (hW:Below W2.heap.size W2 W)=>(hk.keep (hb2.keeps'.mono hB)).keep (hW.keeps'.mono (hB.le hb2.size)))
 have HLow:Hid (Low B W2):=hid (hB.le hb2.size)
 have HW2:=hid hW2
 have HB2:=hid hb2
 have HX2:=hid x2
 have HX1:=hid x1
 have HIH:=hid ih
 have HZ2:=hid hz2
 clear hv hk ht hW2 hb2 x2 x1 ih hB hz2
 rw[Pr.deepP_eq]
 have HZD:=hid hzd
 clear hzd
 match d,hd,HZD with
 |0,hd,HZD=>
  have hz:(z==0)=true:=by have:=HZD.out;simp;omega
  have hz':decide (z=0)=true:=by have:=HZD.out;simp;omega
  go_enter Tryz.func56,Tryz.ntmps56
  go_upto_region 1 with fail
  rw[HW2.out]
  have c2:=Qu HX2.out
  go_wp2_with fail
  go_ret
  exact⟨rfl,HB2.out⟩
 |d+1,hd,HZD=>
  have hz:(z==0)=false:=by have:=HZD.out;simp;omega
  have hz':decide (z=0)=false:=by have:=HZD.out;simp;omega
  have hz2:decide (d+1=0)=false:=by simp
  have en:=Wc
  rw[hz2,Bool.false_or,Nat.add_sub_cancel,Pr.deepPs_any]
  obtain⟨⟨q0,q1,q2,q3,q4,q5,q6,q7,q8,q9,q10,q11⟩,-⟩:=c12p HX1.out
  have c2:=Qu HX2.out
  have HT2:=hid (HT.out W2 bR)
  cases hdp:decide (100<p.t.depth) with
  |true=>
   rw[hdp] at HT2
   go_enter Tryz.func56,Tryz.ntmps56
   go_upto_region 1 with fail
   rw[HW2.out]
   go_wp2_with (go_at_call 69;refine HT2.out.mono ?_;rintro e w3⟨rfl,hb⟩;have HB3:=hid hb;clear hb)
   go_ret
   exact⟨rfl,Qf HB2.out HB3.out⟩
  |false=>
   rw[hdp] at HT2
   rw[Bool.false_or]
   have HTL:Hid (∀W3,Below W2.heap.size W2 W3->Kh 85 #[.pointer (some ⟨w.heap.size+1,0,none⟩)] B W3 p.ps (fun u=>u.deepP d)):=hid (fun W3 hW3 u hu v W hW hv=>TH B u (HIH.out u hu) d (by omega) z HZD.out (w.heap.size+1) v W (by have:=HZ2.out;have:=hW.size;have:=hW3.size;omega) (Qu ((hW.block _ (by have:=HZ2.out;have:=hW3.size;omega)).trans ((hW3.block _ (by have:=HZ2.out;omega)).trans HX2.out))) (HLow.out.le (lT hW3.size hW.size)) hv)
   go_enter Tryz.func56,Tryz.ntmps56
   go_upto_region 1 with fail
   rw[HW2.out]
   go_wp2_with (first|(go_at_call 69;refine HT2.out.mono ?_;rintro e w3⟨rfl,hb⟩;have HB3:=hid hb;have r11:=(hb.cell (p:=⟨w.heap.size,11,none⟩) (gl HX1.out)).trans q11;clear hb)|(go_at_call 84;refine(Ut B p.ps _ 85 _ en _ w3 (HLow.out.le HB3.out.size) (HK.out _ HB3.out) (HTL.out _ HB3.out)).mono ?_;rintro e w4⟨rfl,hb⟩;have HB4:=hid hb;clear hb))
   go_ret
   exact⟨rfl,Qf (Qf HB2.out HB3.out) HB4.out⟩
theorem Sl:(Tryz.prog.info? 147).map (fun i=>(i.zero,i.size,i.bytes))=some (some (.pointer none),1,8):=by kernel_rfl
theorem Em(W:World)(x:Value)(t:TypeId):∀(j:Nat) (u:Value),[x][j]? =some u->(W.alloc (.cells #[x] t)).cell? ((⟨W.heap.size,0,none⟩:Addr).add j)=some u:=by
 intro j u hj
 match j,hj with
 |0,hj=>simp at hj;subst hj;simp[Addr.add]
def bAd(pa:Option Addr)(i:Nat):Value:= .pointer (pa.map fun a=>⟨a.block,a.off+i*14+2,none⟩)
def bAds(pa:Option Addr)(j:Nat):List Value:=(List.range j).map (bAd pa)
theorem Wp(pa:Option Addr)(j:Nat):bAds pa (j+1)=bAds pa j++[bAd pa j]:=by simp[bAds,List.range_succ]
theorem Vb(pa:Option Addr)(j:Nat):(bAds pa j).length=j:=by simp[bAds]
theorem SP(pa:Option Addr)(j i:Nat)(h:i<j):(bAds pa j)[i]? =some (bAd pa i):=by simp[bAds,h]
def Ef(S:Nat->Prop)(W:World)(r:Nat)(g:Pg):Prop:=∀(i:Nat) (p:Pr),g.bodies[i]? =some p->∃kb ko,W.cell? ⟨r,i,none⟩=some (.pointer (some ⟨kb,ko,none⟩))/\PrAt S W p kb ko
theorem LT(S:Nat->Prop){w W:World}(hS:Low S w)(h:Below w.heap.size w W):Keeps S w W:=h.keeps'.mono hS
theorem Rf(S:Nat->Prop)(g:Pg)(b o:Nat)(w:World)(hS:Low S w)(hg:PgAt S w g b o)(hn:g.ds.length<=1000000):
 Calls Tryz.prog 113 #[.pointer (some ⟨b,o,none⟩)] w fun e w'=>∃r c,e= .returned (.slice (some ⟨r,0,none⟩) g.bodies.length c)/\Ef S w' r g/\w.heap.size<=r/\r<w'.heap.size/\Below w.heap.size w w':=by
 obtain⟨hSb,⟨dv,c0,hd⟩,hm⟩:=hg
 have hbl:=hS b hSb
 obtain⟨pa,len,c,rfl,hlen,hmx,hget⟩:=hd.open
 have hln:len<=1000000:=by have:=hlen.out;omega
 obtain⟨i0,hi,hz0,hz1,hz2⟩:=info_parts Sl
 have HG:=hid hget
 have HM:=hid hm
 clear hget hm hd
 go_enter Tryz.func113,Tryz.ntmps113
 go_wp2_with fail
 go_loopw [3,10] (fun v i wr=>∃k:Nat,i= .int .i64 k/\k<=len/\wr.ownsRow w.heap.size 147 1 v k (bAds pa k)/\Below w.heap.size w wr) (fun _ i _=>len-(intOf i).toNat)
 case atStart=>exact⟨0,rfl,by omega,World.ownsRow_nil _ _ _ _,bR⟩
 case round=>
  obtain⟨k,rfl,hk,hrow,hB⟩:=hrel
  have c1:=(hB.cell (p:=⟨b,o,none⟩) hbl).trans c0
  by_cases hlt:k<len
  ·obtain⟨d,hdk⟩:∃d,g.ds[k]? =some d:=⟨_,List.getElem?_eq_getElem (by rw[<-hlen.out];exact hlt)⟩
   obtain⟨kb,ko,rfl,hkb,hda⟩:=HG.out k d hdk
   have hsz:=hB.size
   have hs3:bAds (some ⟨kb,ko,none⟩) (k+1)=bAds (some ⟨kb,ko,none⟩) k++[.pointer (some ⟨kb,ko+k*14+2,none⟩)]:=Wp _ _
   have HS:=hid hs3
   clear hdk hda hs3
   go_wp2_with (at_builtin;refine wpList_append_own _ rfl _ _ 145 rfl w.heap.size 147 i0 (.pointer none) 1 8 Tryz.underlying145 hi hz0 hz1 hz2 rfl (by decide) _ _ _ rfl (hrow.alloc _) ⟨wr.heap.size,0,none⟩ 1 1 [.pointer (some ⟨kb,ko+k*14+2,none⟩)] rfl rfl (Em wr _ _) (fun u hu=>by simp at hu;subst hu;rfl) (by unfold maxLen;omega) (by omega) (by simp;omega) ?_;intro v' w1 hown' hgrow _)
   have hbw:Below w.heap.size wr w1:=((Below.refl w.heap.size wr).alloc hsz (.cells #[.pointer (some ⟨kb,ko+k*14+2,none⟩)] 147)).grown hgrow (by simp;omega) (fun j ej=>(hrow.lt j ej).1)
   have HW:=hid hbw
   clear hgrow hbw
   go_wp2_with fail
   go_roundw
   case rel=>exact⟨k+1,by go_num,by omega,by rw[HS.out];exact hown',hB.trans HW.out⟩
   case measure=>simp[intOf];omega
  ·obtain rfl:k=len:=by omega
   have hsz:=hB.size
   go_wp2_with (at_builtin;refine wpList_append_own _ rfl _ _ 145 rfl w.heap.size 147 i0 (.pointer none) 1 8 Tryz.underlying145 hi hz0 hz1 hz2 rfl (by decide) _ _ _ rfl (hrow.alloc _) ⟨wr.heap.size,0,none⟩ 1 1 [.pointer (some ⟨b,o+1,none⟩)] rfl rfl (Em wr _ _) (fun u hu=>by simp at hu;subst hu;rfl) (by unfold maxLen;omega) (by omega) (by simp;omega) ?_;intro v' w1 hown' hgrow _)
   have hbw:Below w.heap.size wr w1:=((Below.refl w.heap.size wr).alloc hsz (.cells #[.pointer (some ⟨b,o+1,none⟩)] 147)).grown hgrow (by simp;omega) (fun j ej=>(hrow.lt j ej).1)
   have HW:=hid (hB.trans hbw)
   have HO:=hid hown'
   clear hgrow hbw hown'
   go_wp2_with fail
   go_ret
   have hown:=HO.out
   rcases hown.2 with⟨rfl,h0⟩|⟨r,cap,cur,rfl,hrb,hrest⟩
   ·omega
   have hbn:g.bodies.length=k+1:=by unfold Pg.bodies;simp;exact hlen.out.symm
   refine⟨r,cap,by rw[hbn];rfl,fun i p hp=>?_,hrb,(hown.lt r rfl).2,HW.out⟩
   have hki:=LT S hS HW.out
   have hil:=(List.getElem?_eq_some_iff.1 hp).1
   rw[hbn] at hil
   have hc:=hown.cellAt i (by omega)
   unfold Pg.bodies at hp
   rcases Nat.lt_or_ge i k with hik|hik
   ·have hds:i<g.ds.length:=by rw[<-hlen.out];exact hik
    rw[List.getElem?_append_left (by simpa using hds),List.getElem?_map] at hp
    obtain⟨d,hd⟩:∃d,g.ds[i]? =some d:=⟨_,List.getElem?_eq_getElem hds⟩
    rw[hd] at hp
    simp only[Option.map_some,Option.some.injEq] at hp
    subst hp
    obtain⟨kb,ko,rfl,hkb,hda⟩:=HG.out i d hd
    refine⟨kb,ko+i*14+2,?_,PrAt.keep hki _ _ _ hda.2.2.2⟩
    rw[hc,List.getElem?_append_left (by rw[Vb];exact hik),SP _ _ _ hik]
    rfl
   ·obtain rfl:i=k:=by omega
    have hme:g.m=p:=by
     rw[List.getElem?_append_right (by simp;have:=hlen.out;omega)] at hp
     simpa [<-hlen.out] using hp
    subst hme
    refine⟨b,o+1,?_,PrAt.keep hki _ _ _ HM.out⟩
    rw[hc,List.getElem?_append_right (by rw[Vb];exact lR),Vb,Nat.sub_self]
    rfl
end Go.Proofs.YtmnbheplkidfaaaGreatDoor
namespace Go.Proofs.YtmnbheplkidfaaaGreatDoor
open Go.RowKit
theorem AbidesAll.below{β:Type}{B:Nat}{J:β->World->Prop}(h:AbidesAll B J){s:β}{W W':World}(hs:J s W)(hb:Below W.heap.size W W'):J s W':=
 h s W W' none hs ⟨hb.os,hb.tape,hb.output,hb.size,fun k hk _=>hb.block k hk⟩ (fun r e=>by cases e)
theorem AbidesAll.drew{β:Type}{B:Nat}{J:β->World->Prop}(h:AbidesAll B J){s:β}{W:World}(hs:J s W):J s W.drew:=h.below hs bR.drew
theorem _root_.Go.KeepsFrom.le{B B':Nat}{A C:World}(h:KeepsFrom B A C)(hB:B<=B'):KeepsFrom B' A C:=⟨h.size,fun k o hk hc hx=>h.same k o (lT hB hk) hc hx⟩
theorem _root_.Go.KeepsFrom.put{B l:Nat}{W:World}(hl:l<B)(o:Obj):KeepsFrom B W (W.putObj l o):=⟨by simp,fun k o' hk hx _=>(World.putObj_heap_other (by omega)).trans hx⟩
def SZ{α:Type}(F:Fence)(n:Nat)(P:Program)(g:Nat)(lb:Array Value)(encs:α->Array Value)(Px:α->World->Prop)(Kp:World->World->Prop)(S Sp:List α->Prop)(w:World):Prop:=
 ∀(l:Nat) (J Jx:List α->World->Prop) (W:World),Below w.heap.size w W->AbidesAll W.heap.size J->AbidesAll W.heap.size Jx->
  (∀pre x W1,J pre W1->Px x W1->YieldAt F (n-1) P l (encs x) W1 fun e W'=>
   ((e= .returned (.bool true)/\J (pre++[x]) W'/\Kp W1 W')\/(e= .returned (.bool false)/\Jx (pre++[x]) W'))/\KeepsFrom W.heap.size W1 W')->
  J [] W->
  CallsIn F n P g (#[.func (.yield l) #[] #[]]++lb) W fun e W'=>(∃v,e= .returned v)/\((∃xs,S xs/\J xs W')\/(∃pre,Sp pre/\Jx pre W'))
variable {F:Fence} {n:Nat} {P:Program}
theorem Uq{α:Type}{g:Operand}{ps:Array Tmp}{assign body:Code}{Q:Exit->Act->World->Prop}{a:Act}{w:World}
 (hro:F.round=none) (h1:1<=n) {gf:Nat} {lb:Array Value} (hg:a.eval g= .func (.func gf) #[] lb) (hFg:F.fn gf) (eg:∀args w,(callFunc gf args).run P w= .ok (.enter gf args) w)
 {encs:α->Array Value} {Px:α->World->Prop} {Kp:World->World->Prop} {S Sp:List α->Prop} {w0:World} (hseq:SZ F (n-1) P gf lb encs Px Kp S Sp w0)
 (hKt:∀ {A B C:World},Kp A B->Kp B C->Kp A C) (hKb:∀(W:World) (l:Nat) (o o':Obj),w.heap.size<=l->W.heap[l]? =some o->o.isCells=false->o.isWalk=false->Kp W (W.putObj l o'))
 (hPx:∀x A B,CellsKept A B->Px x A->Px x B) (hb0:Below w0.heap.size w0 w) (hps:∀x,(encs x).size=ps.size)
 (I:List α->World->Prop) (Ix:Code->List α->World->Prop) (hI:AbidesAll w.heap.size I) (hIx:∀c,AbidesAll w.heap.size (Ix c)) (h0:I [] w) (Ax:α->Act->World->Prop) (hAx:∀x a' A B,CellsKept A B->Ax x a' A->Ax x a' B)
 (hassign:∀(l:Nat) (pre:List α) (x:α) (W:World) (K:Act->World->Prop),I pre W->Px x W->(∀a' W',KeepsFrom w.heap.size W W'->Kp W W'->I pre W'->Px x W'->Ax x a' W'->K a' W')->
  assign.wpIn (F.inRound l) (n-1-1) P (Exit.then K (fun _ _ _=>False)) { tmps:=(ps.zip (encs x)).foldl (fun t (p,v)=>t.setIfInBounds p v) a.tmps,defers:=[] } W)
 (hbody:∀(l:Nat) (pre:List α) (x:α) (a':Act) (W:World),w.heap.size<=l->(∃r,W.heap[l]? =some (.loop r))->I pre W->Px x W->Ax x a' W->body.wpIn (F.inRound l) (n-1-1) P (ownPostG w.heap.size Kp I Ix (pre++[x]) W) a' W)
 (hdone:∀(D:Nat) (xs:List α) (W:World),w.heap.size<=D->S xs->I xs W->W.heap[D]? =some (.deferred (some []))->Q .normal { a with defers:={ target:= .collected D,args:=#[] }::a.defers } W)
 (hstop:∀(D:Nat) (c:Code) (pre:List α) (W:World),w.heap.size<=D->Sp pre->Ix c pre W->W.heap[D]? =some (.deferred (some []))->c.wpIn F n P Q { a with defers:={ target:= .collected D,args:=#[] }::a.defers } W):
 (Code.rangeFunc g ps assign body).wpIn F n P Q a w:=by
 refine wpIn_rangeFunc ?_
 intro fn hfn
 rw[hro]
 generalize hL:w.heap.size+1=L
 have hLw:w.heap.size<L:=by omega
 let rec_ (st:LoopState) (pe:Option Code):Loop:={ state:=st,pending:=pe,fn,tmps:=a.tmps,params:=ps,assign,body,defers:=w.heap.size }
 obtain⟨W1,hW1⟩:∃W1,(w.alloc (.deferred (some []))).alloc (.loop (rec_ .ready none))=W1:=⟨_,rfl⟩
 have hs1:W1.heap.size=L+1:=by rw[<-hW1];simp;omega
 have hL1:W1.heap[L]? =some (.loop (rec_ .ready none)):=by
  have h:=World.alloc_heap_new (w.alloc (.deferred (some []))) (.loop (rec_ .ready none))
  rw[World.size_alloc,hL,hW1] at h;exact h
 have hK1:W1.heap[w.heap.size]? =some (.deferred (some [])):=by
  rw[<-hW1];exact(Below.heap_alloc _ _ _ (by simp)).trans (World.alloc_heap_new w _)
 have hI1:I [] W1:=by rw[<-hW1];exact hI.alloc _ (hI.alloc _ h0)
 have hb1:Below w0.heap.size w0 W1:=by
  rw[<-hW1];exact hb0.trans ((((Below.refl _ w).alloc lR _).alloc (by simp) _).mono hb0.size)
 refine⟨L,[{ target:= .collected w.heap.size,args:=#[] }],W1,{ target:= .fn (.func gf) lb,args:=#[.func (.yield L) #[] #[]] },W1,gf,#[.func (.yield L) #[] #[]]++lb,W1,?_,?_,?_,?_,fun _=>h1,?_⟩
 ·rw[<-hW1,<-hL];exact run_enterLoop_outer _ _ _ _ _
 ·simp only[resolve,hg]
  simp[go_sem]
 ·intro f' hf';simp[Target.leads] at hf';subst hf';exact hFg
 ·simp[invoke,go_sem,eg]
 refine(hseq L (fun pre W=>I pre W/\W.heap[L]? =some (.loop (rec_ .ready none))/\W.heap[w.heap.size]? =some (.deferred (some [])))
  (fun pre W=>∃c,Ix c pre W/\W.heap[L]? =some (.loop (rec_ .done (some c)))/\W.heap[w.heap.size]? =some (.deferred (some []))) W1 hb1
  ((hI.mono (by omega)).and ((Je (by omega)).and (Je (by omega)))) ?_ ?_ ⟨hI1,hL1,hK1⟩).mono ?_
 ·rintro s A B row⟨c,hc⟩ hg' hr
  exact⟨c,((hIx c).mono (by omega)).and ((Je (by omega)).and (Je (by omega))) s A B row hc hg' hr⟩
 . -- one round
  rintro pre x W⟨hi,hl,hk⟩ hpx
  have hy:=run_yield (P:=P) (args:=encs x) hl (hps x)
  refine⟨fn,_,assign,body,hy,roundIn_of_wpIn hfn (hassign _ pre x W _ hi hpx ?_)⟩
  clear hy
  intro a' V hkf hkp hiV hpV hax
  have hlV:=hkf.same _ _ (by omega) hl rfl
  have hkV:=hkf.same _ _ lR hk rfl
  refine⟨_,run_beginRound hlV rfl,?_⟩
  have hl2:(V.putObj L (.loop (rec_ .busy none))).heap[L]? =some (.loop (rec_ .busy none)):=World.putObj_heap_same (gl hlV)
  have hk2:(V.putObj L (.loop (rec_ .busy none))).heap[w.heap.size]? =some (.deferred (some [])):=(World.putObj_heap_other (by omega)).trans hkV
  have hp2:Kp V (V.putObj L (.loop (rec_ .busy none))):=hKb _ _ _ _ (by omega) hlV rfl rfl
  refine wpIn_mono (hbody _ pre x a' _ (by omega) ⟨_,hl2⟩ (hI.put _ hiV (by omega)) (hPx x _ _ (JD hlV rfl) hpV) (hAx x a' _ _ (JD hlV rfl) hax)) ?_
  have fin:∀(jump:Option Code) (X:World),KeepsFrom w.heap.size (V.putObj L (.loop (rec_ .busy none))) X->
   (Instr.endRound L jump).run P X= .ok (.bool jump.isNone) (X.putObj L (.loop (rec_ (if jump.isNone then .ready else .done) jump)))/\X.heap[L]? =some (.loop (rec_ .busy none))/\
   (X.putObj L (.loop (rec_ (if jump.isNone then .ready else .done) jump))).heap[L]? =some (.loop (rec_ (if jump.isNone then .ready else .done) jump))/\
   (X.putObj L (.loop (rec_ (if jump.isNone then .ready else .done) jump))).heap[w.heap.size]? =some (.deferred (some [])):=fun jump X hX=>by
   have h3:=hX.same _ _ (by omega) hl2 rfl
   exact⟨run_endRound (P:=P) jump h3,h3,World.putObj_heap_same (gl h3),(World.putObj_heap_other (by omega)).trans (hX.same _ _ lR hk2 rfl)⟩
  have all:∀(o:Obj) (X:World),KeepsFrom w.heap.size (V.putObj L (.loop (rec_ .busy none))) X->KeepsFrom W1.heap.size W (X.putObj L o):=fun o X hX=>
   ((hkf.le (by omega)).trans (Go.KeepsFrom.put (by omega) _)).trans ((hX.le (by omega)).trans (Go.KeepsFrom.put (by omega) _))
  rintro e a3 X hp
  cases e with
  |normal=>
   obtain⟨hX,hkp3,hi3⟩:=hp
   obtain⟨hr,hl3,hl4,hk4⟩:=fin none X hX
   exact⟨_,_,hr,.inl ⟨rfl,⟨hI.put _ hi3 (by omega),hl4,hk4⟩,hKt hkp (hKt (hKt hp2 hkp3) (hKb _ _ _ _ (by omega) hl3 rfl rfl))⟩,all _ X hX⟩
  |ret=>
   obtain⟨hX,hi3⟩:=hp
   obtain⟨hr,hl3,hl4,hk4⟩:=fin (some .ret) X hX
   exact⟨_,_,hr,.inr ⟨rfl,.ret,(hIx _).put _ hi3 (by omega),hl4,hk4⟩,all _ X hX⟩
  |exit id=>
   obtain⟨hX,hi3⟩:=hp
   obtain⟨hr,hl3,hl4,hk4⟩:=fin (some (.exit id)) X hX
   exact⟨_,_,hr,.inr ⟨rfl,.exit id,(hIx _).put _ hi3 (by omega),hl4,hk4⟩,all _ X hX⟩
  |goto t=>
   obtain⟨hX,hi3⟩:=hp
   obtain⟨hr,hl3,hl4,hk4⟩:=fin (some (.goto t)) X hX
   exact⟨_,_,hr,.inr ⟨rfl,.goto t,(hIx _).put _ hi3 (by omega),hl4,hk4⟩,all _ X hX⟩
  |panic ch=>exact hp.elim
  |outgrown=>exact hp.elim
 . -- behind the iterator
  rintro e W2⟨⟨v,rfl⟩,(⟨xs,hS,hi,hl,hk⟩|⟨pre,hSp,c,hi,hl,hk⟩)⟩
  ·exact⟨none,_,run_endLoop (P:=P) hl (by simp[rec_]),hdone _ xs _ lR hS (hI.put _ hi (by omega)) ((World.putObj_heap_other (by omega)).trans hk)⟩
  ·exact⟨some c,_,run_endLoop (P:=P) hl (by simp[rec_]),hstop _ c pre _ lR hSp ((hIx c).put _ hi (by omega)) ((World.putObj_heap_other (by omega)).trans hk)⟩
end Go.Proofs.YtmnbheplkidfaaaGreatDoor
namespace Go.Proofs.YtmnbheplkidfaaaGreatDoor
open Go.Lib (hid)
open Go.RowKit Go.Deep Go.Shelf
attribute [local go_sem] Oper.semAt_some
theorem DZ(a:Option Addr)(w:World):
 Calls Tryz.prog 86 #[.pointer a] w fun e w'=>e= .returned (.func (.func 112) #[] #[.pointer (some ⟨w.heap.size,0,none⟩)])/\w'=w.alloc (.cells #[.pointer a] 129):=by
 go_enter Tryz.func86,Tryz.ntmps86
 go_wp2
 go_ret
 exact⟨rfl,rfl⟩
def En(Ds:List Nat):List Deferred:=Ds.map fun D=>{ target:= .collected D,args:=#[] }
def Marked(lo:Nat)(Ds:List Nat)(W:World):Prop:=Ds.Nodup/\∀D∈Ds,lo<=D/\W.heap[D]? =some (.deferred (some []))
theorem Marked.nil(lo:Nat)(W:World):Marked lo [] W:=⟨List.nodup_nil,fun D h=>by cases h⟩
theorem Marked.keeps{lo:Nat}{Ds:List Nat}{A B:World}(h:Marked lo Ds A)(hk:KeepsFrom lo A B):Marked lo Ds B:=⟨h.1,fun D hD=>⟨(h.2 D hD).1,hk.same D _ (h.2 D hD).1 (h.2 D hD).2 rfl⟩⟩
theorem Marked.cons{lo D:Nat}{Ds:List Nat}{W:World}(h:Marked lo Ds W)(hne:D∉Ds)(hlo:lo<=D)(hD:W.heap[D]? =some (.deferred (some []))):Marked lo (D::Ds) W:=
 ⟨List.nodup_cons.2 ⟨hne,h.1⟩,fun E hE=>by
  rcases List.mem_cons.1 hE with rfl|hE
  ·exact⟨hlo,hD⟩
  ·exact h.2 E hE⟩
theorem YR{F:Fence}{n lo:Nat}{P:Program}{fn:Func}{tmps:Array Value}{R:Ending->World->Prop}{J:World->Prop}(hJ:∀(W:World) (D:Nat) (o:Obj),J W->lo<=D->J (W.putObj D o))(hR:∀W,J W->LeavesIn F n P fn tmps R [] .returning W):
 ∀(Ds:List Nat) (W:World),J W->Marked lo Ds W->LeavesInM F n P fn tmps R (En Ds) .returning W
 |[],W,hj,_=>hR W hj
 |D::Ds,W,hj,hm=>by
  have hD:=hm.2 D (by simp)
  refine⟨by simp,.inl ⟨_,_,rfl,run_takeDeferred hD.2,?_⟩⟩
  refine YR hJ hR Ds _ (hJ _ _ _ hj hD.1) ⟨(List.nodup_cons.1 hm.1).2,fun E hE=>⟨(hm.2 E (by simp[hE])).1,?_⟩⟩
  have hne:E≠D:=fun e=>(List.nodup_cons.1 hm.1).1 (e▸hE)
  exact(World.putObj_heap_other hne).trans (hm.2 E (by simp[hE])).2
def noP(Q:Exit->Act->World->Prop):Exit->Act->World->Prop
 | .panic _,_,_=>False
 |e,a,w=>Q e a w
theorem LM{Q:Exit->Act->World->Prop}:∀e a w,noP Q e a w->Q e a w:=fun e a w h=>by
 cases e <;> first|exact h|exact h.elim
abbrev Ns(x:Nat):Array Value:=#[.int .i64 (x:Int)]
def CnY(l:Nat)(lo:Nat)(X:Nat->Prop)(J Jx:List Nat->World->Prop):Prop:=
 ∀m pre x W1,x<=1000000->J pre W1->YieldAt Fence.wide m Tryz.prog l (Ns x) W1 fun e W'=>∃r,e= .returned (.bool r)/\((r=true/\J (pre++[x]) W'/\Kp X W1 W')\/(r=false/\Jx (pre++[x]) W'))/\KeepsFrom lo W1 W'
theorem Kc{X:Nat->Prop}(W:World)(o:Obj):Kp X W (W.alloc o):=KV.of_cells (by simp) (Jz W o)
theorem Ha{α β:Type}{B B':Nat}{J:β->World->Prop}(h:AbidesAll B J)(hB:B<=B')(f:α->β):AbidesAll B' (fun s W=>J (f s) W):=fun s A C row hs hg hr=>h (f s) A C row hs hg (fun r e=>lT hB (hr r e))
theorem Ws{β:Type}(X:Nat->Prop)(A:World):AbidesAll A.heap.size (fun(_:β) W=>Kp X A W):=fun _ W C row hs hg hr=>⟨lT hs.size hg.size,fun k o hk hc hx ha=>by
 have hW:=hs.keep k o hk hc hx ha
 exact(hg.block k (gl hW) (fun e=>by have:=hr k e.symm;have:=(gl hk);omega)).trans hW⟩
theorem Kx{β:Type}(lo:Nat)(A:World):AbidesAll A.heap.size (fun(_:β) W=>KeepsFrom lo A W):=fun _ W C row hs hg hr=>⟨lT hs.size hg.size,fun k o hlo hk hc=>by
 have hW:=hs.same k o hlo hk hc
 exact(hg.block k (gl hW) (fun e=>by have:=hr k e.symm;have:=(gl hk);omega)).trans hW⟩
theorem Rg(l:List Np)(x:Np):Yg ((l++[x]).map Np.g)=Yg (l.map Np.g)++[x.p.adds]:=by simp[Yg,Np.g]
theorem Hs{l r:List (Nat×Pr)}(h:l <+:r):Yg l <+:Yg r:=by
 obtain⟨s,rfl⟩:=h
 unfold Yg;rw[List.map_append];exact List.prefix_append _ _
theorem Hr(n:Nat)(hn:1<=n)(Bt b o:Nat)(g:Pg)(S X:Nat->Prop)(w:World)(hX:∀k,X k->¬S k/\k≠Bt/\k<w.heap.size)(hS:Low S w)(hBt:Bt<w.heap.size)(hc:w.cell? ⟨Bt,0,none⟩=some (.pointer (some ⟨b,o,none⟩)))(hg:PgAt S w g b o)(hgood:GGood g):
 SZ Fence.wide n Tryz.prog 112 #[.pointer (some ⟨Bt,0,none⟩)] Ns (fun x _=>x<=1000000) (Kp X) (fun ys=>ys=g.cnts) (fun pre=>pre <+:g.cnts) w:=by
 intro l J Jx W hW hJ hJx hY h0
 have HY:Hid (CnY l W.heap.size X J Jx):=hid (fun m pre x W1 hx hj=>(UL rfl m (hY pre x W1 hj hx)).mono fun e W' h=>by
  rcases h with⟨⟨h1,h2,h3⟩|⟨h1,h2⟩,hk⟩
  ·exact⟨true,h1,.inl ⟨rfl,h2,h3⟩,hk⟩
  ·exact⟨false,h1,.inr ⟨rfl,h2⟩,hk⟩)
 clear hY
 have hWs:=hW.size
 have hc':W.cell? ⟨Bt,0,none⟩=some (.pointer (some ⟨b,o,none⟩)):=(hW.cell (p:=⟨Bt,0,none⟩) hBt).trans hc
 have hgW:=hg.keep (hW.keeps'.mono hS)
 obtain⟨hSb,⟨dv,e0,hd⟩,hm⟩:=hgW
 obtain⟨pa,len,c,rfl,hlen,hmx,hget⟩:=hd.open
 have hbl:=hS b hSb
 have HJ:=hid hJ
 have HJX:=hid hJx
 have hkb:=Kc (X:=X) W (.cells #[.func (.yield l) #[] #[]] 144)
 have HJ1:=hid (hJ.alloc (.cells #[.func (.yield l) #[] #[]] 144) h0)
 have y0:(W.alloc (.cells #[.func (.yield l) #[] #[]] 144)).cell? ⟨W.heap.size,0,none⟩=some (.func (.yield l) #[] #[]):=JB bR 0 rfl
 have hs1:(W.alloc (.cells #[.func (.yield l) #[] #[]] 144)).heap.size=W.heap.size+1:=by simp
 obtain⟨W1,hW1⟩:∃W1,W.alloc (.cells #[.func (.yield l) #[] #[]] 144)=W1:=⟨_,rfl⟩
 rw[hW1] at hkb HJ1 y0 hs1
 have hSX:∀ {A:World},Kp X W1 A->Keeps S W1 A:=fun h=>h.keeps (fun k hk=>⟨fun hx=>(hX k hx).1 hk,by simp[Value.ownBlock]⟩)
 have hS1:Keeps S W W1:=hkb.keeps (fun k hk=>⟨fun hx=>(hX k hx).1 hk,by simp[Value.ownBlock]⟩)
 have HD:Hid (∀(j:Nat) (d:Df),g.ds[j]? =some d->∃kb ko,pa=some ⟨kb,ko,none⟩/\S kb/\kb<w.heap.size/\(∀A,Kp X W1 A->DfAt S A d kb (ko+j*14))/\(∀a∈d.ms,a.t.size<=100000/\a.t.depth<=100000)):=hid (fun j d hj=>by
  obtain⟨kb,ko,e,hkb,hda⟩:=hget j d hj
  exact⟨kb,ko,e,hkb,hS kb hkb,fun A hA=>(hda.keep hS1 hkb).keep (hSX hA) hkb,fun a ha=>hgood.pm (List.mem_of_getElem? hj) ha⟩)
 have hgW1:PgAt S W1 g b o:=(hg.keep (hW.keeps'.mono hS)).keep hS1
 have e0':W1.cell? ⟨b,o,none⟩=some (.slice pa len c):=hS1.cell hSb e0
 have HG:Hid (∀A,Kp X W1 A->PgAt S A g b o/\A.cell? ⟨b,o,none⟩=some (.slice pa len c)):=hid (fun A hA=>⟨hgW1.keep (hSX hA),(hSX hA).cell hSb e0'⟩)
 have HC:Hid (∀A,Kp X W1 A->A.cell? ⟨Bt,0,none⟩=some (.pointer (some ⟨b,o,none⟩))/\A.cell? ⟨W.heap.size,0,none⟩=some (.func (.yield l) #[] #[])):=hid (fun A hA=>by
  have h1:Keeps (fun k=>k=Bt) W A:=(hkb.trans hA).keeps (fun k hk=>⟨fun hx=>(hX k hx).2.1 hk,by simp[Value.ownBlock]⟩)
  have h2:Keeps (fun k=>k=W.heap.size) W1 A:=hA.keeps (fun k hk=>⟨fun hx=>by have:=(hX k hx).2.2;omega,by simp[Value.ownBlock]⟩)
  exact⟨h1.cell rfl hc',h2.cell rfl y0⟩)
 have HGood:=hid hgood
 have HKS:Hid (∀A B:World,Kp X A B->Keeps S A B):=hid (fun A B h=>h.keeps (fun k hk=>⟨fun hx=>(hX k hx).1 hk,by simp[Value.ownBlock]⟩))
 have HSL:Hid (∀k,S k->k<w.heap.size):=hid hS
 have HX:=hid hX
 clear hget hd hm hgW1 hJ hJx h0 hg hgood hc hX hS hS1 hSX hkb y0 hW hBt e0 e0' hc'
 obtain⟨b0,b1⟩:=HC.out W1 (KV.refl _ _ _)
 have b2:=(HG.out W1 (KV.refl _ _ _)).2
 refine callsIn_of_wp_marks Tryz.func112 rfl trivial (wpIn_mono (Q:=noP _) ?_ LM) rfl
 simp only[Tryz.ntmps112,List.size_toArray,List.length_cons,List.length_nil,Nat.reduceAdd,Nat.reduceSub,Array.replicate_succ,Array.replicate_zero,List.push_toArray,List.append_toArray,List.nil_append,List.cons_append]
 gi_wp2_with fail
 clear b0 b1 b2 hW1
 gi_loopw [16] (fun i wr=>∃(j:Nat),i= .int .i64 (j:Int)/\j<=len/\Hid (J (QS (g.ds.take j)) wr)/\Hid (Kp X W1 wr)/\Hid (KeepsFrom W.heap.size W1 wr)) (fun i _=>len-(intOf i).toNat)
 case atStart=>exact⟨0,rfl,by omega,hid (by simpa [QS] using HJ1.out),hid (KV.refl _ _ _),hid (KeepsFrom.refl _ _)⟩
 case round=>
  obtain⟨j,rfl,hj,HJJ,HKV,HKF⟩:=hrel
  obtain⟨wo,hwo⟩:∃wo,wo=wr:=⟨_,rfl⟩
  subst hwo
  obtain⟨b0,b1⟩:=HC.out wo HKV.out
  by_cases hlt:j<len
  ·obtain⟨d,hdj⟩:∃d,g.ds[j]? =some d:=⟨_,List.getElem?_eq_getElem (by rw[<-hlen.out];exact hlt)⟩
   obtain⟨kb,ko,rfl,hkS,hkw,hda,hpm⟩:=HD.out j d hdj
   obtain⟨ma,mn,mc,la',ln',lc',aa',an',ac',ta',tn',tc',ua',un',uc',ka',kn',kc',⟨d0,d1,d2,d3,d4,d5,d6,d7,d8,d9,d10,d11,d12,d13⟩,hms,hval⟩:=(hda wo HKV.out).load'
   obtain⟨_,_,_,hpe,hmlen,hmmx,hmget⟩:=hms.open
   simp only[Value.slice.injEq] at hpe
   obtain⟨rfl,rfl,rfl⟩:=hpe
   have hk2:=Kc (X:=X) wo (.cells #[.string d.n,.slice ma mn mc,.int .i64 d.b.k,.string d.b.c,.string d.b.x,.slice la' ln' lc',.slice aa' an' ac',.int .i64 d.b.t.k,.int .i64 d.b.t.p,.string d.b.t.n,.int .i64 d.b.t.s,.slice ta' tn' tc',.slice ua' un' uc',.slice ka' kn' kc'] 61)
   gi_wp2_with fail
   have hwr:W.heap.size+1<=wo.heap.size:=by have:=HKV.out.size;omega
   have HPM:Hid (∀(k:Nat) (a:Pm),d.ms[k]? =some a->∃pb po,ma=some ⟨pb,po,none⟩/\S pb/\pb<w.heap.size/\(∀A,Kp X wo A->PmAt S A a pb (po+k*7))/\a.t.size<=100000/\a.t.depth<=100000):=hid (fun k a hk=>by
    obtain⟨pb,po,e,hpb,hpa⟩:=hmget k a hk
    have:=hpm a (List.mem_of_getElem? hk)
    exact⟨pb,po,e,hpb,HSL.out pb hpb,fun A hA=>hpa.keep (HKS.out wo A hA) hpb,this.1,this.2⟩)
   have HML:=hid hmlen.out
   have HPJ:Hid (QS (g.ds.take (j+1))=QS (g.ds.take j)++d.pms):=hid (Un Df.pms hdj)
   have HPX:Hid (QS (g.ds.take j)++d.pms <+:g.cnts):=hid (by
    rw[<-HPJ.out];exact(XJ g.ds (j+1) Df.pms).trans (List.prefix_append _ _))
   have HK2:=hid hk2
   have HJ2:=hid (HJ.out.alloc (.cells #[.string d.n,.slice ma mn mc,.int .i64 d.b.k,.string d.b.c,.string d.b.x,.slice la' ln' lc',.slice aa' an' ac',.int .i64 d.b.t.k,.int .i64 d.b.t.p,.string d.b.t.n,.int .i64 d.b.t.s,.slice ta' tn' tc',.slice ua' un' uc',.slice ka' kn' kc'] 61) HJJ.out)
   have HKF2:Hid (KeepsFrom W.heap.size wo (wo.alloc (.cells #[.string d.n,.slice ma mn mc,.int .i64 d.b.k,.string d.b.c,.string d.b.x,.slice la' ln' lc',.slice aa' an' ac',.int .i64 d.b.t.k,.int .i64 d.b.t.p,.string d.b.t.n,.int .i64 d.b.t.s,.slice ta' tn' tc',.slice ua' un' uc',.slice ka' kn' kc'] 61))):=hid ((KeepsOthers.alloc _ _).from _)
   clear d0 d1 d2 d3 d4 d5 d6 d7 d8 d9 d10 d11 d12 d13 hms hval hmget hmlen hdj hda hpm hk2 b0 b1
   gi_loopw [23] (fun i wr=>∃(k:Nat),i= .int .i64 (k:Int)/\k<=mn/\Hid (J (QS (g.ds.take j)++d.pms.take k) wr)/\Hid (Kp X wo wr)/\Hid (KeepsFrom W.heap.size wo wr)) (fun i _=>mn-(intOf i).toNat)
   case atStart=>exact⟨0,rfl,by omega,hid (by simpa using HJ2.out),HK2,HKF2⟩
   case round=>
    obtain⟨k,rfl,hk,HJ3,HK3,HKF3⟩:=hrel
    by_cases hlt2:k<mn
    ·obtain⟨a,hak⟩:∃a,d.ms[k]? =some a:=⟨_,List.getElem?_eq_getElem (by rw[<-HML.out];exact hlt2)⟩
     obtain⟨pb,po,rfl,hpbS,hpbw,hpa,has,had⟩:=HPM.out k a hak
     obtain⟨la3,ln3,lc3,ka3,kn3,kc3,⟨q0,q1,q2,q3,q4,q5,q6⟩,htv⟩:=(hpa wr HK3.out).load'
     have hwr2:wo.heap.size<=wr.heap.size:=HK3.out.size
     have hyl:W.heap.size<wr.heap.size:=by omega
     have hbx:=Jg wr #[.string a.n,.int .i64 a.t.k,.int .i64 a.t.p,.string a.t.n,.int .i64 a.t.s,.slice la3 ln3 lc3,.slice ka3 kn3 kc3] 63
     have hlow2:Low S wr:=fun k hk=>by have:=HSL.out k hk;omega
     have HSz:=hid (UM S a.t (by omega) (by omega) _ _ (hlow2.le hbx.drew.size) (htv.to hlow2 hbx.drew))
     have HJ4:=hid (HJ.out.drew (HJ.out.alloc (.cells #[.string a.n,.int .i64 a.t.k,.int .i64 a.t.p,.string a.t.n,.int .i64 a.t.s,.slice la3 ln3 lc3,.slice ka3 kn3 kc3] 63) HJ3.out))
     have HBX:=hid hbx.drew
     have HTK:Hid (d.pms.take (k+1)=d.pms.take k++[a.t.size]):=hid (Qn (by unfold Df.pms;rw[List.getElem?_map,hak];rfl))
     obtain⟨_,yw⟩:=HC.out wr (HKV.out.trans HK3.out)
     obtain⟨sz,hsz⟩:∃sz,a.t.size=sz:=⟨_,rfl⟩
     rw[hsz] at HSz HTK has
     clear hpa htv hak hbx hsz had
     gi_wp2_with fail
     gi_region_with (first|(refine⟨trivial,?_⟩;gi_at_call 70;refine(callsIn_wide.2 HSz.out).mono ?_;rintro e w5⟨rfl,hb5⟩;obtain⟨fn,tmps,assign,body,hy,hR⟩:=HY.out (n-1) _ sz w5 (by omega) (HJ.out.below HJ4.out hb5);simp only[Ns] at hy;replace hR:=hid hR;obtain⟨hcl,hfz⟩:=FL hb5;replace hb5:=hid hb5)|(refine⟨fun h=>(by cases h),?_⟩;refine hR.out.mono ?_;rintro e w6⟨r,rfl,hcase,hkf⟩)|(refine hR.out.mono ?_;rintro e w6⟨r,rfl,hcase,hkf⟩))
     all_goals
      have hb35:=Qf HBX.out hb5.out
      rcases hcase with⟨rfl,hj6,hk6⟩|⟨rfl,hx6⟩
      ·have HJ6:Hid (J (QS (g.ds.take j)++d.pms.take (k+1)) w6):=hid (by rw[HTK.out,<-List.append_assoc];exact hj6)
       have HK6:Hid (Kp X wo w6):=hid ((HK3.out.trans (KV.of_below hb35)).trans hk6)
       have HKF6:Hid (KeepsFrom W.heap.size wo w6):=hid (HKF3.out.trans (((Zz hb35).from _).trans hkf))
       clear hj6 hk6 hkf hb35 hy hcl hfz
       gi_wp2_with fail
       exact⟨⟨k+1,by go_num,by omega,HJ6,HK6,HKF6⟩,by simp[intOf];omega⟩
      ·have HX6:Hid (∃pre,pre <+:g.cnts/\Jx pre w6):=hid ⟨_,(by
        rw[List.append_assoc,<-HTK.out]
        exact((List.prefix_append_right_inj _).2 (List.take_prefix _ _)).trans HPX.out),hx6⟩
       clear hx6 hkf hb35 hy hcl hfz
       gi_wp2_with fail
       exact⟨_,results_none rfl _ _ _,⟨_,rfl⟩,.inr HX6.out⟩
    ·obtain rfl:k=mn:=by omega
     have HJ6:Hid (J (QS (g.ds.take (j+1))) wr):=hid (by
      rw[HPJ.out]
      have h:=HJ3.out
      have e:d.pms.take k=d.pms:=List.take_of_length_le (by unfold Df.pms;rw[List.length_map,HML.out];exact lR)
      rwa[e] at h)
     have HK6:Hid (Kp X W1 wr):=hid (HKV.out.trans HK3.out)
     have HKF6:Hid (KeepsFrom W.heap.size W1 wr):=hid (HKF.out.trans HKF3.out)
     gi_wp2_with fail
     exact⟨⟨j+1,by go_num,by omega,HJ6,HK6,HKF6⟩,by simp[intOf];omega⟩
  ·obtain rfl:j=len:=by omega
   have HJ7:Hid (J (QS g.ds) wo):=hid (by have h:=HJJ.out;rwa[List.take_of_length_le (by rw[hlen.out];exact lR)] at h)
   have hwo:W.heap.size+1<=wo.heap.size:=by have:=HKV.out.size;omega
   have hlowo:Low S wo:=fun k hk=>by have:=HSL.out k hk;omega
   have HBo:=hid (Rf S g b o wo hlowo (HG.out wo HKV.out).1 (by have:=HGood.out.1;omega))
   clear hlowo
   gi_wp2_with (refine⟨trivial,?_⟩;gi_at_call 113;refine(callsIn_wide.2 HBo.out).mono ?_;rintro e w5⟨r,cp,rfl,hrow,hr1,hr2,hb5⟩;replace hrow:=hid hrow;replace hb5:=hid hb5)
   obtain⟨nb,hnb⟩:∃nb,g.bodies.length=nb:=⟨_,rfl⟩
   rw[hnb]
   have HNB:=hid hnb
   have hnbb:nb<=100001:=by rw[<-hnb];unfold Pg.bodies;have:=HGood.out.1;simp;omega
   have hz5:=hb5.out.size
   have HJ8:Hid (J (QS g.ds) w5):=hid (HJ.out.below HJ7.out hb5.out)
   have HK8:Hid (Kp X W1 w5):=hid (HKV.out.trans (KV.of_below hb5.out))
   have HF8:Hid (KeepsFrom W.heap.size W1 w5):=hid (HKF.out.trans ((Zz hb5.out).from _))
   have HBOD:Hid (∀(i:Nat) (p:Pr) (A:World),g.bodies[i]? =some p->Kp X w5 A->∃kb ko,A.cell? ⟨r,i,none⟩=some (.pointer (some ⟨kb,ko,none⟩))/\PrAt S A p kb ko/\PGood p/\p.depth<=99999):=hid (fun i p A hp hA=>by
    obtain⟨kb,ko,h1,h2⟩:=hrow.out i p hp
    have hr:Keeps (fun k=>k=r) w5 A:=hA.keeps (fun k hk=>⟨fun hx=>by have:=(HX.out k hx).2.2;omega,by simp[Value.ownBlock]⟩)
    have hgd:=HGood.out.2.2 p (List.mem_of_getElem? hp)
    exact⟨kb,ko,hr.cell rfl h1,PrAt.keep (HKS.out w5 A hA) _ _ _ h2,hgd.1,by have:=hgd.2.1;omega⟩)
   clear hnb HBo hrow
   refine wpIn_loop (fun a' wr=>∃(i:Nat) (Ds:List Nat) (v8 v39 v40 v41 v42 v43 v51:Value),a'={ tmps:=#[.func (.yield l) #[] #[],.pointer (some ⟨Bt,0,none⟩),.pointer (some ⟨W.heap.size,0,none⟩),undef,u4,undef,u6,undef,v8,undef,undef,.pointer (some ⟨b,o,none⟩),.pointer (some ⟨b,o,none⟩),.pointer (some ⟨b,o,none⟩),.slice pa j c,.int .i64 (j:Int),.int .i64 (j:Int),.bool false,u18,u19,u20,u21,u22,u23,u24,u25,u26,u27,u28,u29,u30,u31,u32,u33,u34,.pointer (some ⟨b,o,none⟩),.slice (some ⟨r,0,none⟩) nb cp,.int .i64 (nb:Int),.int .i64 (i:Int),v39,v40,v41,v42,v43,undef,undef,undef,undef,undef,undef,undef,v51],defers:=En Ds }/\i<=nb/\
    Hid (J (QS g.ds++JS (g.bodies.take i)) wr)/\Hid (Kp X w5 wr)/\Hid (KeepsFrom W.heap.size w5 wr)/\Hid (Marked W.heap.size Ds wr)) (fun a' _=>nb-(intOf (a'.tmps.getD 38 undef)).toNat) ?_ ?_
   ·exact⟨0,[],undef,undef,undef,undef,undef,undef,undef,rfl,by omega,hid (by simpa [JS] using HJ8.out),hid (KV.refl _ _ _),hid (KeepsFrom.refl _ _),hid (Marked.nil _ _)⟩
   ·rintro a' wr⟨i,Ds,v8,v39,v40,v41,v42,v43,v51,rfl,hi,HJ9,HK9,HF9,HM9⟩
    by_cases hlt3:i<nb
    ·obtain⟨p,hp⟩:∃p,g.bodies[i]? =some p:=⟨_,List.getElem?_eq_getElem (by rw[HNB.out];exact hlt3)⟩
     obtain⟨kb,ko,hcell,hpr,hpg,hpd⟩:=HBOD.out i p wr hp HK9.out
     have hwr5:=HK9.out.size
     have HBT:Hid (JS (g.bodies.take (i+1))=JS (g.bodies.take i)++Yg (preP 1 p)):=hid (Un _ hp)
     have HPX:Hid (QS g.ds++JS (g.bodies.take i)++Yg (preP 1 p) <+:g.cnts):=hid (by
      rw[List.append_assoc,<-HBT.out];exact(List.prefix_append_right_inj _).2 (XJ _ _ _))
     have hSwr:Low S wr:=fun k hk=>by have:=HSL.out k hk;omega
     have hprx:=hpr.keep ((Jg wr #[.pointer (some ⟨kb,ko,none⟩)] 147).keeps'.mono hSwr)
     have hcx:(wr.alloc (.cells #[.pointer (some ⟨kb,ko,none⟩)] 147)).cell? ⟨wr.heap.size,0,none⟩=some (.pointer (some ⟨kb,ko,none⟩)):=JB bR 0 rfl
     have hJx:=HJ.out.alloc (.cells #[.pointer (some ⟨kb,ko,none⟩)] 147) HJ9.out
     have hKx:=HK9.out.trans (Kc (X:=X) wr (.cells #[.pointer (some ⟨kb,ko,none⟩)] 147))
     have hFx:=HF9.out.trans ((KeepsOthers.alloc wr (.cells #[.pointer (some ⟨kb,ko,none⟩)] 147)).from W.heap.size)
     have hMx:=HM9.out.keeps ((KeepsOthers.alloc wr (.cells #[.pointer (some ⟨kb,ko,none⟩)] 147)).from W.heap.size)
     have hs8:(wr.alloc (.cells #[.pointer (some ⟨kb,ko,none⟩)] 147)).heap.size=wr.heap.size+1:=by simp
     clear hp hpr
     gi_wp2_with (refine⟨trivial,?_⟩;gi_at_call 114;refine(callsIn_wide.2 (DG _ _)).mono ?_;rintro e w'⟨rfl,rfl⟩)
     obtain⟨W8,hW8⟩:∃W8,wr.alloc (.cells #[.pointer (some ⟨kb,ko,none⟩)] 147)=W8:=⟨_,rfl⟩
     rw[hW8] at hprx hcx hJx hKx hFx hMx hs8 |-
     clear hW8 hcell
     refine Xq rfl hn (gf:=135) (lb:=#[.pointer (some ⟨wr.heap.size,0,none⟩)]) rfl trivial (enters_of Tryz.func135 (by kernel_rfl) rfl)
      (Hl PGood (fun _ h=>h.ps) (n-1) wr.heap.size kb ko p S X W8 (fun k hk=>(HX.out k hk).1) (fun k hk=>by have:=HSL.out k hk;omega) (by omega) hcx hprx hpd hpg) (fun h g=>KV.trans h g) (fun W l o o' _ h ho _=>KV.of_cells (by simp) (JD h ho)) (fun x A B h hp=>Pp.kept h hp) bR (fun _=>rfl)
      (fun pre V=>J (QS g.ds++JS (g.bodies.take i)++Yg (pre.map Np.g)) V/\(Kp X W8 V/\KeepsFrom W.heap.size W8 V))
      (fun c pre V=>c= .ret/\(Jx (QS g.ds++JS (g.bodies.take i)++Yg (pre.map Np.g)) V/\KeepsFrom W.heap.size W8 V))
      ((Ha HJ.out (by omega) _).and ((Ws _ _).and (Kx _ _))) (fun c=>(KP _ _).and ((Ha HJX.out (by omega) _).and (Kx _ _)))
      ⟨by simpa [Yg] using hJx,KV.refl _ _ _,KeepsFrom.refl _ _⟩
      (fun x a' _=>a'={ tmps:=#[.func (.yield l) #[] #[],.pointer (some ⟨Bt,0,none⟩),.pointer (some ⟨W.heap.size,0,none⟩),undef,u4,undef,u6,undef,.pointer (some ⟨kb,ko,none⟩),undef,.pointer (some ⟨x.b,x.o,none⟩),.pointer (some ⟨b,o,none⟩),.pointer (some ⟨b,o,none⟩),.pointer (some ⟨b,o,none⟩),.slice pa j c,.int .i64 (j:Int),.int .i64 (j:Int),.bool false,u18,u19,u20,u21,u22,u23,u24,u25,u26,u27,u28,u29,u30,u31,u32,u33,u34,.pointer (some ⟨b,o,none⟩),.slice (some ⟨r,0,none⟩) nb cp,.int .i64 (nb:Int),.int .i64 (i:Int),.bool true,.pointer (some ⟨r,i,none⟩),.pointer (some ⟨kb,ko,none⟩),.pointer (some ⟨kb,ko,none⟩),.func (.func 135) #[] #[.pointer (some ⟨wr.heap.size,0,none⟩)],.int .i64 (x.d:Int),.pointer (some ⟨x.b,x.o,none⟩),undef,undef,undef,undef,undef,v51],defers:=[] })
      (fun _ _ _ _ _ h=>h) ?assign ?body ?done ?stop
     case assign=>
      intro l' pre x V K hi' hp' hK
      simp only[GW]
      gi_wp2
      exact hK _ _ (KeepsFrom.refl _ _) (KV.refl _ _ _) hi' hp' (by simp)
     case body=>
      rintro l' pre x a' V hl' _⟨hJv,hKv,hFv⟩ hpx rfl
      have hKV1:Kp X W1 V:=HK8.out.trans (hKx.trans hKv)
      obtain⟨_,yv⟩:=HC.out V hKV1
      have hVs:W8.heap.size<=V.heap.size:=hKv.size
      have hlowV:Low S V:=fun k hk=>by have:=HSL.out k hk;omega
      have hyl:W.heap.size<V.heap.size:=by omega
      have HNA:=hid (GG S x.p x.b x.o V.drew hlowV (by have:=Pr.tf_size hpx.2.2.2;omega) (by have:=Pr.tf_depth hpx.2.2.2;omega) (hpx.1.keep ((Below.refl V.heap.size V).drew.keeps'.mono hlowV)))
      have HJV:=hid (HJ.out.drew hJv)
      have HAS:Hid (Yg ((pre++[x]).map Np.g)=Yg (pre.map Np.g)++[x.p.adds]):=hid (Rg pre x)
      have hszl:x.p.adds<=1000000:=by
       have:=Pr.tf_size hpx.2.2.2
       rw[Pr.adds_eq];unfold Pr.typ0;split <;> omega
      obtain⟨sz,hsz⟩:∃sz,x.p.adds=sz:=⟨_,rfl⟩
      rw[hsz] at HNA HAS hszl
      have HKVV:=hid hKv
      have HFVV:=hid hFv
      clear hsz hJv hKv hFv hpx hKV1 hprx hcx hJx hKx hFx hMx hlowV
      gi_wp2_with fail
      gi_region_with (first|(refine⟨trivial,⟨fun h=>(by cases h),?_⟩⟩;refine(CallsIn.inRound l' (callsIn_wide.2 HNA.out)).mono ?_;rintro e w6⟨rfl,hb6⟩;obtain⟨fn,tmps,assign,body,hy,hR⟩:=HY.out (n-1-1-1) _ sz w6 hszl (HJ.out.below HJV.out hb6);simp only[Ns] at hy;replace hR:=hid hR;have yv6:w6.cell? ⟨W.heap.size,0,none⟩=some (.func (.yield l) #[] #[]):=(hb6.cell (p:=⟨W.heap.size,0,none⟩) hyl).trans yv;replace hb6:=hid hb6)|(refine⟨fun h=>(by cases h),?_⟩;refine hR.out.mono ?_;rintro e w7⟨rr,rfl,hcase,hkf⟩)|(refine hR.out.mono ?_;rintro e w7⟨rr,rfl,hcase,hkf⟩))
      all_goals
       have hbV6:Below V.heap.size V w6:=((Below.refl V.heap.size V).drew).trans hb6.out
       have hkf6:=((Zz hbV6).from W.heap.size).trans hkf
       rcases hcase with⟨rfl,hj7,hk7⟩|⟨rfl,hx7⟩
       ·have hkp7:Kp X V w7:=(KV.of_below hbV6).trans hk7
        have HX7:=hid (And.intro hj7 (And.intro hkp7 hkf6))
        clear hj7 hk7 hkp7 hkf6 hkf hbV6 hy yv6 yv
        gi_wp2_with fail
        obtain⟨h1,h2,h3⟩:=HX7.out
        refine⟨h3.le (by omega),h2,by rw[HAS.out,<-List.append_assoc];exact h1,HKVV.out.trans h2,HFVV.out.trans h3⟩
       ·have HX7:=hid (And.intro hx7 hkf6)
        clear hx7 hkf6 hkf hbV6 hy yv6 yv
        gi_wp2_with fail
        obtain⟨h1,h3⟩:=HX7.out
        refine⟨h3.le (by omega),rfl,by rw[HAS.out,<-List.append_assoc];exact h1,HFVV.out.trans h3⟩
     case done=>
      rintro D xs V hD hxs⟨hJv,hKv,hFv⟩ hK
      have HJV:Hid (J (QS g.ds++JS (g.bodies.take (i+1))) V):=hid (by rw[HBT.out,<-List.append_assoc,<-hxs];exact hJv)
      have HKV9:Hid (Kp X w5 V):=hid (hKx.trans hKv)
      have HFV9:Hid (KeepsFrom W.heap.size w5 V):=hid (hFx.trans hFv)
      have HMV9:Hid (Marked W.heap.size (D::Ds) V):=hid ((hMx.keeps hFv).cons (fun hDs=>by
       have:=(Array.getElem?_eq_some_iff.1 (hMx.2 D hDs).2).1;omega) (by omega) hK)
      clear hJv hKv hFv hxs hK hprx hcx hJx hKx hFx hMx
      gi_wp2_with fail
      have hcast:((i+1:Nat):Int)=(i:Int)+1:=by omega
      exact⟨⟨i+1,D::Ds,_,_,_,_,_,_,_,by rw[hcast];rfl,by omega,HJV,HKV9,HFV9,HMV9⟩,by simp[intOf];omega⟩
     case stop=>
      rintro D cc pre V hD hpre⟨rfl,hJv,hFv⟩ hK
      have HMV9:Hid (Marked W.heap.size (D::Ds) V):=hid ((hMx.keeps hFv).cons (fun hDs=>by
       have:=(Array.getElem?_eq_some_iff.1 (hMx.2 D hDs).2).1;omega) (by omega) hK)
      have HPP:Hid (QS g.ds++JS (g.bodies.take i)++Yg (pre.map Np.g) <+:g.cnts):=hid (((List.prefix_append_right_inj _).2 (Hs hpre)).trans HPX.out)
      have HJV:=hid hJv
      clear hJv hFv hpre hK hprx hcx hJx hKx hFx hMx
      gi_wp2_with fail
      refine YR (lo:=W.heap.size) (J:=fun A=>Jx (QS g.ds++JS (g.bodies.take i)++Yg (pre.map Np.g)) A) (fun A D o h hD=>HJX.out.put o h hD) (fun A h=>⟨_,results_none rfl _ _ _,⟨_,rfl⟩,.inr ⟨_,HPP.out,h⟩⟩) (D::Ds) V HJV.out HMV9.out
    ·obtain rfl:i=nb:=by omega
     have HJV:Hid (J g.cnts wr):=hid (by
      have h:=HJ9.out
      have e:g.bodies.take i=g.bodies:=List.take_of_length_le (by rw[HNB.out];exact lR)
      rwa[e] at h)
     gi_wp2_with fail
     refine YR (lo:=W.heap.size) (J:=fun A=>J g.cnts A) (fun A D o h hD=>HJ.out.put o h hD) (fun A h=>⟨_,results_none rfl _ _ _,⟨_,rfl⟩,.inl ⟨_,rfl,h⟩⟩) Ds wr HJV.out HM9.out
end Go.Proofs.YtmnbheplkidfaaaGreatDoor
namespace Go.Proofs.YtmnbheplkidfaaaGreatDoor
open Go.RowKit Go.Deep Go.Shelf
abbrev JA(g:Pg)(dv lv av tl tk kv:Value):Obj:= .cells #[dv,.int .i64 g.m.k,.string g.m.c,.string g.m.x,lv,av,.int .i64 g.m.t.k,.int .i64 g.m.t.p,.string g.m.t.n,.int .i64 g.m.t.s,tl,tk,kv] 33
abbrev Lg(g:Pg)(dv lv av tl tk kv:Value):Value:= .agg #[dv,.int .i64 g.m.k,.string g.m.c,.string g.m.x,lv,av,.int .i64 g.m.t.k,.int .i64 g.m.t.p,.string g.m.t.n,.int .i64 g.m.t.s,tl,tk,kv]
theorem Re{B S:Nat->Prop}{w W:World}{g:Pg}{dv lv av tl tk kv:Value}(hB:Low B w)(hd:DfSl B w dv g.ds)(hv:PrVal B w (QW g.m lv av tl tk kv) g.m)(hb:Below (w.heap.size+1) (w.alloc (JA g dv lv av tl tk kv)) W)(hBS:∀k,B k->S k)(hS:S w.heap.size):PgAt S W g w.heap.size 0:=by
 have hc:∀(j:Nat) (v:Value),#[dv,.int .i64 g.m.k,.string g.m.c,.string g.m.x,lv,av,.int .i64 g.m.t.k,.int .i64 g.m.t.p,.string g.m.t.n,.int .i64 g.m.t.s,tl,tk,kv][j]? =some v->W.cell? ⟨w.heap.size,j,none⟩=some v:=fun j v hj=>JB hb j hj
 refine⟨hS,⟨dv,hc 0 _ rfl,(hd.keep ((Yc hb).keeps'.mono hB)).mono hBS⟩,UI hS (hc 1 _ rfl) (hc 2 _ rfl) (hc 3 _ rfl) (hc 4 _ rfl) (hc 5 _ rfl) (hc 6 _ rfl) (hc 7 _ rfl) (hc 8 _ rfl) (hc 9 _ rfl) (hc 10 _ rfl) (hc 11 _ rfl) (hc 12 _ rfl) ?_⟩
 exact(hv.to hB (Yc hb)).mono hBS
noncomputable def eqDs (p q:List Df):Bool:= @decide (p=q) (Classical.propDecidable _)
theorem TZ{p q:List Df}:eqDs p q=true↔p=q:=by unfold eqDs;simp
noncomputable def eqG (a a':Pg):Bool:=eqDs a.ds a'.ds&&eqP a.m a'.m
theorem eqG_true{a a':Pg}:eqG a a'=true↔a=a':=by
 unfold eqG;rw[Bool.and_eq_true,TZ,eqP_true];cases a;cases a';simp
theorem SG(g:Pg):eqG g g=true:=eqG_true.2 rfl
end Go.Proofs.YtmnbheplkidfaaaGreatDoor
namespace Go.Proofs.YtmnbheplkidfaaaGreatDoor
open Go.Lib (hid)
open Go.RowKit Go.Deep Go.Shelf
attribute [local go_sem] Oper.semAt_some
theorem RL(l:List Nat)(x:Nat):sumN (l++[x])=sumN l+x:=by rw[JN];simp[sumN]
theorem Lk(s x:Nat):wrap64 (wrap64 (s:Int)+(x:Int))=wrap64 ((s+x:Nat):Int):=by unfold wrap64;omega
theorem Tr(n:Nat)(hn:3<=n)(B:Nat->Prop)(g:Pg)(hg:GGood g)(htot:g.total<=1000000000)(dv lv av tl tk kv:Value)(w:World)(hB:Low B w)(hd:DfSl B w dv g.ds)(hv:PrVal B w (QW g.m lv av tl tk kv) g.m):
 CallsIn Fence.wide n Tryz.prog 57 #[Lg g dv lv av tl tk kv] w fun e w'=>e= .returned (.int .i64 g.total)/\Below w.heap.size w w':=by
 have h1:1<=n:=by omega
 refine callsIn_of_wp_marks Tryz.func57 rfl trivial ?_ rfl
 simp only[Lg,Tryz.ntmps57,List.size_toArray,List.length_cons,List.length_nil,Nat.reduceAdd,Nat.reduceSub,Array.replicate_succ,Array.replicate_zero,List.push_toArray,List.append_toArray,List.nil_append,List.cons_append]
 gi_wp2_with (refine⟨trivial,?_⟩;gi_at_call 86;refine(callsIn_wide.2 (DZ _ _)).mono ?_;rintro e w'⟨rfl,rfl⟩)
 have hbel:=Mu w (JA g dv lv av tl tk kv) (.cells #[.int .i64 0] 3) (.cells #[.pointer (some ⟨w.heap.size,0,none⟩)] 129)
 have hpg:=Re (S:=fun k=>B k\/k=w.heap.size) hB hd hv ((((Below.refl (w.heap.size+1) _).alloc (by simp) (.cells #[.int .i64 0] 3)).alloc (by simp) (.cells #[.pointer (some ⟨w.heap.size,0,none⟩)] 129))) (fun _ h=> .inl h) (.inr rfl)
 have hc:(((w.alloc (JA g dv lv av tl tk kv)).alloc (.cells #[.int .i64 0] 3)).alloc (.cells #[.pointer (some ⟨w.heap.size,0,none⟩)] 129)).heap[w.heap.size+1]? =some (.cells #[.int .i64 0] 3 (0,0)):=by
  have h:=World.alloc_heap_new (w.alloc (JA g dv lv av tl tk kv)) (.cells #[.int .i64 0] 3)
  rw[World.size_alloc] at h
  exact(Below.heap_alloc _ _ _ (by simp)).trans h
 have hp:(((w.alloc (JA g dv lv av tl tk kv)).alloc (.cells #[.int .i64 0] 3)).alloc (.cells #[.pointer (some ⟨w.heap.size,0,none⟩)] 129)).cell? ⟨w.heap.size+1+1,0,none⟩=some (.pointer (some ⟨w.heap.size,0,none⟩)):=by
  have h:=JB (w:=(w.alloc (JA g dv lv av tl tk kv)).alloc (.cells #[.int .i64 0] 3)) (cs:=#[.pointer (some ⟨w.heap.size,0,none⟩)]) (t:=129) bR 0 rfl
  simpa using h
 have hsz0:(((w.alloc (JA g dv lv av tl tk kv)).alloc (.cells #[.int .i64 0] 3)).alloc (.cells #[.pointer (some ⟨w.heap.size,0,none⟩)] 129)).heap.size=w.heap.size+3:=by simp
 obtain⟨W0,hW0⟩:∃W0,(((w.alloc (JA g dv lv av tl tk kv)).alloc (.cells #[.int .i64 0] 3)).alloc (.cells #[.pointer (some ⟨w.heap.size,0,none⟩)] 129))=W0:=⟨_,rfl⟩
 simp only[JA] at hW0
 simp only[JA] at hpg hc hp hbel hsz0
 rw[hW0] at hpg hc hp hbel hsz0 |-
 clear hW0
 have hX:∀k,k=w.heap.size+1->¬(B k\/k=w.heap.size)/\k≠w.heap.size+1+1/\k<W0.heap.size:=fun k e=>⟨fun h=>h.elim (fun h=>by have:=hB k h;omega) (fun h=>by omega),by omega,by omega⟩
 have hS:Low (fun k=>B k\/k=w.heap.size) W0:=fun k h=>h.elim (fun h=>by have:=hB k h;omega) (fun h=>by omega)
 refine Uq rfl h1 (gf:=112) (lb:=#[.pointer (some ⟨w.heap.size+1+1,0,none⟩)]) rfl trivial (enters_of Tryz.func112 (by kernel_rfl) rfl)
  (Hr (n-1) (by omega) (w.heap.size+1+1) w.heap.size 0 g (fun k=>B k\/k=w.heap.size) (fun k=>k=w.heap.size+1) W0 hX hS (by omega) hp hpg hg) (fun h g=>KV.trans h g) (fun W l o o' _ h ho _=>KV.of_cells (by simp) (JD h ho)) (fun x A B h hp=>hp) bR (fun _=>rfl)
  (fun pre W=>W.heap[w.heap.size+1]? =some (.cells #[.int .i64 (wrap64 (sumN pre:Nat))] 3 (0,0))/\Below w.heap.size w W) (fun _ _ _=>False)
  ((Uo (by omega) _ (fun pre:List Nat=> .int .i64 (wrap64 (sumN pre:Nat)))).and (Xr (by omega) lR)) (fun _ _ _ _ _ h _ _=>h) ⟨by rw[show wrap64 ((sumN []:Nat):Int)=0 from GV _ (by simp[sumN]) (by simp[sumN])];exact hc,hbel⟩
  (fun x a' _=>a'={ tmps:=#[Lg g dv lv av tl tk kv,.pointer (some ⟨w.heap.size,0,none⟩),.int .i64 0,.pointer (some ⟨w.heap.size+1,0,none⟩),.int .i64 (x:Nat),
   .func (.func 112) #[] #[.pointer (some ⟨w.heap.size+1+1,0,none⟩)],.int .i64 (x:Nat),undef,undef,undef,undef],defers:=[] }) (fun _ _ _ _ _ h=>h) ?assign ?body ?done ?stop
 case assign=>
  intro l pre x W K hi hp hK
  simp only[Ns]
  gi_wp2
  exact hK _ _ (KeepsFrom.refl _ _) (KV.refl _ _ _) hi hp (by simp)
 case body=>
  rintro l pre x a' W hl _⟨hb,hbw⟩ _ rfl
  have c0:W.cell? ⟨w.heap.size+1,0,none⟩=some (.int .i64 (wrap64 (sumN pre:Nat))):=by simp[World.cell?,hb]
  have f0:W.frozen? ⟨w.heap.size+1,0,none⟩=false:=by simp[World.frozen?,hb]
  have HB:=hid hb
  obtain⟨q,hq⟩:∃q:Int,wrap64 (sumN pre:Nat)=q:=⟨_,rfl⟩
  have HQ:Hid (wrap64 (q+(x:Int))=wrap64 ((sumN (pre++[x]):Nat):Int)):=hid (by rw[<-hq,RL];exact Lk _ _)
  rw[hq] at c0 HB
  clear hb hq
  gi_wp2
  refine⟨(KeepsOthers.setCell _ _ _).from _,⟨by simp,fun k o hk hc hx _=>(Below.heap_setCell _ _ _ k (fun e=>hx e)).trans hk⟩,?_,hbw.setCell (p:=⟨w.heap.size+1,0,none⟩) (by simp) _⟩
  rw[<-HQ.out]
  exact Qd HB.out 0 _
 case done=>
  rintro D ys W hD hys⟨hb,hbw⟩ hK
  rw[hys,show sumN g.cnts=g.total from rfl,GV _ (by omega) (by omega)] at hb
  have c0:W.cell? ⟨w.heap.size+1,0,none⟩=some (.int .i64 g.total):=by simp[World.cell?,hb]
  have HK:=hid hK
  clear hb hys hK
  gi_wp2
  refine⟨by simp,.inl ⟨_,_,rfl,run_takeDeferred HK.out,?_⟩⟩
  exact⟨_,results_tmp rfl _ _ _,rfl,hbw.trans (belowK_b (w:=w) lR W D _ _ (by omega) HK.out rfl rfl)⟩
 case stop=>
  rintro D c pre W _ _ h _
  exact h.elim
theorem Dv(B:Nat->Prop)(g:Pg)(hg:GGood g)(htot:g.total<=1000000000)(v:Value)(w:World)(hB:Low B w)(hv:PgVal B w v g):
 Calls Tryz.prog 57 #[v] w fun e w'=>e= .returned (.int .i64 g.total)/\Below w.heap.size w w':=by
 obtain⟨dv,lv,av,tl,tk,kv,rfl,hd,hp⟩:=hv
 exact callsIn_wide.1 (Tr 3 (by omega) B g hg htot dv lv av tl tk kv w hB hd hp)
end Go.Proofs.YtmnbheplkidfaaaGreatDoor
namespace Go.Proofs.YtmnbheplkidfaaaGreatDoor
open Go.Lib (hid)
open Go.RowKit Go.Deep Go.Shelf
def Ty.tooBig(t:Ty):Bool:=decide (100<t.depth)||decide (10000<t.size)
def Df.deep(d:Df):Bool:=d.ms.any (fun a=>decide (100<a.t.depth))||d.b.deepP 100
def Pg.tooBig(g:Pg):Bool:=g.ds.any Df.deep||g.m.deepP 100||decide (10000<g.total)
theorem WA(B:Nat->Prop)(t:Ty)(hsz:t.size<=1000000)(v:Value)(w:World)(hB:Low B w)(hv:TyVal B w v t):
 Calls Tryz.prog 37 #[v] w fun e w'=>e= .returned (.bool t.tooBig)/\Below w.heap.size w w':=by
 have HT:=hid (fun(W:World) (hW:Below w.heap.size w W)=>UO B t 100 100 rfl (by decide) v W (hB.le hW.size) (hv.keep (hW.keeps'.mono hB)))
 have HS:=hid (fun(hdp:decide (100<t.depth)=false) (W:World) (hW:Below w.heap.size w W)=>UM B t hsz (by have:=of_decide_eq_false hdp;omega) v W (hB.le hW.size) (hv.keep (hW.keeps'.mono hB)))
 obtain⟨la,ln,lc,ka,kn,kc,rfl⟩:=TyVal.open6 hv
 clear hv
 obtain⟨W1,hW1⟩:∃W1,w.alloc (.cells (cT t la ln lc ka kn kc) 28)=W1:=⟨_,rfl⟩
 have hb1:=(made hW1).1
 have x1:=(made hW1).2
 have HW1:=hid hW1
 have HB1:=hid hb1
 have HX1:=hid x1
 obtain⟨⟨q0,q1,q2,q3,q4,q5⟩,-⟩:=c6 x1
 have HT1:=hid (HT.out W1 hb1)
 clear hW1 hb1 x1
 unfold Ty.tooBig
 cases hdp:decide (100<t.depth) with
 |true=>
  rw[hdp] at HT1
  go_enter Tryz.func37,Tryz.ntmps37
  go_upto_region 1 with fail
  rw[HW1.out]
  go_wp2_with (go_at_call 69;refine HT1.out.mono ?_;rintro e w3⟨rfl,hb⟩;have HB3:=hid hb;clear hb)
  go_ret
  exact⟨rfl,Qf HB1.out HB3.out⟩
 |false=>
  rw[hdp] at HT1
  rw[Bool.false_or]
  cases hd2:decide (10000<t.size) with
  |true=>
   have hd3:decide ((10000:Int)<(t.size:Int))=true:=by have:=of_decide_eq_true hd2;simp;omega
   go_enter Tryz.func37,Tryz.ntmps37
   go_upto_region 1 with fail
   rw[HW1.out]
   go_wp2_with (first|(go_at_call 69;refine HT1.out.mono ?_;rintro e w3⟨rfl,hb⟩;have HB3:=hid hb;obtain⟨⟨r0,r1,r2,r3,r4,r5⟩,-⟩:=c6 ((hb.block _ (gl HX1.out)).trans HX1.out);clear hb)|(go_at_call 70;refine(HS.out hdp w3 (Qf HB1.out HB3.out)).mono ?_;rintro e w4⟨rfl,hb⟩;have HB4:=hid hb;clear hb))
   go_ret
   exact⟨rfl,Qf (Qf HB1.out HB3.out) HB4.out⟩
  |false=>
   have hd3:decide ((10000:Int)<(t.size:Int))=false:=by have:=of_decide_eq_false hd2;simp;omega
   go_enter Tryz.func37,Tryz.ntmps37
   go_upto_region 1 with fail
   rw[HW1.out]
   go_wp2_with (first|(go_at_call 69;refine HT1.out.mono ?_;rintro e w3⟨rfl,hb⟩;have HB3:=hid hb;obtain⟨⟨r0,r1,r2,r3,r4,r5⟩,-⟩:=c6 ((hb.block _ (gl HX1.out)).trans HX1.out);clear hb)|(go_at_call 70;refine(HS.out hdp w3 (Qf HB1.out HB3.out)).mono ?_;rintro e w4⟨rfl,hb⟩;have HB4:=hid hb;clear hb))
   go_ret
   exact⟨rfl,Qf (Qf HB1.out HB3.out) HB4.out⟩
theorem TP(B:Nat->Prop)(a:Pm)(v:Value)(w:World)(hB:Low B w)(hv:PmVal B w v a):
 Calls Tryz.prog 83 #[v] w fun e w'=>e= .returned (.bool (decide (100<a.t.depth)))/\Below w.heap.size w w':=by
 obtain⟨tl,tk,rfl,_,ht⟩:=hv
 have HT:=hid (fun(W:World) (hW:Below w.heap.size w W)=>UO B a.t 100 100 rfl (by decide) _ W (hB.le hW.size) (ht.keep (hW.keeps'.mono hB)))
 obtain⟨la,ln,lc,ka,kn,kc,rfl,rfl⟩:=ht.slices
 clear ht
 obtain⟨W1,hW1⟩:∃W1,w.alloc (.cells #[.string a.n,.int .i64 a.t.k,.int .i64 a.t.p,.string a.t.n,.int .i64 a.t.s,.slice la ln lc,.slice ka kn kc] 63)=W1:=⟨_,rfl⟩
 have hb1:=(made hW1).1
 have x1:=(made hW1).2
 have HW1:=hid hW1
 have HB1:=hid hb1
 obtain⟨⟨q0,q1,q2,q3,q4,q5,q6⟩,-⟩:=c7p x1
 clear hW1 hb1 x1
 go_enter Tryz.func83,Tryz.ntmps83
 go_upto_region 1 with fail
 rw[HW1.out]
 go_wp2_with (go_at_call 69;refine(HT.out W1 HB1.out).mono ?_;rintro e w3⟨rfl,hb⟩;have HB3:=hid hb;clear hb)
 go_ret
 exact⟨rfl,Qf HB1.out HB3.out⟩
theorem NW:∀args w,(callFunc 83 args).run Tryz.prog w= .ok (.enter 83 args) w:=enters_of Tryz.func83 (by kernel_rfl) rfl
theorem NX:∀args w,(callFunc 55 args).run Tryz.prog w= .ok (.enter 55 args) w:=enters_of Tryz.func55 (by kernel_rfl) rfl
theorem Wl(B:Nat->Prop)(d:Df)(v:Value)(w:World)(hB:Low B w)(hv:DfVal B w v d):
 Calls Tryz.prog 55 #[v] w fun e w'=>e= .returned (.bool d.deep)/\Below w.heap.size w w':=by
 have hv0:=hv
 obtain⟨ma,mn,mc,la,ln,lc,aa,an,ac,ta,tn,tc,ua,un,uc,ka,kn,kc,rfl⟩:=DfVal.open hv
 obtain⟨mv,lv,av,tl,tk,kv,e,_,hm,hp⟩:=hv0
 simp only[Value.agg.injEq,Array.mk.injEq,List.cons.injEq,and_true,true_and] at e
 obtain⟨rfl,rfl,rfl,rfl,rfl,rfl⟩:=e
 obtain⟨W1,hW1⟩:∃W1,w.alloc (.cells #[.string d.n,.slice ma mn mc,.int .i64 d.b.k,.string d.b.c,.string d.b.x,.slice la ln lc,.slice aa an ac,.int .i64 d.b.t.k,.int .i64 d.b.t.p,.string d.b.t.n,.int .i64 d.b.t.s,.slice ta tn tc,.slice ua un uc,.slice ka kn kc] 61)=W1:=⟨_,rfl⟩
 have hb1:=(made hW1).1
 have x1:=(made hW1).2
 have HM:=hid (Uc B d.ms (fun a=>decide (100<a.t.depth)) 83 #[] NW (.slice ma mn mc) W1 (hB.le hb1.size) (hm.keep (hb1.keeps'.mono hB)) (fun a _ v W hW hv=>TP B a v W (hB.le (lT hb1.size hW.size)) hv))
 have HP:=hid (fun(W:World) (hW:Below w.heap.size w W)=>NO B d.b 100 100 rfl (by decide) _ W (hB.le hW.size) (hp.keep (hW.keeps'.mono hB)))
 have HW1:=hid hW1
 have HB1:=hid hb1
 have HX1:=hid x1
 obtain⟨⟨q0,q1,q2,q3,q4,q5,q6,q7,q8,q9,q10,q11,q12,q13⟩,-⟩:=c14p x1
 have en:=NW
 clear hv hm hp hW1 hb1 x1
 unfold Df.deep
 cases hdp:d.ms.any (fun a=>decide (100<a.t.depth)) with
 |true=>
  rw[hdp] at HM
  go_enter Tryz.func55,Tryz.ntmps55
  go_upto_region 1 with fail
  rw[HW1.out]
  go_wp2_with (go_at_call 82;refine HM.out.mono ?_;rintro e w3⟨rfl,hb⟩;have HB3:=hid hb;clear hb)
  go_ret
  exact⟨rfl,Qf HB1.out HB3.out⟩
 |false=>
  rw[hdp] at HM
  rw[Bool.false_or]
  go_enter Tryz.func55,Tryz.ntmps55
  go_upto_region 1 with fail
  rw[HW1.out]
  go_wp2_with (first|(go_at_call 82;refine HM.out.mono ?_;rintro e w3⟨rfl,hb⟩;have HB3:=hid hb;obtain⟨⟨r0,r1,r2,r3,r4,r5,r6,r7,r8,r9,r10,r11,r12,r13⟩,-⟩:=c14p ((hb.block _ (gl HX1.out)).trans HX1.out);clear hb)|(go_at_call 56;refine(HP.out w3 (Qf HB1.out HB3.out)).mono ?_;rintro e w4⟨rfl,hb⟩;have HB4:=hid hb;clear hb))
  go_ret
  exact⟨rfl,Qf (Qf HB1.out HB3.out) HB4.out⟩
theorem FC(B:Nat->Prop)(g:Pg)(hg:g.ds.any Df.deep=false->g.m.deepP 100=false->GGood g/\g.total<=1000000000)(v:Value)(w:World)(hB:Low B w)(hv:PgVal B w v g):
 Calls Tryz.prog 25 #[v] w fun e w'=>e= .returned (.bool g.tooBig)/\Below w.heap.size w w':=by
 have HTO:=hid (fun(h1:g.ds.any Df.deep=false) (h2:g.m.deepP 100=false) (W:World) (hW:Below w.heap.size w W)=>Dv B g (hg h1 h2).1 (hg h1 h2).2 v W (hB.le hW.size) (hv.keep (hW.keeps'.mono hB)))
 obtain⟨dv,lv,av,tl,tk,kv,rfl,hd,hp⟩:=hv
 obtain⟨da,dn,dc,rfl,_⟩:=hd.open
 obtain⟨la,ln,lc,aa,an,ac,ta,tn,tc,ua,un,uc,ka,kn,kc,rfl,rfl,rfl,rfl,rfl⟩:=VP hp
 obtain⟨W1,hW1⟩:∃W1,w.alloc (.cells #[.slice da dn dc,.int .i64 g.m.k,.string g.m.c,.string g.m.x,.slice la ln lc,.slice aa an ac,.int .i64 g.m.t.k,.int .i64 g.m.t.p,.string g.m.t.n,.int .i64 g.m.t.s,.slice ta tn tc,.slice ua un uc,.slice ka kn kc] 33)=W1:=⟨_,rfl⟩
 have hb1:=(made hW1).1
 have x1:=(made hW1).2
 have HM:=hid (KA B g.ds Df.deep 55 #[] NX (.slice da dn dc) W1 (hB.le hb1.size) (hd.keep (hb1.keeps'.mono hB)) (fun a _ v W hW hv=>Wl B a v W (hB.le (lT hb1.size hW.size)) hv))
 have HP:=hid (fun(W:World) (hW:Below w.heap.size w W)=>NO B g.m 100 100 rfl (by decide) _ W (hB.le hW.size) (hp.keep (hW.keeps'.mono hB)))
 have HW1:=hid hW1
 have HB1:=hid hb1
 have HX1:=hid x1
 obtain⟨⟨q0,q1,q2,q3,q4,q5,q6,q7,q8,q9,q10,q11,q12⟩,-⟩:=c13p x1
 have en:=NX
 clear hd hp hW1 hb1 x1
 unfold Pg.tooBig
 cases hdp:g.ds.any Df.deep with
 |true=>
  rw[hdp] at HM
  rw[Bool.true_or,Bool.true_or]
  go_enter Tryz.func25,Tryz.ntmps25
  go_upto_region 1 with fail
  rw[HW1.out]
  go_wp2_with (go_at_call 54;refine HM.out.mono ?_;rintro e w3⟨rfl,hb⟩;have HB3:=hid hb;clear hb)
  go_ret
  exact⟨rfl,Qf HB1.out HB3.out⟩
 |false=>
  rw[hdp] at HM
  rw[Bool.false_or]
  cases hd2:g.m.deepP 100 with
  |true=>
   rw[hd2] at HP
   rw[Bool.true_or]
   go_enter Tryz.func25,Tryz.ntmps25
   go_upto_region 1 with fail
   rw[HW1.out]
   go_wp2_with (first|(go_at_call 54;refine HM.out.mono ?_;rintro e w3⟨rfl,hb⟩;have HB3:=hid hb;obtain⟨⟨r0,r1,r2,r3,r4,r5,r6,r7,r8,r9,r10,r11,r12⟩,-⟩:=c13p ((hb.block _ (gl HX1.out)).trans HX1.out);clear hb)|(go_at_call 56;refine(HP.out w3 (Qf HB1.out HB3.out)).mono ?_;rintro e w4⟨rfl,hb⟩;have HB4:=hid hb;clear hb))
   go_ret
   exact⟨rfl,Qf (Qf HB1.out HB3.out) HB4.out⟩
  |false=>
   rw[hd2] at HP
   rw[Bool.false_or]
   cases hd4:decide (10000<g.total) with
   |true=>
    have hd3:decide ((10000:Int)<(g.total:Int))=true:=by have:=of_decide_eq_true hd4;simp;omega
    go_enter Tryz.func25,Tryz.ntmps25
    go_upto_region 1 with fail
    rw[HW1.out]
    go_wp2_with (first|(go_at_call 54;refine HM.out.mono ?_;rintro e w3⟨rfl,hb⟩;have HB3:=hid hb;obtain⟨⟨r0,r1,r2,r3,r4,r5,r6,r7,r8,r9,r10,r11,r12⟩,-⟩:=c13p ((hb.block _ (gl HX1.out)).trans HX1.out);clear hb)|(go_at_call 56;refine(HP.out w3 (Qf HB1.out HB3.out)).mono ?_;rintro e w4⟨rfl,hb⟩;have HB4:=hid hb;obtain⟨⟨s0,s1,s2,s3,s4,s5,s6,s7,s8,s9,s10,s11,s12⟩,-⟩:=c13p ((hb.block _ (lL (gl HX1.out) HB3.out.size)).trans ((HB3.out.block _ (gl HX1.out)).trans HX1.out));clear hb)|(go_at_call 57;refine(HTO.out hdp hd2 w4 (Qf (Qf HB1.out HB3.out) HB4.out)).mono ?_;rintro e w5⟨rfl,hb⟩;have HB5:=hid hb;clear hb))
    go_ret
    exact⟨rfl,Qf (Qf (Qf HB1.out HB3.out) HB4.out) HB5.out⟩
   |false=>
    have hd3:decide ((10000:Int)<(g.total:Int))=false:=by have:=of_decide_eq_false hd4;simp;omega
    go_enter Tryz.func25,Tryz.ntmps25
    go_upto_region 1 with fail
    rw[HW1.out]
    go_wp2_with (first|(go_at_call 54;refine HM.out.mono ?_;rintro e w3⟨rfl,hb⟩;have HB3:=hid hb;obtain⟨⟨r0,r1,r2,r3,r4,r5,r6,r7,r8,r9,r10,r11,r12⟩,-⟩:=c13p ((hb.block _ (gl HX1.out)).trans HX1.out);clear hb)|(go_at_call 56;refine(HP.out w3 (Qf HB1.out HB3.out)).mono ?_;rintro e w4⟨rfl,hb⟩;have HB4:=hid hb;obtain⟨⟨s0,s1,s2,s3,s4,s5,s6,s7,s8,s9,s10,s11,s12⟩,-⟩:=c13p ((hb.block _ (lL (gl HX1.out) HB3.out.size)).trans ((HB3.out.block _ (gl HX1.out)).trans HX1.out));clear hb)|(go_at_call 57;refine(HTO.out hdp hd2 w4 (Qf (Qf HB1.out HB3.out) HB4.out)).mono ?_;rintro e w5⟨rfl,hb⟩;have HB5:=hid hb;clear hb))
    go_ret
    exact⟨rfl,Qf (Qf (Qf HB1.out HB3.out) HB4.out) HB5.out⟩
theorem Tv(B:Nat->Prop)(p:Pr)(hg:p.deepP 100=false->GGood ⟨[],p⟩/\(⟨[],p⟩:Pg).total<=1000000000)(v:Value)(w:World)(hB:Low B w)(hv:PrVal B w v p):
 Calls Tryz.prog 32 #[v] w fun e w'=>e= .returned (.bool (⟨[],p⟩:Pg).tooBig)/\Below w.heap.size w w':=by
 obtain⟨la,ln,lc,aa,an,ac,ta,tn,tc,ua,un,uc,ka,kn,kc,rfl⟩:=PrVal.open hv
 have HG:=hid (fun(W:World) (hW:Below w.heap.size w W)=>FC B ⟨[],p⟩ (fun _ h=>hg h) (.agg #[.slice none 0 0,.int .i64 p.k,.string p.c,.string p.x,.slice la ln lc,.slice aa an ac,.int .i64 p.t.k,.int .i64 p.t.p,.string p.t.n,.int .i64 p.t.s,.slice ta tn tc,.slice ua un uc,.slice ka kn kc]) W (hB.le hW.size) ⟨_,_,_,_,_,_,rfl,⟨.inl ⟨⟨_,_,rfl⟩,rfl⟩,Nat.zero_le _⟩,hv.keep (hW.keeps'.mono hB)⟩)
 clear hv
 obtain⟨W1,hW1⟩:∃W1,w.alloc (.cells (gP p la ln lc aa an ac ta tn tc ua un uc ka kn kc) 31)=W1:=⟨_,rfl⟩
 have hb1:=(made hW1).1
 have x1:=(made hW1).2
 have HW1:=hid hW1
 have HB1:=hid hb1
 obtain⟨⟨q0,q1,q2,q3,q4,q5,q6,q7,q8,q9,q10,q11⟩,-⟩:=c12p x1
 clear hW1 hb1 x1
 go_enter Tryz.func32,Tryz.ntmps32
 go_upto_region 1 with fail
 rw[HW1.out]
 go_wp2_with (go_at_call 25;refine(HG.out W1 HB1.out).mono ?_;rintro e w3⟨rfl,hb⟩;have HB3:=hid hb;clear hb)
 go_ret
 exact⟨rfl,Qf HB1.out HB3.out⟩
end Go.Proofs.YtmnbheplkidfaaaGreatDoor
namespace Go.Proofs.YtmnbheplkidfaaaGreatDoor.Tok
open Go.Lib (hid)
open Go.RowKit
theorem Qm{a b:Bool}(h:a=b):Ending.returned (.bool a)= .returned (.bool b):=by rw[h]
theorem Jh{k:IntKind}{a b:Int}(h:a=b):Ending.returned (.int k a)= .returned (.int k b):=by rw[h]
theorem VX(b:Int)(h0:0<=b)(h1:b<256)(w:World):
 Calls Tryz.prog 147 #[.int .u8 b] w fun e w'=>e= .returned (.bool (Lx.letB b))/\w=w':=by
 go_enter Tryz.func147,Tryz.ntmps147
 go_wp2
 all_goals (go_ret;refine⟨Qm ?_,rfl⟩;unfold Lx.letB;rw[Bool.eq_iff_iff];simp;try omega)
theorem Kf(b:Int)(h0:0<=b)(h1:b<256)(w:World):
 Calls Tryz.prog 148 #[.int .u8 b] w fun e w'=>e= .returned (.bool (Lx.digB b))/\w=w':=by
 go_enter Tryz.func148,Tryz.ntmps148
 go_wp2
 all_goals (go_ret;refine⟨Qm ?_,rfl⟩;unfold Lx.digB;rw[Bool.eq_iff_iff];simp;try omega)
theorem UN(s:ByteArray)(h:0<s.size):¬s.toList=[]:=by
 rw[Lib.toList_data];intro e
 have h2:s.data.toList.length=0:=by rw[e];rfl
 have h3:s.data.toList.length=s.size:=rfl
 omega
theorem JT(s:ByteArray)(h:s.size=0):s.toList=[]:=by
 rw[Lib.toList_data];apply List.eq_nil_of_length_eq_zero;exact h
theorem Vu(l:List UInt8)(h:0<l.length):l=l[0]::l.tail:=by
 cases l with
 |nil=>simp at h
 |cons c r=>simp
theorem Jl(s:ByteArray)(h:0<s.size):s.data.toList=s[0]::s.data.toList.tail:=Vu s.data.toList h
theorem YJ(c:UInt8):0<=(c.toNat:Int)/\(c.toNat:Int)<256:=⟨by omega,by have:=c.toNat_lt;omega⟩
theorem Jo(c:UInt8)(w:World):
 Calls Tryz.prog 147 #[.int .u8 (c.toNat:Int)] w fun e w'=>e= .returned (.bool (Lx.letB (c.toNat:Int)))/\w=w':=
 VX _ (YJ c).1 (YJ c).2 w
theorem Ja(c:UInt8)(w:World):
 Calls Tryz.prog 148 #[.int .u8 (c.toNat:Int)] w fun e w'=>e= .returned (.bool (Lx.digB (c.toNat:Int)))/\w=w':=
 Kf _ (YJ c).1 (YJ c).2 w
theorem Xi(s:ByteArray)(h0:s.toList=[])(w:World):
 Calls Tryz.prog 131 #[.string s] w fun e w'=>e= .returned iZ/\w=w':=by
 go_enter Tryz.func131,Tryz.ntmps131
 go_wp2_with fail
 go_ret
 exact⟨rfl,rfl⟩
theorem VK(s:ByteArray)(_h0:¬s.toList=[])(h0':s.toList.isEmpty=false)(h1:0<s.size)(hl:Lx.letB (s[0].toNat:Int)=false)(w:World):
 Calls Tryz.prog 131 #[.string s] w fun e w'=>e= .returned iZ/\w=w':=by
 go_enter Tryz.func131,Tryz.ntmps131
 go_wp2_with (go_at_call 147;refine(Jo _ _).mono ?_;rintro e w'⟨rfl,rfl⟩)
 go_ret
 exact⟨rfl,rfl⟩
def Hu(s:ByteArray)(k:Nat):Prop:=∀j (h:j<s.size),1<=j->j<k->Lx.wcU s[j]=true
theorem XS(s:ByteArray)(_h0:¬s.toList=[])(h0':s.toList.isEmpty=false)(h1:0<s.size)(hs:s.size<=9223372036854775807)(hl:Lx.letB (s[0].toNat:Int)=true)(w:World):
 Calls Tryz.prog 131 #[.string s] w fun e w'=>(∃k:Nat,e= .returned (.int .i64 k)/\1<=k/\k<=s.size/\Hu s k/\(∀h:k<s.size,Lx.wcU s[k]=false))/\w=w':=by
 go_enter Tryz.func131,Tryz.ntmps131
 go_wp2_with (go_at_call 147;refine(Jo _ _).mono ?_;rintro e w'⟨rfl,rfl⟩)
 go_loop [3] (fun n=>∃k:Nat,1<=k/\k<=s.size/\n= .int .i64 k/\Hu s k) (fun n=>s.size-(intOf n).toNat)
 case atStart=>exact⟨1,by omega,by omega,rfl,fun j _ h3 h4=>by omega⟩
 case round=>
  obtain⟨k,hk1,hk2,rfl,ha⟩:=hrel
  by_cases hlt:k<s.size
  ·by_cases hw:Lx.wcU s[k]=true
   ·have hnext:Hu s (k+1):=by
     intro j hj h3 h4
     by_cases e:j=k
     ·subst e;exact hw
     ·exact ha j hj h3 (by omega)
    by_cases hle:Lx.letB (s[k].toNat:Int)=true
    ·clear hw
     go_wp2_with (first|(go_at_call 147;refine(Jo _ _).mono ?_;rintro e w'⟨rfl,rfl⟩)|(go_at_call 148;refine(Ja _ _).mono ?_;rintro e w'⟨rfl,rfl⟩))
     go_round
     case rel=>exact⟨k+1,by omega,by omega,by go_num,hnext⟩
     case measure=>simp[intOf];omega
    ·have hle':Lx.letB (s[k].toNat:Int)=false:=by simpa using hle
     have hd:Lx.digB (s[k].toNat:Int)=true:=by simpa [Lx.wcU,Lx.letU,Lx.digU,hle'] using hw
     clear hw hle
     go_wp2_with (first|(go_at_call 147;refine(Jo _ _).mono ?_;rintro e w'⟨rfl,rfl⟩)|(go_at_call 148;refine(Ja _ _).mono ?_;rintro e w'⟨rfl,rfl⟩))
     go_round
     case rel=>exact⟨k+1,by omega,by omega,by go_num,hnext⟩
     case measure=>simp[intOf];omega
   ·have hw':Lx.wcU s[k]=false:=by simpa using hw
    have hle:Lx.letB (s[k].toNat:Int)=false:=by simp[Lx.wcU,Lx.letU] at hw';exact hw'.1
    have hd:Lx.digB (s[k].toNat:Int)=false:=by simp[Lx.wcU,Lx.digU] at hw';exact hw'.2
    clear hw
    have H:=hid hw'
    clear hw'
    go_wp2_with (first|(go_at_call 147;refine(Jo _ _).mono ?_;rintro e w'⟨rfl,rfl⟩)|(go_at_call 148;refine(Ja _ _).mono ?_;rintro e w'⟨rfl,rfl⟩))
    go_ret
    exact⟨⟨k,rfl,hk1,hk2,ha,fun _=>H.out⟩,rfl⟩
  ·go_wp2
   go_ret
   exact⟨⟨k,rfl,hk1,hk2,ha,fun h=>absurd h hlt⟩,rfl⟩
theorem XT(s:ByteArray)(hs:s.size<=maxLen)(w:World):
 Calls Tryz.prog 131 #[.string s] w fun e w'=>e= .returned (.int .i64 (Lx.wordLen s.data.toList))/\w=w':=by
 unfold maxLen at hs
 by_cases h1:0<s.size
 ·have hc:=Jl s h1
  have h0:=UN s h1
  have h0':s.toList.isEmpty=false:=by simpa using h0
  by_cases hl:Lx.letB (s[0].toNat:Int)=true
  ·refine(XS s h0 h0' h1 (by omega) hl w).mono ?_
   rintro e w'⟨⟨k,rfl,hk1,hk2,ha,hb⟩,rfl⟩
   refine⟨Jh ?_,rfl⟩
   rw[hc];simp only[Lx.wordLen]
   rw[if_pos (show Lx.letU s[0]=true from hl)]
   have hz:s.data.toList.tail.length+1=s.size:=by have:=congrArg List.length hc;simp at this;simp;omega
   have:Lx.span Lx.wcU s.data.toList.tail=k-1:=by
    refine Lx.span_eq _ _ _ (by omega) (fun j h hj=>?_) (fun h=>?_)
    ·have:=ha (j+1) (by omega) (by omega) (by omega)
     rw[List.getElem_tail];exact this
    ·have:=hb (by omega)
     rw[List.getElem_tail]
     have e:k-1+1=k:=by omega
     simp only[e];exact this
   omega
  ·have hl':Lx.letB (s[0].toNat:Int)=false:=by simpa using hl
   refine(VK s h0 h0' h1 hl' w).mono ?_
   rintro e w'⟨rfl,rfl⟩
   refine⟨Jh ?_,rfl⟩
   rw[hc];simp only[Lx.wordLen]
   rw[if_neg (by simpa [Lx.letU] using hl)];rfl
 ·have h0:=JT s (by omega)
  refine(Xi s h0 w).mono ?_
  rintro e w'⟨rfl,rfl⟩
  rw[Lib.toList_data] at h0
  refine⟨Jh ?_,rfl⟩
  rw[h0];rfl
def ibv(s:ByteArray)(c:Int):Int:=Lib.indexByte s.data.toList c.toNat.toUInt8
theorem UB(s:ByteArray)(c:Int)(w:World):
 Calls Tryz.prog 129 #[.string s,.int .u8 c] w fun e w'=>e= .returned (.int .i64 (ibv s c))/\w=w':=
 (Tryz.strings_IndexByte s c w).mono fun _ _ ⟨h1,h2⟩=>⟨h1,h2.symm⟩
theorem Mq(c:UInt8):∀l:List UInt8,Lib.indexByte l c= -1/\Lx.span (fun x=>x != c) l=l.length\/0<=Lib.indexByte l c/\(Lx.span (fun x=>x != c) l:Int)=Lib.indexByte l c
 |[]=>by left;exact⟨rfl,rfl⟩
 |b::l=>by
  have ih:=Mq c l
  unfold Lib.indexByte
  rw[Lx.span_cons]
  by_cases h:b=c
  ·subst h;right;simp
  ·have h1:(b==c)=false:=by simpa using h
   have h2:(b != c)=true:=by simpa using h
   rw[h1,h2]
   rcases ih with⟨e,hs⟩|⟨e,hs⟩
   ·left;rw[e,hs];simp;omega
   ·right
    have:(Lib.indexByte l c== -1)=false:=by simp;omega
    rw[this];simp;omega
theorem KM(s:ByteArray)(v:Int)(h:0<=v)(hv:ibv s 10=v)(w:World):
 Calls Tryz.prog 130 #[.string s] w fun e w'=>e= .returned (.int .i64 v)/\w=w':=by
 have H:=hid hv
 clear hv
 go_enter Tryz.func130,Tryz.ntmps130
 go_wp2_with (go_at_call 129;refine(UB _ _ _).mono ?_;rintro e w'⟨rfl,rfl⟩;rw[H.out])
 go_ret
 exact⟨rfl,rfl⟩
theorem KN(s:ByteArray)(v:Int)(h:v<0)(hv:ibv s 10=v)(w:World):
 Calls Tryz.prog 130 #[.string s] w fun e w'=>e= .returned (.int .i64 s.size)/\w=w':=by
 have H:=hid hv
 clear hv
 go_enter Tryz.func130,Tryz.ntmps130
 go_wp2_with (go_at_call 129;refine(UB _ _ _).mono ?_;rintro e w'⟨rfl,rfl⟩;rw[H.out])
 go_ret
 exact⟨rfl,rfl⟩
theorem KO(s:ByteArray)(w:World):
 Calls Tryz.prog 130 #[.string s] w fun e w'=>e= .returned (.int .i64 (Lx.commentLen s.data.toList))/\w=w':=by
 have e10:(10:Int).toNat.toUInt8=10:=by decide
 rcases Mq 10 s.data.toList with⟨e,hs⟩|⟨e,hs⟩
 ·refine(KN s (-1) (by omega) (by unfold ibv;rw[e10,e]) w).mono ?_
  rintro e w'⟨rfl,rfl⟩
  refine⟨Jh ?_,rfl⟩
  unfold Lx.commentLen;rw[hs];rfl
 ·refine(KM s _ e (by unfold ibv;rw[e10]) w).mono ?_
  rintro e w'⟨rfl,rfl⟩
  refine⟨Jh ?_,rfl⟩
  unfold Lx.commentLen;exact hs.symm
theorem NZ(c:UInt8):(c.toNat:Int).toNat.toUInt8=c:=by simp
theorem FG(c:UInt8):Lx.blank c=decide (0<=ibv ⟨#[32,9,10,13]⟩ (c.toNat:Int)):=by
 unfold ibv;rw[NZ]
 have e:∀x:UInt8,(x==c)=(c==x):=fun x=>by rw[Bool.eq_iff_iff];simp only[beq_iff_eq];exact eq_comm
 have hc:∀(b:UInt8) (l:List UInt8),(0<=Lib.indexByte (b::l) c)↔(c=b\/0<=Lib.indexByte l c):=by
  intro b l
  have hg:=Lib.indexByte_ge l c
  rw[Lib.indexByte,e]
  by_cases h:c=b
  ·simp[h]
  ·by_cases h2:Lib.indexByte l c= -1
   ·simp[h,h2]
   ·simp[h,h2];omega
 have hn:¬0<=Lib.indexByte [] c:=by simp[Lib.indexByte]
 rw[Bool.eq_iff_iff]
 simp only[Lx.blank,Bool.or_eq_true,beq_iff_eq,decide_eq_true_eq,hc,hn,or_false,or_assoc]
def hpv(s p:ByteArray):Bool:=Lib.hasPrefix s.data.toList p.data.toList
theorem Uf(s p:ByteArray)(b:Bool)(h:Hid (hpv s p=b))(w:World):
 Calls Tryz.prog 149 #[.string s,.string p] w fun e w'=>e= .returned (.bool b)/\w=w':=
 (Tryz.strings_HasPrefix s p w).mono fun _ _ ⟨h1,h2⟩=>⟨by rw[h1,<-h.out];rfl,h2.symm⟩
theorem YH(s:ByteArray)(x:UInt8)(h:0<s.size):hpv s ⟨#[x]⟩=(x==s[0]):=by
 unfold hpv;rw[Jl s h];simp[Lib.hasPrefix,List.isPrefixOf]
theorem FB(s:ByteArray)(x:UInt8)(h:¬0<s.size):hpv s ⟨#[x]⟩=false:=by
 unfold hpv
 have:s.data.toList=[]:=by rw[<-Lib.toList_data];exact JT s (by omega)
 rw[this];rfl
theorem KK(s:ByteArray)(h0:s.size=0)(w:World):
 Calls Tryz.prog 132 #[.string s] w fun e w'=>e= .returned iZ/\w=w':=by
 have H1:=hid (FB s 48 (by omega))
 have H2:=hid (FB s 45 (by omega))
 go_enter Tryz.func132,Tryz.ntmps132
 go_wp2_with (go_at_call 149;refine(Uf _ _ false (by assumption) _).mono ?_;rintro e w'⟨rfl,rfl⟩)
 go_ret
 exact⟨rfl,rfl⟩
theorem KJ(s:ByteArray)(h:0<s.size)(h0:s[0]=48)(w:World):
 Calls Tryz.prog 132 #[.string s] w fun e w'=>e= .returned (.int .i64 1)/\w=w':=by
 have H1:=hid (show hpv s ⟨#[48]⟩=true by rw[YH s 48 h,h0];rfl)
 clear h0
 go_enter Tryz.func132,Tryz.ntmps132
 go_wp2_with (go_at_call 149;refine(Uf _ _ true (by assumption) _).mono ?_;rintro e w'⟨rfl,rfl⟩)
 go_ret
 exact⟨rfl,rfl⟩
def KS(s:ByteArray)(m k:Nat):Prop:=∀j (h:j<s.size),m<=j->j<k->Lx.digU s[j]=true
theorem VF(s:ByteArray)(h:0<s.size)(h0:s[0]=45)(h1:∀h:1<s.size,s[1]=48\/Lx.digU s[1]=false)(w:World):
 Calls Tryz.prog 132 #[.string s] w fun e w'=>e= .returned iZ/\w=w':=by
 have H1:=hid (show hpv s ⟨#[48]⟩=false by rw[YH s 48 h,h0];rfl)
 have H2:=hid (show hpv s ⟨#[45]⟩=true by rw[YH s 45 h,h0];rfl)
 clear h0
 by_cases hs:1<s.size
 ·rcases h1 hs with e|e
  ·have hb:((s[1].toNat:Int)==48)=true:=by rw[e];rfl
   clear h1 e
   go_enter Tryz.func132,Tryz.ntmps132
   go_wp2_with (go_at_call 149;refine(Uf _ _ _ (by assumption) _).mono ?_;rintro e w'⟨rfl,rfl⟩)
   go_ret
   exact⟨rfl,rfl⟩
  ·have hb:Lx.digB (s[1].toNat:Int)=false:=e
   have hb2:((s[1].toNat:Int)==48)=false:=by
    rw[beq_eq_false_iff_ne];intro e2;rw[e2] at hb;exact absurd hb (by decide)
   clear h1 e
   go_enter Tryz.func132,Tryz.ntmps132
   go_wp2_with (first|(go_at_call 149;refine(Uf _ _ _ (by assumption) _).mono ?_;rintro e w'⟨rfl,rfl⟩)|(go_at_call 148;refine(Ja _ _).mono ?_;rintro e w'⟨rfl,rfl⟩))
   go_ret
   exact⟨rfl,rfl⟩
 ·clear h1
  have hb:((1:Int)==(s.size:Int))=true:=by rw[beq_iff_eq];omega
  go_enter Tryz.func132,Tryz.ntmps132
  go_wp2_with (go_at_call 149;refine(Uf _ _ _ (by assumption) _).mono ?_;rintro e w'⟨rfl,rfl⟩)
  go_ret
  exact⟨rfl,rfl⟩
theorem VE(s:ByteArray)(h:0<s.size)(h0:s[0]≠48)(h1:s[0]≠45)(hd:Lx.digB (s[0].toNat:Int)=false)(w:World):
 Calls Tryz.prog 132 #[.string s] w fun e w'=>e= .returned iZ/\w=w':=by
 have H1:=hid (show hpv s ⟨#[48]⟩=false by rw[YH s 48 h,beq_eq_false_iff_ne];exact h0.symm)
 have H2:=hid (show hpv s ⟨#[45]⟩=false by rw[YH s 45 h,beq_eq_false_iff_ne];exact h1.symm)
 have hb2:((s[0].toNat:Int)==48)=false:=by
  rw[beq_eq_false_iff_ne];intro e2;rw[e2] at hd;exact absurd hd (by decide)
 clear h0 h1
 go_enter Tryz.func132,Tryz.ntmps132
 go_wp2_with (first|(go_at_call 149;refine(Uf _ _ _ (by assumption) _).mono ?_;rintro e w'⟨rfl,rfl⟩)|(go_at_call 148;refine(Ja _ _).mono ?_;rintro e w'⟨rfl,rfl⟩))
 go_ret
 exact⟨rfl,rfl⟩
theorem Ve(s:ByteArray)(hs:s.size<=9223372036854775807)(h:1<s.size)(h0:s[0]=45)(h1:((s[1].toNat:Int)==48)=false)(hd1:Lx.digB (s[1].toNat:Int)=true)(w:World):
 Calls Tryz.prog 132 #[.string s] w fun e w'=>(∃k:Nat,e= .returned (.int .i64 k)/\1<=k/\k<=s.size/\KS s 1 k/\(∀h:k<s.size,Lx.digU s[k]=false))/\w=w':=by
 have H1:=hid (show hpv s ⟨#[48]⟩=false by rw[YH s 48 (by omega),h0];rfl)
 have H2:=hid (show hpv s ⟨#[45]⟩=true by rw[YH s 45 (by omega),h0];rfl)
 have hne:((1:Int)==(s.size:Int))=false:=by rw[beq_eq_false_iff_ne];omega
 clear h0
 go_enter Tryz.func132,Tryz.ntmps132
 go_wp2_with (first|(go_at_call 149;refine(Uf _ _ _ (by assumption) _).mono ?_;rintro e w'⟨rfl,rfl⟩)|(go_at_call 148;refine(Ja _ _).mono ?_;rintro e w'⟨rfl,rfl⟩))
 go_loop [3] (fun n=>∃k:Nat,1<=k/\k<=s.size/\n= .int .i64 k/\KS s 1 k) (fun n=>s.size-(intOf n).toNat)
 case atStart=>exact⟨1,by omega,by omega,rfl,fun j _ h3 h4=>by omega⟩
 case round=>
  obtain⟨k,hk1,hk2,rfl,ha⟩:=hrel
  clear hd1 h1 hne
  by_cases hlt:k<s.size
  ·by_cases hw:Lx.digB (s[k].toNat:Int)=true
   ·have hnext:KS s 1 (k+1):=by
     intro j hj h3 h4
     by_cases e:j=k
     ·subst e;exact hw
     ·exact ha j hj h3 (by omega)
    go_wp2_with (go_at_call 148;refine(Ja _ _).mono ?_;rintro e w'⟨rfl,rfl⟩)
    go_round
    case rel=>exact⟨k+1,by omega,by omega,by go_num,hnext⟩
    case measure=>simp[intOf];omega
   ·have hw':Lx.digB (s[k].toNat:Int)=false:=by simpa using hw
    clear hw
    go_wp2_with (go_at_call 148;refine(Ja _ _).mono ?_;rintro e w'⟨rfl,rfl⟩)
    go_ret
    exact⟨⟨k,rfl,hk1,hk2,ha,fun _=>hw'⟩,rfl⟩
  ·go_wp2
   go_ret
   exact⟨⟨k,rfl,hk1,hk2,ha,fun h=>absurd h hlt⟩,rfl⟩
theorem Vd(s:ByteArray)(hs:s.size<=9223372036854775807)(h:0<s.size)(h0:s[0]≠48)(h1:s[0]≠45)(hd1:Lx.digB (s[0].toNat:Int)=true)(w:World):
 Calls Tryz.prog 132 #[.string s] w fun e w'=>(∃k:Nat,e= .returned (.int .i64 k)/\k<=s.size/\KS s 0 k/\(∀h:k<s.size,Lx.digU s[k]=false))/\w=w':=by
 have H1:=hid (show hpv s ⟨#[48]⟩=false by rw[YH s 48 h,beq_eq_false_iff_ne];exact h0.symm)
 have H2:=hid (show hpv s ⟨#[45]⟩=false by rw[YH s 45 h,beq_eq_false_iff_ne];exact h1.symm)
 have hne:((0:Int)==(s.size:Int))=false:=by rw[beq_eq_false_iff_ne];omega
 have hb2:((s[0].toNat:Int)==48)=false:=by
  rw[beq_eq_false_iff_ne];intro e2;apply h0;apply UInt8.toNat_inj.1;have:(48:UInt8).toNat=48:=rfl;omega
 clear h0 h1
 go_enter Tryz.func132,Tryz.ntmps132
 go_wp2_with (first|(go_at_call 149;refine(Uf _ _ _ (by assumption) _).mono ?_;rintro e w'⟨rfl,rfl⟩)|(go_at_call 148;refine(Ja _ _).mono ?_;rintro e w'⟨rfl,rfl⟩))
 go_loop [3] (fun n=>∃k:Nat,k<=s.size/\n= .int .i64 k/\KS s 0 k) (fun n=>s.size-(intOf n).toNat)
 case atStart=>exact⟨0,by omega,rfl,fun j _ h3 h4=>by omega⟩
 case round=>
  obtain⟨k,hk2,rfl,ha⟩:=hrel
  clear hd1 hne hb2
  by_cases hlt:k<s.size
  ·by_cases hw:Lx.digB (s[k].toNat:Int)=true
   ·have hnext:KS s 0 (k+1):=by
     intro j hj h3 h4
     by_cases e:j=k
     ·subst e;exact hw
     ·exact ha j hj h3 (by omega)
    go_wp2_with (go_at_call 148;refine(Ja _ _).mono ?_;rintro e w'⟨rfl,rfl⟩)
    go_round
    case rel=>exact⟨k+1,by omega,by go_num,hnext⟩
    case measure=>simp[intOf];omega
   ·have hw':Lx.digB (s[k].toNat:Int)=false:=by simpa using hw
    clear hw
    go_wp2_with (go_at_call 148;refine(Ja _ _).mono ?_;rintro e w'⟨rfl,rfl⟩)
    go_ret
    exact⟨⟨k,rfl,hk2,ha,fun _=>hw'⟩,rfl⟩
  ·go_wp2
   go_ret
   exact⟨⟨k,rfl,hk2,ha,fun h=>absurd h hlt⟩,rfl⟩
theorem Ru(p:UInt8->Bool)(s:ByteArray)(m k:Nat)(hk:m<=k)(hk2:k<=s.size)(h1:∀j (h:j<s.size),m<=j->j<k->p s[j]=true)(h2:∀h:k<s.size,p s[k]=false):
 m+Lx.span p (s.data.toList.drop m)=k:=by
 have hl:s.data.toList.length=s.size:=rfl
 have:Lx.span p (s.data.toList.drop m)=k-m:=by
  refine Lx.span_eq _ _ _ (by simp;omega) (fun j h hj=>?_) (fun h=>?_)
  ·simp at h
   rw[List.getElem_drop];exact h1 (m+j) (by omega) (by omega) (by omega)
  ·simp at h
   rw[List.getElem_drop]
   have e:m+(k-m)=k:=by omega
   simp only[e];exact h2 (by omega)
 omega
theorem MY(s:ByteArray)(hs:s.size<=maxLen)(w:World):
 Calls Tryz.prog 132 #[.string s] w fun e w'=>e= .returned (.int .i64 (Lx.numberLen s.data.toList))/\w=w':=by
 unfold maxLen at hs
 by_cases h:0<s.size
 ·have hc:=Jl s h
  have hz:s.data.toList.tail.length+1=s.size:=by have:=congrArg List.length hc;simp at this;simp;omega
  by_cases h48:s[0]=48
  ·refine(KJ s h h48 w).mono ?_
   rintro e w'⟨rfl,rfl⟩
   refine⟨Jh ?_,rfl⟩
   rw[hc];simp only[Lx.numberLen];rw[if_pos h48];rfl
  ·by_cases h45:s[0]=45
   ·have ht:∀h1:1<s.size,s.data.toList.tail=s[1]::s.data.toList.tail.tail:=by
     intro h1
     have:=Vu s.data.toList.tail (by omega)
     rw[this];congr 1;simp[ByteArray.getElem_eq_getElem_data]
    by_cases hy:∃h1:1<s.size,s[1]≠48/\Lx.digU s[1]=true
    ·obtain⟨h1,hn,hd⟩:=hy
     have hb2:((s[1].toNat:Int)==48)=false:=by
      rw[beq_eq_false_iff_ne];intro e2;apply hn;apply UInt8.toNat_inj.1;have:(48:UInt8).toNat=48:=rfl;omega
     refine(Ve s (by omega) h1 h45 hb2 hd w).mono ?_
     rintro e w'⟨⟨k,rfl,hk1,hk2,ha,hb⟩,rfl⟩
     refine⟨Jh ?_,rfl⟩
     have hsp:=Ru Lx.digU s 1 k hk1 hk2 ha hb
     rw[List.drop_one] at hsp
     rw[hc];simp only[Lx.numberLen];rw[if_neg h48,if_pos h45]
     rw[ht h1] at hsp |-
     simp only
     rw[if_neg hn,if_pos hd];omega
    ·refine(VF s h h45 ?_ w).mono ?_
     ·intro h1
      by_cases e:s[1]=48
      ·exact .inl e
      ·right
       cases hd:Lx.digU s[1] with
       |false=>rfl
       |true=>exact absurd ⟨h1,e,hd⟩ hy
     ·rintro e w'⟨rfl,rfl⟩
      refine⟨Jh ?_,rfl⟩
      rw[hc];simp only[Lx.numberLen];rw[if_neg h48,if_pos h45]
      by_cases h1:1<s.size
      ·rw[ht h1];simp only
       by_cases e:s[1]=48
       ·rw[if_pos e];rfl
       ·rw[if_neg e,if_neg (fun hd=>hy ⟨h1,e,hd⟩)];rfl
      ·have:s.data.toList.tail=[]:=List.eq_nil_of_length_eq_zero (by omega)
       rw[this];rfl
   ·by_cases hd:Lx.digB (s[0].toNat:Int)=true
    ·refine(Vd s (by omega) h h48 h45 hd w).mono ?_
     rintro e w'⟨⟨k,rfl,hk2,ha,hb⟩,rfl⟩
     refine⟨Jh ?_,rfl⟩
     have hsp:=Ru Lx.digU s 0 k (by omega) hk2 ha hb
     rw[List.drop_zero,Nat.zero_add,hc,Lx.span_cons,if_pos (show Lx.digU s[0]=true from hd)] at hsp
     rw[hc];simp only[Lx.numberLen];rw[if_neg h48,if_neg h45,if_pos (show Lx.digU s[0]=true from hd),hsp]
    ·refine(VE s h h48 h45 (by simpa using hd) w).mono ?_
     rintro e w'⟨rfl,rfl⟩
     refine⟨Jh ?_,rfl⟩
     rw[hc];simp only[Lx.numberLen];rw[if_neg h48,if_neg h45,if_neg (show ¬Lx.digU s[0]=true from hd)];rfl
 ·have h0:=JT s (by omega)
  refine(KK s (by omega) w).mono ?_
  rintro e w'⟨rfl,rfl⟩
  rw[Lib.toList_data] at h0
  refine⟨Jh ?_,rfl⟩
  rw[h0];rfl
theorem Nc(s:ByteArray)(j:Nat)(w:World):
 Calls Tryz.prog 130 #[.string (s.extract j s.size)] w fun e w'=>e= .returned (.int .i64 (Lx.commentLen (s.data.toList.drop j)))/\w=w':=by
 have:=KO (s.extract j s.size) w
 rw[Lib.extract_to_end] at this;exact this
def UF(s:ByteArray)(a j:Nat):Prop:=j+Lx.skipG false (s.data.toList.drop j)=a+Lx.skipG false (s.data.toList.drop a)
theorem YI(s:ByteArray)(j:Nat)(h:j<s.size):s.data.toList.drop j=s[j]::s.data.toList.drop (j+1):=
 List.drop_eq_getElem_cons (by have hl:s.data.toList.length=s.size:=rfl;omega)
theorem SI(s:ByteArray):s.data.toList.drop s.size=[]:=List.drop_eq_nil_of_le (by have hl:s.data.toList.length=s.size:=rfl;omega)
theorem YK(s:ByteArray)(hs:s.size<=9223372036854775807)(a:Nat)(ha:a<=s.size)(w:World):
 Calls Tryz.prog 106 #[.string s,.int .i64 a] w fun e w'=>e= .returned (.int .i64 (a+Lx.skipG false (s.data.toList.drop a):Nat))/\w=w':=by
 have hll:s.data.toList.length=s.size:=rfl
 go_enter Tryz.func106,Tryz.ntmps106
 go_wp2_with fail
 go_loop [1] (fun n=>∃k:Nat,k<=s.size/\n= .int .i64 k/\UF s a k) (fun n=>s.size-(intOf n).toNat)
 case atStart=>exact⟨a,ha,rfl,rfl⟩
 case round=>
  obtain⟨k,hk,rfl,hr⟩:=hrel
  by_cases hlt:k<s.size
  ·have hd:=YI s k hlt
   by_cases hb:Lx.blank s[k]=true
   ·have hib:0<=ibv ⟨#[32,9,10,13]⟩ (s[k].toNat:Int):=by rw[FG] at hb;simpa using hb
    have hnext:UF s a (k+1):=by
     unfold UF at hr |-;rw[<-hr,hd,Lx.skipG_blank _ _ hb];omega
    clear hb hd hll
    go_wp2_with (go_at_call 129;refine(UB _ _ _).mono ?_;rintro e w'⟨rfl,rfl⟩)
    go_round
    case rel=>exact⟨k+1,by omega,by go_num,hnext⟩
    case measure=>simp[intOf];omega
   ·have hib:ibv ⟨#[32,9,10,13]⟩ (s[k].toNat:Int)<0:=by rw[FG] at hb;simpa using hb
    have hb':Lx.blank s[k]=false:=by simpa using hb
    clear hb
    by_cases h35:s[k]=35
    ·have h35b:((s[k].toNat:Int)==35)=true:=by rw[h35];rfl
     have hc1:1<=Lx.commentLen (s.data.toList.drop k):=by rw[hd,h35];exact Lx.commentLen_hash _
     have hc2:k+Lx.commentLen (s.data.toList.drop k)<=s.size:=by have:=Lx.commentLen_le (s.data.toList.drop k);rw[List.length_drop] at this;omega
     have hnext:UF s a (k+Lx.commentLen (s.data.toList.drop k)):=by
      unfold UF at hr |-;rw[<-hr,<-List.drop_drop,hd,h35,Lx.skipG_hash];omega
     clear h35 hd hb' hll
     generalize hcc:Lx.commentLen (s.data.toList.drop k)=cl at *
     have HC:=hid hcc
     clear hcc
     go_wp2_with (first|(go_at_call 129;refine(UB _ _ _).mono ?_;rintro e w'⟨rfl,rfl⟩)|(go_at_call 130;refine(Nc _ _ _).mono ?_;rintro e w'⟨rfl,rfl⟩;rw[HC.out]))
     go_round
     case rel=>exact⟨k+cl,by omega,by go_num,hnext⟩
     case measure=>simp[intOf];omega
    ·have h35b:((s[k].toNat:Int)==35)=false:=by
      rw[beq_eq_false_iff_ne];intro e2;apply h35;apply UInt8.toNat_inj.1;have:(35:UInt8).toNat=35:=rfl;omega
     have hres:k=a+Lx.skipG false (s.data.toList.drop a):=by
      unfold UF at hr;rw[<-hr,hd,Lx.skipG_stop _ _ hb' h35];omega
     have HR:=hid hres
     clear hres h35 hd hb' hll
     go_wp2_with (go_at_call 129;refine(UB _ _ _).mono ?_;rintro e w'⟨rfl,rfl⟩)
     go_ret
     exact⟨Jh (by have:=HR.out;omega),rfl⟩
  ·obtain rfl:k=s.size:=by omega
   have hres:s.size=a+Lx.skipG false (s.data.toList.drop a):=by
    unfold UF at hr;rw[<-hr,SI,Lx.skipG_nil];omega
   have HR:=hid hres
   clear hres hll
   go_wp2
   go_ret
   exact⟨Jh (by have:=HR.out;omega),rfl⟩
theorem FL{W w1:World}(hb:Below W.heap.size W w1):(∀b o,b<W.heap.size->w1.cell? ⟨b,o,none⟩=W.cell? ⟨b,o,none⟩)/\(∀b o,b<W.heap.size->w1.frozen? ⟨b,o,none⟩=W.frozen? ⟨b,o,none⟩):=
 ⟨fun b o h=>hb.cell (p:=⟨b,o,none⟩) h,fun b o h=>hb.frozen (p:=⟨b,o,none⟩) h⟩
theorem pi_ok(s:ByteArray)(hmax:s.size<=9223372036854775806)(v:Int)(h:Lib.parseIntB 64 s.data.toList= .ok v)(w:World):
 Calls Tryz.prog 150 #[.string s,.int .i64 10,.int .i64 64] w fun e w'=>e= .returned (.tuple #[.int .i64 v,.nilIface])/\Below w.heap.size w w':=
 (Tryz.strconv_ParseInt_10_at64_ok s hmax v h w).mono fun _ _ ⟨h1,h2⟩=>⟨h1,by
  rcases h2 with rfl|⟨t,rfl⟩
  ·exact bR
  ·exact Lib.bytesWorld_below _ _ _⟩
theorem So(s:ByteArray)(hlim:s.size<=281474976710656)(h:Lib.parseIntB 64 s.data.toList= .range)(tp:TypeId)(p:Value)(w:World)(hvar:w.var? Tryz.prog "strconv.ErrRange" =some #[.iface tp p]):
 Calls Tryz.prog 150 #[.string s,.int .i64 10,.int .i64 64] w fun e w'=>∃(v:Int) (t:TypeId) (q:Value),e= .returned (.tuple #[.int .i64 v,.iface t q])/\Below w.heap.size w w':=
 (Tryz.strconv_ParseInt_10_at64_range_var s hlim h tp p w hvar).mono fun _ _ ⟨_,h1,_,_,h4⟩=>⟨_,_,_,h1,h4⟩
structure Env(B:Nat)(w:World):Prop where
 range:∃(tp:TypeId) (p:Value),w.var? Tryz.prog "strconv.ErrRange" =some #[.iface tp p]
 words:w.var? Tryz.prog "duologue/lex.keywords" =some #[.string ⟨#[100,101,102]⟩,.string ⟨#[109,97,105,110]⟩,.string ⟨#[115,116,111,112]⟩,.string ⟨#[110,101,119]⟩,.string ⟨#[105,110,116]⟩,.string ⟨#[98,111,111,108]⟩,.string ⟨#[101,110,100]⟩,.string ⟨#[114,101,99]⟩,.string ⟨#[116,114,117,101]⟩,.string ⟨#[102,97,108,115,101]⟩]
 above:3<B/\0<B
 size:B<=w.heap.size
theorem gRange:Tryz.prog.globalNamed "strconv.ErrRange" =some 3:=by kernel_rfl
theorem gWords:Tryz.prog.globalNamed "duologue/lex.keywords" =some 0:=by kernel_rfl
theorem Env.below{B:Nat}{w w':World}(h:Env B w)(hb:Below B w w'):Env B w':=by
 obtain⟨tp,p,hr⟩:=h.range
 exact⟨⟨tp,p,var?_below hb gRange h.above.1 hr⟩,var?_below hb gWords h.above.2 h.words,h.above,lT h.size hb.size⟩
theorem Env.to{B:Nat}{w w':World}(h:Env B w)(hb:Below w.heap.size w w'):Env B w':=h.below (hb.mono h.size)
theorem TL(s:ByteArray)(hmax:s.size<=9223372036854775806)(v:Int)(h:Lib.parseIntB 64 s.data.toList= .ok v)(a:Int)(w:World):
 Calls Tryz.prog 133 #[.string s,.int .i64 a] w fun e w'=>e= .returned (.tuple #[.agg #[.int .i64 2,.string s,.int .i64 v,.int .i64 a],.int .i64 0])/\Below w.heap.size w w':=by
 have H:=hid h
 clear h
 go_enter Tryz.func133,Tryz.ntmps133
 go_wp2_with (go_at_call 150;refine(pi_ok _ hmax _ H.out _).mono ?_;rintro e w1⟨rfl,hb⟩;obtain⟨hc,hf⟩:=FL hb)
 refine bodyPost_ret (v:= .tuple #[.agg #[.int .i64 2,.string s,.int .i64 v,.int .i64 a],.int .i64 0]) (by simp[results,Tryz.results133,go_sem,hc]) rfl ⟨rfl,?_⟩
 have h0:Below w.heap.size w w1:=(bR.alloc lR _).trans (hb.mono (by simp))
 exact(((h0.setCell lR _).setCell lR _).setCell lR _).setCell lR _
theorem Ho(s:ByteArray)(hmax:s.size<=281474976710656)(h:Lib.parseIntB 64 s.data.toList= .range)(a:Int)(B:Nat)(w:World)(he:Env B w):
 Calls Tryz.prog 133 #[.string s,.int .i64 a] w fun e w'=>e= .returned (.tuple #[.agg #[.int .i64 0,.string ⟨#[]⟩,.int .i64 0,.int .i64 0],.int .i64 2])/\Below w.heap.size w w':=by
 have H:=hid h
 clear h
 have he':Env B (w.alloc (.cells #[.int .i64 0,.string ⟨#[]⟩,.int .i64 0,.int .i64 0] 99)):=he.to (bR.alloc lR _)
 obtain⟨tp,p,hv⟩:=he'.range
 have HV:=hid hv
 clear hv he' he
 go_enter Tryz.func133,Tryz.ntmps133
 go_wp2_with (go_at_call 150;refine(So _ hmax H.out tp p _ HV.out).mono ?_;rintro e w1⟨v,t,q,rfl,hb⟩;obtain⟨hc,hf⟩:=FL hb)
 refine bodyPost_ret (v:= .tuple #[.agg #[.int .i64 0,.string ⟨#[]⟩,.int .i64 0,.int .i64 0],.int .i64 2]) (by simp[results,Tryz.results133,go_sem,hc]) rfl ⟨rfl,?_⟩
 have h0:Below w.heap.size w w1:=(bR.alloc lR _).trans (hb.mono (by simp))
 exact(((h0.setCell lR _).setCell lR _).setCell lR _).setCell lR _
end Go.Proofs.YtmnbheplkidfaaaGreatDoor.Tok
