/- Parsing: whole texts. (and what follows from it) -/
import Derived.Test.YtmnbheplkidfaaaGreatDoorPw11
set_option maxHeartbeats 16000000
set_option maxRecDepth 100000
namespace Go.Proofs.YtmnbheplkidfaaaGreatDoor
open Go.Lib (hid)
open Go.RowKit Go.Deep Go.Shelf
theorem PgVal.open13{B:Nat->Prop}{w:World}{g:Pg}{v:Value}(h:PgVal B w v g):∃da dn dc la ln lc aa an ac ta tn tc ua un uc ka kn kc,v= .agg #[.slice da dn dc,.int .i64 g.m.k,.string g.m.c,.string g.m.x,.slice la ln lc,.slice aa an ac,.int .i64 g.m.t.k,.int .i64 g.m.t.p,.string g.m.t.n,.int .i64 g.m.t.s,.slice ta tn tc,.slice ua un uc,.slice ka kn kc]:=by
 obtain⟨dv,lv,av,tl,tk,kv,rfl,hd,hp⟩:=h
 obtain⟨da,dn,dc,rfl,_⟩:=hd.open
 obtain⟨la,ln,lc,aa,an,ac,ta,tn,tc,ua,un,uc,ka,kn,kc,rfl,rfl,rfl,rfl,rfl⟩:=VP hp
 exact⟨_,_,_,_,_,_,_,_,_,_,_,_,_,_,_,_,_,_,rfl⟩
theorem lyPg:Lyer PgVal 13:=by
 refine⟨fun h hv=>hv.keep h,fun h hv=>hv.mono h,?_,?_⟩
 ·intro B w v x h
  obtain⟨da,dn,dc,la,ln,lc,aa,an,ac,ta,tn,tc,ua,un,uc,ka,kn,kc,rfl⟩:=PgVal.open13 h
  rfl
 ·intro B w v x h u hu
  obtain⟨da,dn,dc,la,ln,lc,aa,an,ac,ta,tn,tc,ua,un,uc,ka,kn,kc,rfl⟩:=PgVal.open13 h
  simp only[cl,Value.cells,List.mem_cons,List.not_mem_nil,or_false] at hu
  rcases hu with rfl|rfl|rfl|rfl|rfl|rfl|rfl|rfl|rfl|rfl|rfl|rfl|rfl <;> rfl
def tkOf(x:Tok.Item):Tk:=⟨x.k,x.t,x.v,x.a⟩
abbrev Qz(x:Tk):List Value:=[.int .i64 x.k,.string x.t,.int .i64 x.v,.int .i64 x.a]
theorem MN:Yt 96 99 4:=UD Tryz.underlying96 (z:= .agg #[.int .i64 0,.string ⟨#[]⟩,.int .i64 0,.int .i64 0]) (bytes:=40) (by kernel_rfl) (by decide) rfl (by decide)
theorem Yl{W:World}{base:Nat}{el:TypeId}{v:Value}{I:List Tok.Item}(h:W.ownsRow base el 4 v I.length (Tok.rowOf I)):GRow el 4 base W v ((I.map tkOf).map Qz):=by
 have e:((I.map tkOf).map Qz).flatten=Tok.rowOf I:=by
  unfold Tok.rowOf
  rw[List.flatMap_def,List.map_map]
  congr 1
 refine⟨by rw[List.length_map,List.length_map,e];exact h,fun x hx=>?_⟩
 obtain⟨y,_,rfl⟩:=List.mem_map.1 hx
 rfl
theorem XX{W:World}{base:Nat}{E:Int}{v:Value}{ts:List Tk}(h:GRow 99 4 base W v (ts.map Qz++[Qz (ZY E)]))(hz:∀x∈ts,x.t.size<=maxLen)(hl:ts.length<=1000000):
 ∃g cap,v= .slice (some ⟨g,0,none⟩) (ts.length+1) cap/\base<=g/\g<W.heap.size/\PaIs W.heap.size g E ts (W.alloc (.cells #[v] 101)):=by
 rcases h.parts with⟨_,e⟩|⟨g,cap,rfl,h1,h2,h3,_⟩
 ·simp at e
 ·have hlen:(ts.map Qz++[Qz (ZY E)]).length=ts.length+1:=by simp
  rw[hlen] at h3 |-
  refine⟨g,cap,rfl,h1,h2,0,cap,World.alloc_heap_new _ _,by rw[World.size_alloc];omega,by omega,h3,hl,fun j x hj=>?_⟩
  have hes:(ts.map Qz++[Qz (ZY E)])[j]? =some (Qz x):=by
   rw[show[Qz (ZY E)]=[ZY E].map Qz from rfl,<-List.map_append,List.getElem?_map,hj];rfl
  have hsz:x.t.size<=maxLen:=by
   have:=List.mem_of_getElem? hj
   rcases List.mem_append.1 this with hx|hx
   ·exact hz x hx
   ·rw[mS hx];exact Nat.zero_le _
  have hc:∀i u,(Qz x)[i]? =some u->(W.alloc (.cells #[.slice (some ⟨g,0,none⟩) (ts.length+1) cap] 101)).cell? ⟨g,0+j*4+i,none⟩=some u:=fun i u hu=>by
   obtain⟨g',cap',e,hc⟩:=h.cell hes hu
   rw[hlen] at e
   simp only[Value.slice.injEq,Option.some.injEq,Addr.mk.injEq,and_true,true_and] at e
   rw[<-e.1] at hc
   rw[Nat.zero_add]
   exact(((Below.refl _ W).alloc lR _).cell (p:=⟨g,_,none⟩) h2).trans hc
  exact⟨hsz,hc 0 _ rfl,hc 1 _ rfl,hc 2 _ rfl,hc 3 _ rfl⟩
def pfin{α:Type}(F:List Tk->PR α)(big:α->Bool)(E:Int)(ts:List Tk):α ⊕ (Int×Int):=match F ts with
 | .bad er r=> .inr (er,posE E r)
 | .ok x r=>if r=[] then (if big x=true then .inr (2,E) else .inl x) else .inr (1,posE E r)
def WRes{α:Type}(w:World)(r:α ⊕ (Int×Int))(G:Nat->World->α->Value->Prop)(zero:Value)(e:Ending)(w':World):Prop:=match r with
 | .inl x=>(∃v,e= .returned (.tuple #[v,.agg #[.int .i64 0,.int .i64 0]])/\G w.heap.size w' x v)/\Below w.heap.size w w'
 | .inr (er,p)=>e= .returned (.tuple #[zero,.agg #[.int .i64 er,.int .i64 p]])/\Below w.heap.size w w'
def Wu(s:ByteArray)(I:List Tok.Item)(w:World):Prop:=∀W,Below w.heap.size w W->Calls Tryz.prog 46 #[.string s] W fun e W'=>∃v,e= .returned (.tuple #[v,.agg #[.int .i64 0,.int .i64 0]])/\W'.ownsRow W.heap.size 99 4 v I.length (Tok.rowOf I)/\Below W.heap.size W W'
def GY(s:ByteArray)(fe fp:Int)(w:World):Prop:=∀W,Below w.heap.size w W->Calls Tryz.prog 46 #[.string s] W fun e W'=>e= .returned (.tuple #[.slice none 0 0,.agg #[.int .i64 fe,.int .i64 fp]])/\Below W.heap.size W W'
theorem _root_.Go.RowKit.Below.setX{B:Nat}{w w':World}(h:Below B w w'){X:Nat}(hX:B<=X)(i:Nat)(v:Value):Below B w (w'.setCell ⟨X,i,none⟩ v):=h.setCell (p:=⟨X,i,none⟩) hX v
theorem Ze{w W:World}{T F:TypeId}{cs:Array Value}{a b:Value}(y1:W.heap[w.heap.size]? =some (.cells cs T (0,0)))(y2:W.heap[w.heap.size+1]? =some (.cells #[a,b] F (0,0)))(h:Below w.heap.size w W)(e p:Int):
 ∃W',(W.setCell ⟨w.heap.size+1,0,none⟩ (.int .i64 e)).setCell ⟨w.heap.size+1,1,none⟩ (.int .i64 p)=W'/\W'.heap[w.heap.size]? =some (.cells cs T (0,0))/\W'.heap[w.heap.size+1]? =some (.cells #[.int .i64 e,.int .i64 p] F (0,0))/\Below w.heap.size w W':=by
 refine⟨_,rfl,?_,Qd (Qd y2 0 _) 1 _,(h.setX (Nat.le_succ _) 0 _).setX (Nat.le_succ _) 1 _⟩
 rw[oth1 _ _ _ (by omega),oth1 _ _ _ (by omega)];exact y1
theorem Xs(w:World)(cs:Array Value)(T F:TypeId):∃W2,Hid ((w.alloc (.cells cs T)).alloc (.cells #[.int .i64 0,.int .i64 0] F)=W2)/\Below w.heap.size w W2/\W2.heap.size=w.heap.size+2/\Hid (W2.heap[w.heap.size]? =some (.cells cs T (0,0)))/\Hid (W2.heap[w.heap.size+1]? =some (.cells #[.int .i64 0,.int .i64 0] F (0,0))):=by
 refine⟨_,hid rfl,(bR.alloc lR _).alloc (by simp) _,by simp,hid ((Below.heap_alloc _ _ _ (by simp)).trans (World.alloc_heap_new _ _)),hid ?_⟩
 have:=World.alloc_heap_new (w.alloc (.cells cs T)) (.cells #[.int .i64 0,.int .i64 0] F)
 rwa[World.size_alloc] at this
theorem Rt{w W:World}{T F:TypeId}{v0 v1 v2 v3 v4 v5 a b:Value}(y1:W.heap[w.heap.size]? =some (.cells #[v0,v1,v2,v3,v4,v5] T (0,0)))(y2:W.heap[w.heap.size+1]? =some (.cells #[a,b] F (0,0)))(h:Below w.heap.size w W)(u0 u1 u2 u3 u4 u5:Value)(e p:Int):
 ∃W',(((put6 W w.heap.size u0 u1 u2 u3 u4 u5).setCell ⟨w.heap.size+1,0,none⟩ (.int .i64 e)).setCell ⟨w.heap.size+1,1,none⟩ (.int .i64 p))=W'/\W'.heap[w.heap.size]? =some (.cells #[u0,u1,u2,u3,u4,u5] T (0,0))/\W'.heap[w.heap.size+1]? =some (.cells #[.int .i64 e,.int .i64 p] F (0,0))/\Below w.heap.size w W'/\(∀k,k≠w.heap.size->k≠w.heap.size+1->W'.heap[k]? =W.heap[k]?)/\W'.heap.size=W.heap.size:=by
 refine⟨_,rfl,?_,?_,?_,fun k h1 h2=>?_,by simp[World.setCell]⟩
 ·rw[oth1 _ _ _ (by omega),oth1 _ _ _ (by omega)];exact ZB y1 u0 u1 u2 u3 u4 u5
 ·exact Qd (Qd ((ZS (show w.heap.size+1≠w.heap.size by omega) u0 u1 u2 u3 u4 u5).trans y2) 0 _) 1 _
 ·exact(((((((h.setX lR 0 u0).setX lR 1 u1).setX lR 2 u2).setX lR 3 u3).setX lR 4 u4).setX lR 5 u5).setX (Nat.le_succ _) 0 _).setX (Nat.le_succ _) 1 _
 ·rw[oth1 _ _ _ h2,oth1 _ _ _ h2];exact ZS h1 u0 u1 u2 u3 u4 u5
theorem Ff{w W:World}{T F:TypeId}{v0 v1 v2 v3 v4 v5 v6 v7 v8 v9 v10 v11 a b:Value}(y1:W.heap[w.heap.size]? =some (.cells #[v0,v1,v2,v3,v4,v5,v6,v7,v8,v9,v10,v11] T (0,0)))(y2:W.heap[w.heap.size+1]? =some (.cells #[a,b] F (0,0)))(h:Below w.heap.size w W)(u0 u1 u2 u3 u4 u5 u6 u7 u8 u9 u10 u11:Value)(e p:Int):
 ∃W',(((put12 W w.heap.size u0 u1 u2 u3 u4 u5 u6 u7 u8 u9 u10 u11).setCell ⟨w.heap.size+1,0,none⟩ (.int .i64 e)).setCell ⟨w.heap.size+1,1,none⟩ (.int .i64 p))=W'/\W'.heap[w.heap.size]? =some (.cells #[u0,u1,u2,u3,u4,u5,u6,u7,u8,u9,u10,u11] T (0,0))/\W'.heap[w.heap.size+1]? =some (.cells #[.int .i64 e,.int .i64 p] F (0,0))/\Below w.heap.size w W'/\(∀k,k≠w.heap.size->k≠w.heap.size+1->W'.heap[k]? =W.heap[k]?)/\W'.heap.size=W.heap.size:=by
 refine⟨_,rfl,?_,?_,?_,fun k h1 h2=>?_,by simp[World.setCell]⟩
 ·rw[oth1 _ _ _ (by omega),oth1 _ _ _ (by omega)];exact JZ y1 u0 u1 u2 u3 u4 u5 u6 u7 u8 u9 u10 u11
 ·exact Qd (Qd ((QN (show w.heap.size+1≠w.heap.size by omega) u0 u1 u2 u3 u4 u5 u6 u7 u8 u9 u10 u11).trans y2) 0 _) 1 _
 ·exact(((((((((((((h.setX lR 0 u0).setX lR 1 u1).setX lR 2 u2).setX lR 3 u3).setX lR 4 u4).setX lR 5 u5).setX lR 6 u6).setX lR 7 u7).setX lR 8 u8).setX lR 9 u9).setX lR 10 u10).setX lR 11 u11).setX (Nat.le_succ _) 0 _).setX (Nat.le_succ _) 1 _
 ·rw[oth1 _ _ _ h2,oth1 _ _ _ h2];exact QN h1 u0 u1 u2 u3 u4 u5 u6 u7 u8 u9 u10 u11
theorem Fe{w W:World}{T F:TypeId}{v0 v1 v2 v3 v4 v5 v6 v7 v8 v9 v10 v11 v12 a b:Value}(y1:W.heap[w.heap.size]? =some (.cells #[v0,v1,v2,v3,v4,v5,v6,v7,v8,v9,v10,v11,v12] T (0,0)))(y2:W.heap[w.heap.size+1]? =some (.cells #[a,b] F (0,0)))(h:Below w.heap.size w W)(u0 u1 u2 u3 u4 u5 u6 u7 u8 u9 u10 u11 u12:Value)(e p:Int):
 ∃W',(((put13 W w.heap.size u0 u1 u2 u3 u4 u5 u6 u7 u8 u9 u10 u11 u12).setCell ⟨w.heap.size+1,0,none⟩ (.int .i64 e)).setCell ⟨w.heap.size+1,1,none⟩ (.int .i64 p))=W'/\W'.heap[w.heap.size]? =some (.cells #[u0,u1,u2,u3,u4,u5,u6,u7,u8,u9,u10,u11,u12] T (0,0))/\W'.heap[w.heap.size+1]? =some (.cells #[.int .i64 e,.int .i64 p] F (0,0))/\Below w.heap.size w W'/\(∀k,k≠w.heap.size->k≠w.heap.size+1->W'.heap[k]? =W.heap[k]?)/\W'.heap.size=W.heap.size:=by
 refine⟨_,rfl,?_,?_,?_,fun k h1 h2=>?_,by simp[World.setCell]⟩
 ·rw[oth1 _ _ _ (by omega),oth1 _ _ _ (by omega)];exact UC y1 u0 u1 u2 u3 u4 u5 u6 u7 u8 u9 u10 u11 u12
 ·exact Qd (Qd ((ZH (show w.heap.size+1≠w.heap.size by omega) u0 u1 u2 u3 u4 u5 u6 u7 u8 u9 u10 u11 u12).trans y2) 0 _) 1 _
 ·exact((((((((((((((h.setX lR 0 u0).setX lR 1 u1).setX lR 2 u2).setX lR 3 u3).setX lR 4 u4).setX lR 5 u5).setX lR 6 u6).setX lR 7 u7).setX lR 8 u8).setX lR 9 u9).setX lR 10 u10).setX lR 11 u11).setX lR 12 u12).setX (Nat.le_succ _) 0 _).setX (Nat.le_succ _) 1 _
 ·rw[oth1 _ _ _ h2,oth1 _ _ _ h2];exact ZH h1 u0 u1 u2 u3 u4 u5 u6 u7 u8 u9 u10 u11 u12
theorem FQ(s:ByteArray)(fe fp:Int)(hfe:fe≠0)(w:World)(hT:GY s fe fp w)(fpa ft:Value){α:Type}(G:Nat->World->α->Value->Prop):
 Calls Tryz.prog 35 #[.string s,fpa,ft] w (WRes w (.inr (fe,fp)) G (.agg z6)):=by
 obtain⟨W2,HW2,hb2,hz2,HX1,HX2⟩:=Xs w #[.int .i64 0,.int .i64 0,.string ⟨#[]⟩,.int .i64 0,.slice none 0 0,.slice none 0 0] 28 36
 have HB2:=hid hb2
 have HT:=hid (hT W2 hb2)
 have hne:(fe != 0)=true:=by simpa using hfe
 have hne2:(fe==0)=false:=by simpa using hfe
 have hmf:∀(fn:Fn) (first cap:Array Value) (w:World),(Instr.makeFunc fn first cap).run Tryz.prog w= .ok (.func fn first cap) w:=fun _ _ _ _=>rfl
 clear hb2 hz2 hT
 go_enter_defers Tryz.func35,Tryz.ntmps35
 go_upto_region 1 with fail
 rw[HW2.out]
 go_wp2_with (go_at_call 46;refine HT.out.mono ?_;rintro e w3⟨rfl,hb3⟩;have HB3:=hid hb3;obtain⟨⟨q0,q1,q2,q3,q4,q5⟩,z0,z1,z2,z3,z4,z5⟩:=c6 ((hb3.block _ (gl HX1.out)).trans HX1.out);have x3:=(hb3.block _ (gl HX2.out)).trans HX2.out;have g0:w3.cell? ⟨w.heap.size+1,0,none⟩=some iZ:=(by simp[World.cell?,x3]);have g1:w3.cell? ⟨w.heap.size+1,1,none⟩=some iZ:=(by simp[World.cell?,x3]);have f0:=Qc x3 0;have f1:=Qc x3 1;have HX3:=hid x3;clear hb3 x3)
 obtain⟨W4,hW4,y1,y2,hb4⟩:=Ze ((HB3.out.block _ (gl HX1.out)).trans HX1.out) HX3.out (HB2.out.trans (HB3.out.mono HB2.out.size)) fe fp
 rw[hW4]
 clear hW4 q0 q1 q2 q3 q4 q5 z0 z1 z2 z3 z4 z5 g0 g1 f0 f1
 obtain⟨⟨q0,q1,q2,q3,q4,q5⟩,z0,z1,z2,z3,z4,z5⟩:=c6 y1
 have g0:W4.cell? ⟨w.heap.size+1,0,none⟩=some (.int .i64 fe):=by simp[World.cell?,y2]
 have g1:W4.cell? ⟨w.heap.size+1,1,none⟩=some (.int .i64 fp):=by simp[World.cell?,y2]
 have f0:=Qc y2 0
 have f1:=Qc y2 1
 have HB4:=hid hb4
 have HY1:=hid y1
 have HY2:=hid y2
 clear y1 y2 hb4
 go_region
 obtain⟨Wd,hWd,y4,y3,hbl,-⟩:=Rt HY1.out HY2.out HB4.out iZ iZ tE iZ sN sN fe fp
 rw[hWd]
 obtain⟨W5,hW5⟩:∃W5,Wd.drew=W5:=⟨_,rfl⟩
 have hdrew:W5.heap=Wd.heap:=by rw[<-hW5];rfl
 rw[<-hdrew] at y4 y3
 have HBL:Hid (Below w.heap.size w W5):=hid (by rw[<-hW5];exact hbl.drew)
 rw[hW5]
 clear hW5 hWd hbl q0 q1 q2 q3 q4 q5 z0 z1 z2 z3 z4 z5 g0 g1 f0 f1
 obtain⟨⟨q0,q1,q2,q3,q4,q5⟩,-⟩:=c6 y4
 clear hdrew
 have g0:W5.cell? ⟨w.heap.size+1,0,none⟩=some (.int .i64 fe):=by simp[World.cell?,y3]
 have g1:W5.cell? ⟨w.heap.size+1,1,none⟩=some (.int .i64 fp):=by simp[World.cell?,y3]
 clear y3 y4
 go_wp2_with fail
 exact⟨.tuple #[.agg z6,.agg #[.int .i64 fe,.int .i64 fp]],by simp[results,Tryz.results35,go_sem,q0,q1,q2,q3,q4,q5,g0,g1],rfl,HBL.out⟩
theorem RE(s:ByteArray)(I:List Tok.Item)(B:Nat)(w:World)(he:Env B w)(hT:Wu s I w)(hz:∀x∈I,x.t.size<=maxLen)(hlen:I.length<=999999)(fp ft:Nat)(egp:∀args w,(callFunc fp args).run Tryz.prog w= .ok (.enter fp args) w)(egt:∀args w,(callFunc ft args).run Tryz.prog w= .ok (.enter ft args) w)
 (F:List Tk->PR Ty) (big:Ty->Bool) (hp:∀(P tb:Nat) (W:World),B<=P->Env B W->PaIs P tb (s.size:Int) (I.map tkOf) W->Calls Tryz.prog fp #[.pointer (some ⟨P,0,none⟩)] W (Parsed P tb (s.size:Int) W (F (I.map tkOf)) (GTy W.heap.size)))
 (hbig:∀x r,F (I.map tkOf)= .ok x r->∀(b:Nat) (v:Value) (W:World),GTy b W x v->Calls Tryz.prog ft #[v] W fun e w'=>e= .returned (.bool (big x))/\Below W.heap.size W w'):
 Calls Tryz.prog 35 #[.string s,.func (.func fp) #[] #[],.func (.func ft) #[] #[]] w (WRes w (pfin F big (s.size:Int) (I.map tkOf)) GTy (.agg z6)):=by
 obtain⟨W2,HW2,hb2,hz2,HX1,HX2⟩:=Xs w #[.int .i64 0,.int .i64 0,.string ⟨#[]⟩,.int .i64 0,.slice none 0 0,.slice none 0 0] 28 36
 have HB2:=hid hb2
 have HT:=hid (hT W2 hb2)
 have HE:=hid he
 obtain⟨ts,hts⟩:∃ts,I.map tkOf=ts:=⟨_,rfl⟩
 replace hz:∀x∈ts,x.t.size<=maxLen:=fun x hx=>by rw[<-hts] at hx;obtain⟨y,hy,rfl⟩:=List.mem_map.1 hx;exact hz y hy
 replace hlen:ts.length<=999999:=by rw[<-hts,List.length_map];exact hlen
 rw[hts] at hp hbig |-
 have HTS:=hid hts
 clear hts
 have HP:=hid hp
 have HBG:=hid hbig
 have HZ:=hid hz
 have HZ2:=hid hz2
 have HLN:=hid hlen
 have hmf:∀(fn:Fn) (first cap:Array Value) (w:World),(Instr.makeFunc fn first cap).run Tryz.prog w= .ok (.func fn first cap) w:=fun _ _ _ _=>rfl
 clear hb2 hT he hp hbig hz hz2 hlen
 go_enter_defers Tryz.func35,Tryz.ntmps35
 go_upto_region 1 with fail
 rw[HW2.out]
 go_upto_region 5 with(go_at_call 46;refine HT.out.mono ?_;rintro e w3⟨v,rfl,hown,hb3⟩;have HROW:Hid (GRow _ _ _ _ v (ts.map Qz)):=hid (by have h:=Yl hown;rw[HTS.out] at h;exact h);have HB3:=hid hb3;have x3:=(hb3.block _ (gl HX2.out)).trans HX2.out;have g0:w3.cell? ⟨w.heap.size+1,0,none⟩=some iZ:=(by simp[World.cell?,x3]);have g1:w3.cell? ⟨w.heap.size+1,1,none⟩=some iZ:=(by simp[World.cell?,x3]);have f0:=Qc x3 0;have f1:=Qc x3 1;have HX3:=hid x3;clear hb3 x3 hown)
 obtain⟨W4,hW4,y1,y2,hb4⟩:=Ze ((HB3.out.block _ (gl HX1.out)).trans HX1.out) HX3.out (HB2.out.trans (HB3.out.mono HB2.out.size)) 0 0
 have hown:∀k,v.ownBlock=some k->W2.heap.size<=k/\k<w3.heap.size:=fun k hk=>HROW.out.lt k hk
 have hz2:=HZ2.out
 have hz4:W4.heap.size=w3.heap.size:=by rw[<-hW4];simp[World.setCell]
 have hrow4:GRow 99 4 W2.heap.size W4 v (ts.map Qz):=HROW.out.kept (fun k hk=>by rw[<-hW4,oth1 _ _ _ (by have:=hown k hk;omega),oth1 _ _ _ (by have:=hown k hk;omega)])
 rw[hW4]
 have hz34:W2.heap.size<=w3.heap.size:=HB3.out.size
 have HR4:=hid hrow4
 have HB4:=hid hb4
 have HY1:=hid y1
 have HY2:=hid y2
 have HOWN:=hid hown
 have HZ4:=hid hz4
 have HZ34:=hid hz34
 clear hW4 g0 g1 f0 f1 y1 y2 hb4 hrow4 hown hz2 hz4 hz34
 obtain⟨va,vn,vc,rfl⟩:=HR4.out.slice
 obtain⟨E,hE⟩:∃E:Int,(s.size:Int)=E:=⟨_,rfl⟩
 rw[hE] at HP |-
 have HEQ:=hid hE
 obtain⟨nb,hnb⟩:∃nb,W4.heap.size=nb:=⟨_,rfl⟩
 have xn:(W4.alloc (.cells (Qz (ZY E)).toArray 99)).heap[nb]? =some (.cells (Qz (ZY E)).toArray 99 (0,0)):=by rw[<-hnb];exact World.alloc_heap_new _ _
 have HXN:=hid xn
 have HNB:=hid hnb
 have hgrow:=HR4.out.alloc (.cells (Qz (ZY E)).toArray 99)
 have HGR:=hid hgrow
 clear xn hnb hgrow hE
 go_wp2_with (rw[HEQ.out,HNB.out];at_builtin;refine Ji MN rfl _ _ rfl rfl HGR.out (some ⟨nb,0,none⟩) 1 1 [Qz (ZY E)] rfl rfl ?_ (JY HXN.out) ?_ ?_ ?_ ?_)
 ·intro e he;rw[mS he];rfl
 ·intro e he u hu
  rw[mS he] at hu
  simp only[Qz,List.mem_cons,List.not_mem_nil,or_false] at hu
  rcases hu with rfl|rfl|rfl|rfl <;> rfl
 ·have:=HLN.out;simp only[List.length_map,List.length_singleton];omega
 ·rw[World.size_alloc];have:=HZ4.out;have:=HZ34.out;omega
 intro ga gn gc w6 hr6 hg6 hq6
 have hgs:=hg6.size
 rw[World.size_alloc] at hgs
 have hz2:=HZ2.out
 have hz34:=HZ34.out
 have hz4:=HZ4.out
 have hown:=HOWN.out
 obtain⟨tb,cap,hva,htb1,htb2,hpais⟩:=XX (E:=E) hr6 HZ.out (by have:=HLN.out;omega)
 have hb6:Below (w.heap.size+2) W4 w6:=((Below.refl _ W4).alloc (by omega) (.cells (Qz (ZY E)).toArray 99)).grown hg6 (by rw[World.size_alloc];omega) (fun k hk=>by have:=hown k hk;omega)
 obtain⟨W7,hW7⟩:∃W7,w6.alloc (.cells #[.slice ga gn gc] 101)=W7:=⟨_,rfl⟩
 obtain⟨P,hPe⟩:∃P,w6.heap.size=P:=⟨_,rfl⟩
 rw[hW7,hPe] at hpais
 have hb7:Below (w.heap.size+2) W4 W7:=by rw[<-hW7];exact hb6.alloc (by omega) _
 have hPl:w.heap.size+2<=P:=by omega
 have hP7:P<W7.heap.size:=hpais.lt
 have y17:=(hb7.block w.heap.size (by omega)).trans HY1.out
 have y27:=(hb7.block (w.heap.size+1) (by omega)).trans HY2.out
 have hbw7:Below w.heap.size w W7:=HB4.out.trans (hb7.mono (by omega))
 have HPA:=hid hpais
 have HY17:=hid y17
 have HY27:=hid y27
 have HBW7:=hid hbw7
 have HW7:=hid hW7
 have HPE:=hid hPe
 have hBP:B<=P:=by have:=HE.out.size;omega
 have HE7:=hid (HE.out.to hbw7)
 have HFP:=hid (HP.out P tb W7 hBP HE7.out hpais)
 clear hr6 hg6 hq6 hgs hva htb1 htb2 hpais hb6 hb7 y17 y27 hbw7 hW7 hPe hz2 hz34 hz4 hown
 cases h1:F ts with
 |bad er r=>
  have HE5:Hid (pfin F big (s.size:Int) ts= .inr (er,posE E r)):=hid (by unfold pfin;rw[h1,HEQ.out])
  rw[h1] at HFP
  go_wp2_with fail
  rw[HW7.out,HPE.out]
  refine HFP.out.mono ?_
  rintro e w8⟨rfl,hb8⟩
  (try dsimp only)
  refine leaves_cons (f:=67) (args:=#[.pointer (some ⟨w.heap.size+1,0,none⟩)]) (by simp) (by simp[go_sem]) ?_
  have xf:=((hb8.block (w.heap.size+1) (by omega) (by omega)).trans HY27.out)
  have xt:=((hb8.block w.heap.size (by have:=HPE.out;omega) (by omega)).trans HY17.out)
  refine(ZM (w.heap.size+1) er (posE E r) 0 0 [] w8 xf).mono ?_
  rintro e u' w''⟨rfl,rfl,rfl⟩
  obtain⟨W',hW',yt',yf',hbl2⟩:=Ze xt xf (HBW7.out.trans (hb8.below (by omega) HBW7.out.size)) er (posE E r)
  rw[hW']
  obtain⟨⟨y0,y1,y2,y3,y4,y5⟩,-⟩:=c6 yt'
  have g0:W'.cell? ⟨w.heap.size+1,0,none⟩=some (.int .i64 er):=by simp[World.cell?,yf']
  have g1:W'.cell? ⟨w.heap.size+1,1,none⟩=some (.int .i64 (posE E r)):=by simp[World.cell?,yf']
  clear hW' xf xt yf' yt'
  refine⟨.tuple #[.agg z6,.agg #[.int .i64 er,.int .i64 (posE E r)]],by simp[results,Tryz.results35,go_sem,y0,y1,y2,y3,y4,y5,g0,g1],?_⟩
  rw[HE5.out];exact⟨rfl,hbl2⟩
 |ok x r=>
  rw[h1] at HFP
  have HB2G:=hid (fun b v W hg=>HBG.out x r h1 b v W hg)
  go_wp2_with fail
  rw[HW7.out,HPE.out]
  refine HFP.out.mono ?_
  rintro e w8⟨⟨v,rfl,hg⟩,hp8,hb8⟩
  have hg0:=hg
  obtain⟨la,ln,lc,ka,kn,kc,rfl⟩:=TyVal.open6 hg
  have HG8:=hid hg0
  have HP8:=hid hp8
  have HB8:=hid hb8
  clear hg hg0 hp8 hb8
  go_upto_region 7 with fail
  obtain⟨W9,hW9⟩:∃W9,w8.alloc (.cells (cT x la ln lc ka kn kc) 28)=W9:=⟨_,rfl⟩
  obtain⟨Xt,hXt⟩:∃Xt,w8.heap.size=Xt:=⟨_,rfl⟩
  have hb9:=(made hW9).1
  have x9:W9.heap[Xt]? =some (.cells (cT x la ln lc ka kn kc) 28 (0,0)):=by rw[<-hW9,<-hXt];exact World.alloc_heap_new _ _
  have hz9:=HB8.out.size
  have hXP:Xt≠P:=by omega
  have hX7:W7.heap.size<=Xt:=by omega
  have HP9:=hid (HP8.out.to hb9)
  have HB9:Hid (But P W7 W9):=hid (HB8.out.to hb9)
  have HX9:=hid x9
  have HG9:=hid (show GTy W7.heap.size W9 x _ from lyTy.mono (fun k hk=>⟨hk.1,lL hk.2 hb9.size⟩) (lyTy.keep (w':=W9) (fun k o hk ho _=>(hb9.block k hk.2).trans ho) HG8.out))
  rw[hW9,hXt]
  clear hW9 hXt hb9 x9 hz9 HG8 HP8 HB8
  by_cases hr:r=[]
  case neg=>
   go_wp2_with (go_at_call 48;refine(JW P tb E _ _ HP9.out).mono ?_;rw[if_neg hr];rintro e w10⟨rfl,hb10⟩;have HB10:=hid (HB9.out.trans hb10);clear hb10)
   have HE5:Hid (pfin F big (s.size:Int) ts= .inr (1,posE E r)):=hid (by unfold pfin;rw[h1,HEQ.out];show(if r=[] then _ else _)=_;rw[if_neg hr])
   refine leaves_cons (f:=67) (args:=#[.pointer (some ⟨w.heap.size+1,0,none⟩)]) (by simp) (by simp[go_sem]) ?_
   have xf:=((HB10.out.block (w.heap.size+1) (by omega) (by omega)).trans HY27.out)
   have xt:=((HB10.out.block w.heap.size (by omega) (by omega)).trans HY17.out)
   refine(ZM (w.heap.size+1) 1 (posE E r) 0 0 [] w10 xf).mono ?_
   rintro e u' w''⟨rfl,rfl,rfl⟩
   obtain⟨W',hW',yt',yf',hbl2⟩:=Ze xt xf (HBW7.out.trans (HB10.out.below (by omega) HBW7.out.size)) 1 (posE E r)
   rw[hW']
   obtain⟨⟨y0,y1,y2,y3,y4,y5⟩,-⟩:=c6 yt'
   have g0:W'.cell? ⟨w.heap.size+1,0,none⟩=some (.int .i64 1):=by simp[World.cell?,yf']
   have g1:W'.cell? ⟨w.heap.size+1,1,none⟩=some (.int .i64 (posE E r)):=by simp[World.cell?,yf']
   clear hW' xf xt yf' yt'
   refine⟨.tuple #[.agg z6,.agg #[.int .i64 1,.int .i64 (posE E r)]],by simp[results,Tryz.results35,go_sem,y0,y1,y2,y3,y4,y5,g0,g1],?_⟩
   rw[HE5.out];exact⟨rfl,hbl2⟩
  case pos=>
   subst hr
   go_upto_region 8 with(go_at_call 48;refine(JW P tb E _ _ HP9.out).mono ?_;rw[if_pos rfl];rintro e w10⟨⟨_,rfl,_⟩,hp10,hb10⟩;have HP10:=hid hp10;have HG10:=hid (show GTy W7.heap.size w10 x _ from lyTy.mono (fun k hk=>⟨hk.1,lL hk.2 hb10.size⟩) (lyTy.keep (hb10.keeps (fun k hk=>⟨hk.2,by have:=hk.1;omega⟩)) HG9.out));have HX10:=hid ((hb10.block Xt (gl HX9.out) hXP).trans HX9.out);have HB10:=hid (HB9.out.trans hb10);clear hb10 hp10)
   obtain⟨⟨q0,q1,q2,q3,q4,q5⟩,-⟩:=c6 HX10.out
   have HBC:=hid (HB2G.out _ _ w10 HG10.out)
   cases hbg:big x with
   |true=>
    rw[hbg] at HBC
    go_wp2_with fail
    refine HBC.out.mono ?_
    rintro e w11⟨rfl,hb11⟩
    have HB11:=hid hb11
    have HP11:=hid (HP10.out.to hb11)
    clear hb11
    go_wp2_with (go_at_call 49;refine(Zo P tb E [] 2 _ HP11.out).mono ?_;rintro e w12⟨rfl,hb12⟩;have HB12:=hid ((HB10.out.to HB11.out).trans hb12);clear hb12)
    have HE5:Hid (pfin F big (s.size:Int) ts= .inr (2,E)):=hid (by unfold pfin;rw[h1,HEQ.out];show(if ([]:List Tk)=[] then _ else _)=_;rw[if_pos rfl,if_pos hbg])
    refine leaves_cons (f:=67) (args:=#[.pointer (some ⟨w.heap.size+1,0,none⟩)]) (by simp) (by simp[go_sem]) ?_
    have xf:=((HB12.out.block (w.heap.size+1) (by omega) (by omega)).trans HY27.out)
    have xt:=((HB12.out.block w.heap.size (by omega) (by omega)).trans HY17.out)
    refine(ZM (w.heap.size+1) 2 E 0 0 [] w12 xf).mono ?_
    rintro e u' w''⟨rfl,rfl,rfl⟩
    obtain⟨W',hW',yt',yf',hbl2⟩:=Ze xt xf (HBW7.out.trans (HB12.out.below (by omega) HBW7.out.size)) 2 E
    rw[hW']
    obtain⟨⟨y0,y1,y2,y3,y4,y5⟩,-⟩:=c6 yt'
    have g0:W'.cell? ⟨w.heap.size+1,0,none⟩=some (.int .i64 2):=by simp[World.cell?,yf']
    have g1:W'.cell? ⟨w.heap.size+1,1,none⟩=some (.int .i64 E):=by simp[World.cell?,yf']
    clear hW' xf xt yf' yt'
    refine⟨.tuple #[.agg z6,.agg #[.int .i64 2,.int .i64 E]],by simp[results,Tryz.results35,go_sem,y0,y1,y2,y3,y4,y5,g0,g1],?_⟩
    rw[HE5.out];exact⟨rfl,hbl2⟩
   |false=>
    rw[hbg] at HBC
    go_wp2_with fail
    refine HBC.out.mono ?_
    rintro e w11⟨rfl,hb11⟩
    have HB11:=hid (HB10.out.to hb11)
    have x11:=(hb11.block Xt (gl HX10.out)).trans HX10.out
    have HG11:=hid (show GTy W7.heap.size w11 x _ from lyTy.mono (fun k hk=>⟨hk.1,lL hk.2 hb11.size⟩) (lyTy.keep (w':=w11) (fun k o hk ho _=>(hb11.block k hk.2).trans ho) HG10.out))
    have y1:=(HB11.out.block w.heap.size (by omega) (by omega)).trans HY17.out
    have y2:=(HB11.out.block (w.heap.size+1) (by omega) (by omega)).trans HY27.out
    clear hb11 q0 q1 q2 q3 q4 q5
    obtain⟨⟨q0,q1,q2,q3,q4,q5⟩,-⟩:=c6 x11
    obtain⟨⟨r0,r1,r2,r3,r4,r5⟩,z0,z1,z2,z3,z4,z5⟩:=c6 y1
    have g0:w11.cell? ⟨w.heap.size+1,0,none⟩=some iZ:=by simp[World.cell?,y2]
    have g1:w11.cell? ⟨w.heap.size+1,1,none⟩=some iZ:=by simp[World.cell?,y2]
    have f0:=Qc y2 0
    have f1:=Qc y2 1
    have HY1:=hid y1
    have HY2:=hid y2
    clear x11 y1 y2
    have HE5:Hid (pfin F big (s.size:Int) ts= .inl x):=hid (by unfold pfin;rw[h1];show(if ([]:List Tk)=[] then _ else _)=_;rw[if_pos rfl,if_neg (by rw[hbg];simp)])
    have hX1X:w.heap.size≠w.heap.size+1:=by omega
    clear h1
    go_wp2_with fail
    refine leaves_cons (f:=67) (args:=#[.pointer (some ⟨w.heap.size+1,0,none⟩)]) (by simp) (by simp[go_sem]) ?_
    refine(GR (w.heap.size+1) _).mono ?_
    rintro e u' w''⟨rfl,rfl,rfl⟩
    obtain⟨W',hW',v4,v3,hbl,v5,v6⟩:=Rt HY1.out HY2.out (HBW7.out.trans (HB11.out.below (by omega) HBW7.out.size)) (.int .i64 x.k) (.int .i64 x.p) (.string x.n) (.int .i64 x.s) (.slice la ln lc) (.slice ka kn kc) 0 0
    rw[hW']
    replace v5:Keeps (fun k=>W7.heap.size<=k/\k<w11.heap.size) w11 W':=fun k o hk ho _=>(v5 k (by have:=hk.1;omega) (by have:=hk.1;omega)).trans ho
    clear hW' q0 q1 q2 q3 q4 q5 r0 r1 r2 r3 r4 r5 z0 z1 z2 z3 z4 z5 g0 g1 f0 f1
    obtain⟨⟨y0,y1,y2,y3,y4,y5⟩,-⟩:=c6 v4
    have g0:W'.cell? ⟨w.heap.size+1,0,none⟩=some iZ:=by simp[World.cell?,v3]
    have g1:W'.cell? ⟨w.heap.size+1,1,none⟩=some iZ:=by simp[World.cell?,v3]
    clear v3 v4
    refine⟨.tuple #[.agg (cT x la ln lc ka kn kc),.agg #[.int .i64 0,.int .i64 0]],by simp[results,Tryz.results35,go_sem,y0,y1,y2,y3,y4,y5,g0,g1],?_⟩
    rw[HE5.out]
    exact⟨⟨_,rfl,lyTy.mono (fun k hk=>⟨lT HBW7.out.size hk.1,by rw[v6];exact hk.2⟩) (lyTy.keep v5 HG11.out)⟩,hbl⟩
theorem FT(s:ByteArray)(fe fp:Int)(hfe:fe≠0)(w:World)(hT:GY s fe fp w)(fpa ft:Value){α:Type}(G:Nat->World->α->Value->Prop):
 Calls Tryz.prog 30 #[.string s,fpa,ft] w (WRes w (.inr (fe,fp)) G (.agg (cN 0 ⟨#[]⟩ ⟨#[]⟩ sN sN sN))):=by
 obtain⟨W2,HW2,hb2,hz2,HX1,HX2⟩:=Xs w (cN 0 ⟨#[]⟩ ⟨#[]⟩ sN sN sN) 31 36
 have HB2:=hid hb2
 have HT:=hid (hT W2 hb2)
 have hne:(fe != 0)=true:=by simpa using hfe
 have hne2:(fe==0)=false:=by simpa using hfe
 have hmf:∀(fn:Fn) (first cap:Array Value) (w:World),(Instr.makeFunc fn first cap).run Tryz.prog w= .ok (.func fn first cap) w:=fun _ _ _ _=>rfl
 clear hb2 hz2 hT
 go_enter_defers Tryz.func30,Tryz.ntmps30
 go_upto_region 1 with fail
 rw[HW2.out]
 go_wp2_with (go_at_call 46;refine HT.out.mono ?_;rintro e w3⟨rfl,hb3⟩;have HB3:=hid hb3;obtain⟨⟨q0,q1,q2,q3,q4,q5,q6,q7,q8,q9,q10,q11⟩,z0,z1,z2,z3,z4,z5,z6,z7,z8,z9,z10,z11⟩:=c12p ((hb3.block _ (gl HX1.out)).trans HX1.out);have x3:=(hb3.block _ (gl HX2.out)).trans HX2.out;have g0:w3.cell? ⟨w.heap.size+1,0,none⟩=some iZ:=(by simp[World.cell?,x3]);have g1:w3.cell? ⟨w.heap.size+1,1,none⟩=some iZ:=(by simp[World.cell?,x3]);have f0:=Qc x3 0;have f1:=Qc x3 1;have HX3:=hid x3;clear hb3 x3)
 obtain⟨W4,hW4,y1,y2,hb4⟩:=Ze ((HB3.out.block _ (gl HX1.out)).trans HX1.out) HX3.out (HB2.out.trans (HB3.out.mono HB2.out.size)) fe fp
 rw[hW4]
 clear hW4 q0 q1 q2 q3 q4 q5 q6 q7 q8 q9 q10 q11 z0 z1 z2 z3 z4 z5 z6 z7 z8 z9 z10 z11 g0 g1 f0 f1
 obtain⟨⟨q0,q1,q2,q3,q4,q5,q6,q7,q8,q9,q10,q11⟩,z0,z1,z2,z3,z4,z5,z6,z7,z8,z9,z10,z11⟩:=c12p y1
 have g0:W4.cell? ⟨w.heap.size+1,0,none⟩=some (.int .i64 fe):=by simp[World.cell?,y2]
 have g1:W4.cell? ⟨w.heap.size+1,1,none⟩=some (.int .i64 fp):=by simp[World.cell?,y2]
 have f0:=Qc y2 0
 have f1:=Qc y2 1
 have HB4:=hid hb4
 have HY1:=hid y1
 have HY2:=hid y2
 clear y1 y2 hb4
 go_region
 obtain⟨Wd,hWd,y4,y3,hbl,-⟩:=Ff HY1.out HY2.out HB4.out iZ tE tE sN sN iZ iZ tE iZ sN sN sN fe fp
 rw[hWd]
 obtain⟨W5,hW5⟩:∃W5,Wd.drew=W5:=⟨_,rfl⟩
 have hdrew:W5.heap=Wd.heap:=by rw[<-hW5];rfl
 rw[<-hdrew] at y4 y3
 have HBL:Hid (Below w.heap.size w W5):=hid (by rw[<-hW5];exact hbl.drew)
 rw[hW5]
 clear hW5 hWd hbl q0 q1 q2 q3 q4 q5 q6 q7 q8 q9 q10 q11 z0 z1 z2 z3 z4 z5 z6 z7 z8 z9 z10 z11 g0 g1 f0 f1
 obtain⟨⟨q0,q1,q2,q3,q4,q5,q6,q7,q8,q9,q10,q11⟩,-⟩:=c12p y4
 clear hdrew
 have g0:W5.cell? ⟨w.heap.size+1,0,none⟩=some (.int .i64 fe):=by simp[World.cell?,y3]
 have g1:W5.cell? ⟨w.heap.size+1,1,none⟩=some (.int .i64 fp):=by simp[World.cell?,y3]
 clear y3 y4
 go_wp2_with fail
 exact⟨.tuple #[.agg (cN 0 ⟨#[]⟩ ⟨#[]⟩ sN sN sN),.agg #[.int .i64 fe,.int .i64 fp]],by simp[results,Tryz.results30,go_sem,q0,q1,q2,q3,q4,q5,q6,q7,q8,q9,q10,q11,g0,g1],rfl,HBL.out⟩
theorem RF(s:ByteArray)(I:List Tok.Item)(B:Nat)(w:World)(he:Env B w)(hT:Wu s I w)(hz:∀x∈I,x.t.size<=maxLen)(hlen:I.length<=999999)(fp ft:Nat)(egp:∀args w,(callFunc fp args).run Tryz.prog w= .ok (.enter fp args) w)(egt:∀args w,(callFunc ft args).run Tryz.prog w= .ok (.enter ft args) w)
 (F:List Tk->PR Pr) (big:Pr->Bool) (hp:∀(P tb:Nat) (W:World),B<=P->Env B W->PaIs P tb (s.size:Int) (I.map tkOf) W->Calls Tryz.prog fp #[.pointer (some ⟨P,0,none⟩)] W (Parsed P tb (s.size:Int) W (F (I.map tkOf)) (GPr W.heap.size)))
 (hbig:∀x r,F (I.map tkOf)= .ok x r->∀(b:Nat) (v:Value) (W:World),GPr b W x v->Calls Tryz.prog ft #[v] W fun e w'=>e= .returned (.bool (big x))/\Below W.heap.size W w'):
 Calls Tryz.prog 30 #[.string s,.func (.func fp) #[] #[],.func (.func ft) #[] #[]] w (WRes w (pfin F big (s.size:Int) (I.map tkOf)) GPr (.agg (cN 0 ⟨#[]⟩ ⟨#[]⟩ sN sN sN))):=by
 obtain⟨W2,HW2,hb2,hz2,HX1,HX2⟩:=Xs w (cN 0 ⟨#[]⟩ ⟨#[]⟩ sN sN sN) 31 36
 have HB2:=hid hb2
 have HT:=hid (hT W2 hb2)
 have HE:=hid he
 obtain⟨ts,hts⟩:∃ts,I.map tkOf=ts:=⟨_,rfl⟩
 replace hz:∀x∈ts,x.t.size<=maxLen:=fun x hx=>by rw[<-hts] at hx;obtain⟨y,hy,rfl⟩:=List.mem_map.1 hx;exact hz y hy
 replace hlen:ts.length<=999999:=by rw[<-hts,List.length_map];exact hlen
 rw[hts] at hp hbig |-
 have HTS:=hid hts
 clear hts
 have HP:=hid hp
 have HBG:=hid hbig
 have HZ:=hid hz
 have HZ2:=hid hz2
 have HLN:=hid hlen
 have hmf:∀(fn:Fn) (first cap:Array Value) (w:World),(Instr.makeFunc fn first cap).run Tryz.prog w= .ok (.func fn first cap) w:=fun _ _ _ _=>rfl
 clear hb2 hT he hp hbig hz hz2 hlen
 go_enter_defers Tryz.func30,Tryz.ntmps30
 go_upto_region 1 with fail
 rw[HW2.out]
 go_upto_region 5 with(go_at_call 46;refine HT.out.mono ?_;rintro e w3⟨v,rfl,hown,hb3⟩;have HROW:Hid (GRow _ _ _ _ v (ts.map Qz)):=hid (by have h:=Yl hown;rw[HTS.out] at h;exact h);have HB3:=hid hb3;have x3:=(hb3.block _ (gl HX2.out)).trans HX2.out;have g0:w3.cell? ⟨w.heap.size+1,0,none⟩=some iZ:=(by simp[World.cell?,x3]);have g1:w3.cell? ⟨w.heap.size+1,1,none⟩=some iZ:=(by simp[World.cell?,x3]);have f0:=Qc x3 0;have f1:=Qc x3 1;have HX3:=hid x3;clear hb3 x3 hown)
 obtain⟨W4,hW4,y1,y2,hb4⟩:=Ze ((HB3.out.block _ (gl HX1.out)).trans HX1.out) HX3.out (HB2.out.trans (HB3.out.mono HB2.out.size)) 0 0
 have hown:∀k,v.ownBlock=some k->W2.heap.size<=k/\k<w3.heap.size:=fun k hk=>HROW.out.lt k hk
 have hz2:=HZ2.out
 have hz4:W4.heap.size=w3.heap.size:=by rw[<-hW4];simp[World.setCell]
 have hrow4:GRow 99 4 W2.heap.size W4 v (ts.map Qz):=HROW.out.kept (fun k hk=>by rw[<-hW4,oth1 _ _ _ (by have:=hown k hk;omega),oth1 _ _ _ (by have:=hown k hk;omega)])
 rw[hW4]
 have hz34:W2.heap.size<=w3.heap.size:=HB3.out.size
 have HR4:=hid hrow4
 have HB4:=hid hb4
 have HY1:=hid y1
 have HY2:=hid y2
 have HOWN:=hid hown
 have HZ4:=hid hz4
 have HZ34:=hid hz34
 clear hW4 g0 g1 f0 f1 y1 y2 hb4 hrow4 hown hz2 hz4 hz34
 obtain⟨va,vn,vc,rfl⟩:=HR4.out.slice
 obtain⟨E,hE⟩:∃E:Int,(s.size:Int)=E:=⟨_,rfl⟩
 rw[hE] at HP |-
 have HEQ:=hid hE
 obtain⟨nb,hnb⟩:∃nb,W4.heap.size=nb:=⟨_,rfl⟩
 have xn:(W4.alloc (.cells (Qz (ZY E)).toArray 99)).heap[nb]? =some (.cells (Qz (ZY E)).toArray 99 (0,0)):=by rw[<-hnb];exact World.alloc_heap_new _ _
 have HXN:=hid xn
 have HNB:=hid hnb
 have hgrow:=HR4.out.alloc (.cells (Qz (ZY E)).toArray 99)
 have HGR:=hid hgrow
 clear xn hnb hgrow hE
 go_wp2_with (rw[HEQ.out,HNB.out];at_builtin;refine Ji MN rfl _ _ rfl rfl HGR.out (some ⟨nb,0,none⟩) 1 1 [Qz (ZY E)] rfl rfl ?_ (JY HXN.out) ?_ ?_ ?_ ?_)
 ·intro e he;rw[mS he];rfl
 ·intro e he u hu
  rw[mS he] at hu
  simp only[Qz,List.mem_cons,List.not_mem_nil,or_false] at hu
  rcases hu with rfl|rfl|rfl|rfl <;> rfl
 ·have:=HLN.out;simp only[List.length_map,List.length_singleton];omega
 ·rw[World.size_alloc];have:=HZ4.out;have:=HZ34.out;omega
 intro ga gn gc w6 hr6 hg6 hq6
 have hgs:=hg6.size
 rw[World.size_alloc] at hgs
 have hz2:=HZ2.out
 have hz34:=HZ34.out
 have hz4:=HZ4.out
 have hown:=HOWN.out
 obtain⟨tb,cap,hva,htb1,htb2,hpais⟩:=XX (E:=E) hr6 HZ.out (by have:=HLN.out;omega)
 have hb6:Below (w.heap.size+2) W4 w6:=((Below.refl _ W4).alloc (by omega) (.cells (Qz (ZY E)).toArray 99)).grown hg6 (by rw[World.size_alloc];omega) (fun k hk=>by have:=hown k hk;omega)
 obtain⟨W7,hW7⟩:∃W7,w6.alloc (.cells #[.slice ga gn gc] 101)=W7:=⟨_,rfl⟩
 obtain⟨P,hPe⟩:∃P,w6.heap.size=P:=⟨_,rfl⟩
 rw[hW7,hPe] at hpais
 have hb7:Below (w.heap.size+2) W4 W7:=by rw[<-hW7];exact hb6.alloc (by omega) _
 have hPl:w.heap.size+2<=P:=by omega
 have hP7:P<W7.heap.size:=hpais.lt
 have y17:=(hb7.block w.heap.size (by omega)).trans HY1.out
 have y27:=(hb7.block (w.heap.size+1) (by omega)).trans HY2.out
 have hbw7:Below w.heap.size w W7:=HB4.out.trans (hb7.mono (by omega))
 have HPA:=hid hpais
 have HY17:=hid y17
 have HY27:=hid y27
 have HBW7:=hid hbw7
 have HW7:=hid hW7
 have HPE:=hid hPe
 have hBP:B<=P:=by have:=HE.out.size;omega
 have HE7:=hid (HE.out.to hbw7)
 have HFP:=hid (HP.out P tb W7 hBP HE7.out hpais)
 clear hr6 hg6 hq6 hgs hva htb1 htb2 hpais hb6 hb7 y17 y27 hbw7 hW7 hPe hz2 hz34 hz4 hown
 cases h1:F ts with
 |bad er r=>
  have HE5:Hid (pfin F big (s.size:Int) ts= .inr (er,posE E r)):=hid (by unfold pfin;rw[h1,HEQ.out])
  rw[h1] at HFP
  go_wp2_with fail
  rw[HW7.out,HPE.out]
  refine HFP.out.mono ?_
  rintro e w8⟨rfl,hb8⟩
  (try dsimp only)
  refine leaves_cons (f:=64) (args:=#[.pointer (some ⟨w.heap.size+1,0,none⟩)]) (by simp) (by simp[go_sem]) ?_
  have xf:=((hb8.block (w.heap.size+1) (by omega) (by omega)).trans HY27.out)
  have xt:=((hb8.block w.heap.size (by have:=HPE.out;omega) (by omega)).trans HY17.out)
  refine(ZN (w.heap.size+1) er (posE E r) 0 0 [] w8 xf).mono ?_
  rintro e u' w''⟨rfl,rfl,rfl⟩
  obtain⟨W',hW',yt',yf',hbl2⟩:=Ze xt xf (HBW7.out.trans (hb8.below (by omega) HBW7.out.size)) er (posE E r)
  rw[hW']
  obtain⟨⟨y0,y1,y2,y3,y4,y5,y6,y7,y8,y9,y10,y11⟩,-⟩:=c12p yt'
  have g0:W'.cell? ⟨w.heap.size+1,0,none⟩=some (.int .i64 er):=by simp[World.cell?,yf']
  have g1:W'.cell? ⟨w.heap.size+1,1,none⟩=some (.int .i64 (posE E r)):=by simp[World.cell?,yf']
  clear hW' xf xt yf' yt'
  refine⟨.tuple #[.agg (cN 0 ⟨#[]⟩ ⟨#[]⟩ sN sN sN),.agg #[.int .i64 er,.int .i64 (posE E r)]],by simp[results,Tryz.results30,go_sem,y0,y1,y2,y3,y4,y5,y6,y7,y8,y9,y10,y11,g0,g1],?_⟩
  rw[HE5.out];exact⟨rfl,hbl2⟩
 |ok x r=>
  rw[h1] at HFP
  have HB2G:=hid (fun b v W hg=>HBG.out x r h1 b v W hg)
  go_wp2_with fail
  rw[HW7.out,HPE.out]
  refine HFP.out.mono ?_
  rintro e w8⟨⟨v,rfl,hg⟩,hp8,hb8⟩
  have hg0:=hg
  obtain⟨la,ln,lc,aa,an,ac,ta,tn,tc,ua,un,uc,ka,kn,kc,rfl⟩:=PrVal.open hg
  have HG8:=hid hg0
  have HP8:=hid hp8
  have HB8:=hid hb8
  clear hg hg0 hp8 hb8
  go_upto_region 7 with fail
  obtain⟨W9,hW9⟩:∃W9,w8.alloc (.cells (gP x la ln lc aa an ac ta tn tc ua un uc ka kn kc) 31)=W9:=⟨_,rfl⟩
  obtain⟨Xt,hXt⟩:∃Xt,w8.heap.size=Xt:=⟨_,rfl⟩
  have hb9:=(made hW9).1
  have x9:W9.heap[Xt]? =some (.cells (gP x la ln lc aa an ac ta tn tc ua un uc ka kn kc) 31 (0,0)):=by rw[<-hW9,<-hXt];exact World.alloc_heap_new _ _
  have hz9:=HB8.out.size
  have hXP:Xt≠P:=by omega
  have hX7:W7.heap.size<=Xt:=by omega
  have HP9:=hid (HP8.out.to hb9)
  have HB9:Hid (But P W7 W9):=hid (HB8.out.to hb9)
  have HX9:=hid x9
  have HG9:=hid (show GPr W7.heap.size W9 x _ from lyPr.mono (fun k hk=>⟨hk.1,lL hk.2 hb9.size⟩) (lyPr.keep (w':=W9) (fun k o hk ho _=>(hb9.block k hk.2).trans ho) HG8.out))
  rw[hW9,hXt]
  clear hW9 hXt hb9 x9 hz9 HG8 HP8 HB8
  by_cases hr:r=[]
  case neg=>
   go_wp2_with (go_at_call 48;refine(JW P tb E _ _ HP9.out).mono ?_;rw[if_neg hr];rintro e w10⟨rfl,hb10⟩;have HB10:=hid (HB9.out.trans hb10);clear hb10)
   have HE5:Hid (pfin F big (s.size:Int) ts= .inr (1,posE E r)):=hid (by unfold pfin;rw[h1,HEQ.out];show(if r=[] then _ else _)=_;rw[if_neg hr])
   refine leaves_cons (f:=64) (args:=#[.pointer (some ⟨w.heap.size+1,0,none⟩)]) (by simp) (by simp[go_sem]) ?_
   have xf:=((HB10.out.block (w.heap.size+1) (by omega) (by omega)).trans HY27.out)
   have xt:=((HB10.out.block w.heap.size (by omega) (by omega)).trans HY17.out)
   refine(ZN (w.heap.size+1) 1 (posE E r) 0 0 [] w10 xf).mono ?_
   rintro e u' w''⟨rfl,rfl,rfl⟩
   obtain⟨W',hW',yt',yf',hbl2⟩:=Ze xt xf (HBW7.out.trans (HB10.out.below (by omega) HBW7.out.size)) 1 (posE E r)
   rw[hW']
   obtain⟨⟨y0,y1,y2,y3,y4,y5,y6,y7,y8,y9,y10,y11⟩,-⟩:=c12p yt'
   have g0:W'.cell? ⟨w.heap.size+1,0,none⟩=some (.int .i64 1):=by simp[World.cell?,yf']
   have g1:W'.cell? ⟨w.heap.size+1,1,none⟩=some (.int .i64 (posE E r)):=by simp[World.cell?,yf']
   clear hW' xf xt yf' yt'
   refine⟨.tuple #[.agg (cN 0 ⟨#[]⟩ ⟨#[]⟩ sN sN sN),.agg #[.int .i64 1,.int .i64 (posE E r)]],by simp[results,Tryz.results30,go_sem,y0,y1,y2,y3,y4,y5,y6,y7,y8,y9,y10,y11,g0,g1],?_⟩
   rw[HE5.out];exact⟨rfl,hbl2⟩
  case pos=>
   subst hr
   go_upto_region 8 with(go_at_call 48;refine(JW P tb E _ _ HP9.out).mono ?_;rw[if_pos rfl];rintro e w10⟨⟨_,rfl,_⟩,hp10,hb10⟩;have HP10:=hid hp10;have HG10:=hid (show GPr W7.heap.size w10 x _ from lyPr.mono (fun k hk=>⟨hk.1,lL hk.2 hb10.size⟩) (lyPr.keep (hb10.keeps (fun k hk=>⟨hk.2,by have:=hk.1;omega⟩)) HG9.out));have HX10:=hid ((hb10.block Xt (gl HX9.out) hXP).trans HX9.out);have HB10:=hid (HB9.out.trans hb10);clear hb10 hp10)
   obtain⟨⟨q0,q1,q2,q3,q4,q5,q6,q7,q8,q9,q10,q11⟩,-⟩:=c12p HX10.out
   have HBC:=hid (HB2G.out _ _ w10 HG10.out)
   cases hbg:big x with
   |true=>
    rw[hbg] at HBC
    go_wp2_with fail
    refine HBC.out.mono ?_
    rintro e w11⟨rfl,hb11⟩
    have HB11:=hid hb11
    have HP11:=hid (HP10.out.to hb11)
    clear hb11
    go_wp2_with (go_at_call 49;refine(Zo P tb E [] 2 _ HP11.out).mono ?_;rintro e w12⟨rfl,hb12⟩;have HB12:=hid ((HB10.out.to HB11.out).trans hb12);clear hb12)
    have HE5:Hid (pfin F big (s.size:Int) ts= .inr (2,E)):=hid (by unfold pfin;rw[h1,HEQ.out];show(if ([]:List Tk)=[] then _ else _)=_;rw[if_pos rfl,if_pos hbg])
    refine leaves_cons (f:=64) (args:=#[.pointer (some ⟨w.heap.size+1,0,none⟩)]) (by simp) (by simp[go_sem]) ?_
    have xf:=((HB12.out.block (w.heap.size+1) (by omega) (by omega)).trans HY27.out)
    have xt:=((HB12.out.block w.heap.size (by omega) (by omega)).trans HY17.out)
    refine(ZN (w.heap.size+1) 2 E 0 0 [] w12 xf).mono ?_
    rintro e u' w''⟨rfl,rfl,rfl⟩
    obtain⟨W',hW',yt',yf',hbl2⟩:=Ze xt xf (HBW7.out.trans (HB12.out.below (by omega) HBW7.out.size)) 2 E
    rw[hW']
    obtain⟨⟨y0,y1,y2,y3,y4,y5,y6,y7,y8,y9,y10,y11⟩,-⟩:=c12p yt'
    have g0:W'.cell? ⟨w.heap.size+1,0,none⟩=some (.int .i64 2):=by simp[World.cell?,yf']
    have g1:W'.cell? ⟨w.heap.size+1,1,none⟩=some (.int .i64 E):=by simp[World.cell?,yf']
    clear hW' xf xt yf' yt'
    refine⟨.tuple #[.agg (cN 0 ⟨#[]⟩ ⟨#[]⟩ sN sN sN),.agg #[.int .i64 2,.int .i64 E]],by simp[results,Tryz.results30,go_sem,y0,y1,y2,y3,y4,y5,y6,y7,y8,y9,y10,y11,g0,g1],?_⟩
    rw[HE5.out];exact⟨rfl,hbl2⟩
   |false=>
    rw[hbg] at HBC
    go_wp2_with fail
    refine HBC.out.mono ?_
    rintro e w11⟨rfl,hb11⟩
    have HB11:=hid (HB10.out.to hb11)
    have x11:=(hb11.block Xt (gl HX10.out)).trans HX10.out
    have HG11:=hid (show GPr W7.heap.size w11 x _ from lyPr.mono (fun k hk=>⟨hk.1,lL hk.2 hb11.size⟩) (lyPr.keep (w':=w11) (fun k o hk ho _=>(hb11.block k hk.2).trans ho) HG10.out))
    have y1:=(HB11.out.block w.heap.size (by omega) (by omega)).trans HY17.out
    have y2:=(HB11.out.block (w.heap.size+1) (by omega) (by omega)).trans HY27.out
    clear hb11 q0 q1 q2 q3 q4 q5 q6 q7 q8 q9 q10 q11
    obtain⟨⟨q0,q1,q2,q3,q4,q5,q6,q7,q8,q9,q10,q11⟩,-⟩:=c12p x11
    obtain⟨⟨r0,r1,r2,r3,r4,r5,r6,r7,r8,r9,r10,r11⟩,z0,z1,z2,z3,z4,z5,z6,z7,z8,z9,z10,z11⟩:=c12p y1
    have g0:w11.cell? ⟨w.heap.size+1,0,none⟩=some iZ:=by simp[World.cell?,y2]
    have g1:w11.cell? ⟨w.heap.size+1,1,none⟩=some iZ:=by simp[World.cell?,y2]
    have f0:=Qc y2 0
    have f1:=Qc y2 1
    have HY1:=hid y1
    have HY2:=hid y2
    clear x11 y1 y2
    have HE5:Hid (pfin F big (s.size:Int) ts= .inl x):=hid (by unfold pfin;rw[h1];show(if ([]:List Tk)=[] then _ else _)=_;rw[if_pos rfl,if_neg (by rw[hbg];simp)])
    have hX1X:w.heap.size≠w.heap.size+1:=by omega
    clear h1
    go_wp2_with fail
    refine leaves_cons (f:=64) (args:=#[.pointer (some ⟨w.heap.size+1,0,none⟩)]) (by simp) (by simp[go_sem]) ?_
    refine(GS (w.heap.size+1) _).mono ?_
    rintro e u' w''⟨rfl,rfl,rfl⟩
    obtain⟨W',hW',v4,v3,hbl,v5,v6⟩:=Ff HY1.out HY2.out (HBW7.out.trans (HB11.out.below (by omega) HBW7.out.size)) (.int .i64 x.k) (.string x.c) (.string x.x) (.slice la ln lc) (.slice aa an ac) (.int .i64 x.t.k) (.int .i64 x.t.p) (.string x.t.n) (.int .i64 x.t.s) (.slice ta tn tc) (.slice ua un uc) (.slice ka kn kc) 0 0
    rw[hW']
    replace v5:Keeps (fun k=>W7.heap.size<=k/\k<w11.heap.size) w11 W':=fun k o hk ho _=>(v5 k (by have:=hk.1;omega) (by have:=hk.1;omega)).trans ho
    clear hW' q0 q1 q2 q3 q4 q5 q6 q7 q8 q9 q10 q11 r0 r1 r2 r3 r4 r5 r6 r7 r8 r9 r10 r11 z0 z1 z2 z3 z4 z5 z6 z7 z8 z9 z10 z11 g0 g1 f0 f1
    obtain⟨⟨y0,y1,y2,y3,y4,y5,y6,y7,y8,y9,y10,y11⟩,-⟩:=c12p v4
    have g0:W'.cell? ⟨w.heap.size+1,0,none⟩=some iZ:=by simp[World.cell?,v3]
    have g1:W'.cell? ⟨w.heap.size+1,1,none⟩=some iZ:=by simp[World.cell?,v3]
    clear v3 v4
    refine⟨.tuple #[.agg (gP x la ln lc aa an ac ta tn tc ua un uc ka kn kc),.agg #[.int .i64 0,.int .i64 0]],by simp[results,Tryz.results30,go_sem,y0,y1,y2,y3,y4,y5,y6,y7,y8,y9,y10,y11,g0,g1],?_⟩
    rw[HE5.out]
    exact⟨⟨_,rfl,lyPr.mono (fun k hk=>⟨lT HBW7.out.size hk.1,by rw[v6];exact hk.2⟩) (lyPr.keep v5 HG11.out)⟩,hbl⟩
theorem FV(s:ByteArray)(fe fp:Int)(hfe:fe≠0)(w:World)(hT:GY s fe fp w)(fpa ft:Value){α:Type}(G:Nat->World->α->Value->Prop):
 Calls Tryz.prog 23 #[.string s,fpa,ft] w (WRes w (.inr (fe,fp)) G (.agg z13)):=by
 obtain⟨W2,HW2,hb2,hz2,HX1,HX2⟩:=Xs w #[.slice none 0 0,.int .i64 0,.string ⟨#[]⟩,.string ⟨#[]⟩,.slice none 0 0,.slice none 0 0,.int .i64 0,.int .i64 0,.string ⟨#[]⟩,.int .i64 0,.slice none 0 0,.slice none 0 0,.slice none 0 0] 33 36
 have HB2:=hid hb2
 have HT:=hid (hT W2 hb2)
 have hne:(fe != 0)=true:=by simpa using hfe
 have hne2:(fe==0)=false:=by simpa using hfe
 have hmf:∀(fn:Fn) (first cap:Array Value) (w:World),(Instr.makeFunc fn first cap).run Tryz.prog w= .ok (.func fn first cap) w:=fun _ _ _ _=>rfl
 clear hb2 hz2 hT
 go_enter_defers Tryz.func23,Tryz.ntmps23
 go_upto_region 1 with fail
 rw[HW2.out]
 go_wp2_with (go_at_call 46;refine HT.out.mono ?_;rintro e w3⟨rfl,hb3⟩;have HB3:=hid hb3;obtain⟨⟨q0,q1,q2,q3,q4,q5,q6,q7,q8,q9,q10,q11,q12⟩,z0,z1,z2,z3,z4,z5,z6,z7,z8,z9,z10,z11,z12⟩:=c13p ((hb3.block _ (gl HX1.out)).trans HX1.out);have x3:=(hb3.block _ (gl HX2.out)).trans HX2.out;have g0:w3.cell? ⟨w.heap.size+1,0,none⟩=some iZ:=(by simp[World.cell?,x3]);have g1:w3.cell? ⟨w.heap.size+1,1,none⟩=some iZ:=(by simp[World.cell?,x3]);have f0:=Qc x3 0;have f1:=Qc x3 1;have HX3:=hid x3;clear hb3 x3)
 obtain⟨W4,hW4,y1,y2,hb4⟩:=Ze ((HB3.out.block _ (gl HX1.out)).trans HX1.out) HX3.out (HB2.out.trans (HB3.out.mono HB2.out.size)) fe fp
 rw[hW4]
 clear hW4 q0 q1 q2 q3 q4 q5 q6 q7 q8 q9 q10 q11 q12 z0 z1 z2 z3 z4 z5 z6 z7 z8 z9 z10 z11 z12 g0 g1 f0 f1
 obtain⟨⟨q0,q1,q2,q3,q4,q5,q6,q7,q8,q9,q10,q11,q12⟩,z0,z1,z2,z3,z4,z5,z6,z7,z8,z9,z10,z11,z12⟩:=c13p y1
 have g0:W4.cell? ⟨w.heap.size+1,0,none⟩=some (.int .i64 fe):=by simp[World.cell?,y2]
 have g1:W4.cell? ⟨w.heap.size+1,1,none⟩=some (.int .i64 fp):=by simp[World.cell?,y2]
 have f0:=Qc y2 0
 have f1:=Qc y2 1
 have HB4:=hid hb4
 have HY1:=hid y1
 have HY2:=hid y2
 clear y1 y2 hb4
 go_region
 obtain⟨Wd,hWd,y4,y3,hbl,-⟩:=Fe HY1.out HY2.out HB4.out sN iZ tE tE sN sN iZ iZ tE iZ sN sN sN fe fp
 rw[hWd]
 obtain⟨W5,hW5⟩:∃W5,Wd.drew=W5:=⟨_,rfl⟩
 have hdrew:W5.heap=Wd.heap:=by rw[<-hW5];rfl
 rw[<-hdrew] at y4 y3
 have HBL:Hid (Below w.heap.size w W5):=hid (by rw[<-hW5];exact hbl.drew)
 rw[hW5]
 clear hW5 hWd hbl q0 q1 q2 q3 q4 q5 q6 q7 q8 q9 q10 q11 q12 z0 z1 z2 z3 z4 z5 z6 z7 z8 z9 z10 z11 z12 g0 g1 f0 f1
 obtain⟨⟨q0,q1,q2,q3,q4,q5,q6,q7,q8,q9,q10,q11,q12⟩,-⟩:=c13p y4
 clear hdrew
 have g0:W5.cell? ⟨w.heap.size+1,0,none⟩=some (.int .i64 fe):=by simp[World.cell?,y3]
 have g1:W5.cell? ⟨w.heap.size+1,1,none⟩=some (.int .i64 fp):=by simp[World.cell?,y3]
 clear y3 y4
 go_wp2_with fail
 exact⟨.tuple #[.agg z13,.agg #[.int .i64 fe,.int .i64 fp]],by simp[results,Tryz.results23,go_sem,q0,q1,q2,q3,q4,q5,q6,q7,q8,q9,q10,q11,q12,g0,g1],rfl,HBL.out⟩
theorem RG(s:ByteArray)(I:List Tok.Item)(B:Nat)(w:World)(he:Env B w)(hT:Wu s I w)(hz:∀x∈I,x.t.size<=maxLen)(hlen:I.length<=999999)(fp ft:Nat)(egp:∀args w,(callFunc fp args).run Tryz.prog w= .ok (.enter fp args) w)(egt:∀args w,(callFunc ft args).run Tryz.prog w= .ok (.enter ft args) w)
 (F:List Tk->PR Pg) (big:Pg->Bool) (hp:∀(P tb:Nat) (W:World),B<=P->Env B W->PaIs P tb (s.size:Int) (I.map tkOf) W->Calls Tryz.prog fp #[.pointer (some ⟨P,0,none⟩)] W (Parsed P tb (s.size:Int) W (F (I.map tkOf)) (GPg W.heap.size)))
 (hbig:∀x r,F (I.map tkOf)= .ok x r->∀(b:Nat) (v:Value) (W:World),GPg b W x v->Calls Tryz.prog ft #[v] W fun e w'=>e= .returned (.bool (big x))/\Below W.heap.size W w'):
 Calls Tryz.prog 23 #[.string s,.func (.func fp) #[] #[],.func (.func ft) #[] #[]] w (WRes w (pfin F big (s.size:Int) (I.map tkOf)) GPg (.agg z13)):=by
 obtain⟨W2,HW2,hb2,hz2,HX1,HX2⟩:=Xs w #[.slice none 0 0,.int .i64 0,.string ⟨#[]⟩,.string ⟨#[]⟩,.slice none 0 0,.slice none 0 0,.int .i64 0,.int .i64 0,.string ⟨#[]⟩,.int .i64 0,.slice none 0 0,.slice none 0 0,.slice none 0 0] 33 36
 have HB2:=hid hb2
 have HT:=hid (hT W2 hb2)
 have HE:=hid he
 obtain⟨ts,hts⟩:∃ts,I.map tkOf=ts:=⟨_,rfl⟩
 replace hz:∀x∈ts,x.t.size<=maxLen:=fun x hx=>by rw[<-hts] at hx;obtain⟨y,hy,rfl⟩:=List.mem_map.1 hx;exact hz y hy
 replace hlen:ts.length<=999999:=by rw[<-hts,List.length_map];exact hlen
 rw[hts] at hp hbig |-
 have HTS:=hid hts
 clear hts
 have HP:=hid hp
 have HBG:=hid hbig
 have HZ:=hid hz
 have HZ2:=hid hz2
 have HLN:=hid hlen
 have hmf:∀(fn:Fn) (first cap:Array Value) (w:World),(Instr.makeFunc fn first cap).run Tryz.prog w= .ok (.func fn first cap) w:=fun _ _ _ _=>rfl
 clear hb2 hT he hp hbig hz hz2 hlen
 go_enter_defers Tryz.func23,Tryz.ntmps23
 go_upto_region 1 with fail
 rw[HW2.out]
 go_upto_region 5 with(go_at_call 46;refine HT.out.mono ?_;rintro e w3⟨v,rfl,hown,hb3⟩;have HROW:Hid (GRow _ _ _ _ v (ts.map Qz)):=hid (by have h:=Yl hown;rw[HTS.out] at h;exact h);have HB3:=hid hb3;have x3:=(hb3.block _ (gl HX2.out)).trans HX2.out;have g0:w3.cell? ⟨w.heap.size+1,0,none⟩=some iZ:=(by simp[World.cell?,x3]);have g1:w3.cell? ⟨w.heap.size+1,1,none⟩=some iZ:=(by simp[World.cell?,x3]);have f0:=Qc x3 0;have f1:=Qc x3 1;have HX3:=hid x3;clear hb3 x3 hown)
 obtain⟨W4,hW4,y1,y2,hb4⟩:=Ze ((HB3.out.block _ (gl HX1.out)).trans HX1.out) HX3.out (HB2.out.trans (HB3.out.mono HB2.out.size)) 0 0
 have hown:∀k,v.ownBlock=some k->W2.heap.size<=k/\k<w3.heap.size:=fun k hk=>HROW.out.lt k hk
 have hz2:=HZ2.out
 have hz4:W4.heap.size=w3.heap.size:=by rw[<-hW4];simp[World.setCell]
 have hrow4:GRow 99 4 W2.heap.size W4 v (ts.map Qz):=HROW.out.kept (fun k hk=>by rw[<-hW4,oth1 _ _ _ (by have:=hown k hk;omega),oth1 _ _ _ (by have:=hown k hk;omega)])
 rw[hW4]
 have hz34:W2.heap.size<=w3.heap.size:=HB3.out.size
 have HR4:=hid hrow4
 have HB4:=hid hb4
 have HY1:=hid y1
 have HY2:=hid y2
 have HOWN:=hid hown
 have HZ4:=hid hz4
 have HZ34:=hid hz34
 clear hW4 g0 g1 f0 f1 y1 y2 hb4 hrow4 hown hz2 hz4 hz34
 obtain⟨va,vn,vc,rfl⟩:=HR4.out.slice
 obtain⟨E,hE⟩:∃E:Int,(s.size:Int)=E:=⟨_,rfl⟩
 rw[hE] at HP |-
 have HEQ:=hid hE
 obtain⟨nb,hnb⟩:∃nb,W4.heap.size=nb:=⟨_,rfl⟩
 have xn:(W4.alloc (.cells (Qz (ZY E)).toArray 99)).heap[nb]? =some (.cells (Qz (ZY E)).toArray 99 (0,0)):=by rw[<-hnb];exact World.alloc_heap_new _ _
 have HXN:=hid xn
 have HNB:=hid hnb
 have hgrow:=HR4.out.alloc (.cells (Qz (ZY E)).toArray 99)
 have HGR:=hid hgrow
 clear xn hnb hgrow hE
 go_wp2_with (rw[HEQ.out,HNB.out];at_builtin;refine Ji MN rfl _ _ rfl rfl HGR.out (some ⟨nb,0,none⟩) 1 1 [Qz (ZY E)] rfl rfl ?_ (JY HXN.out) ?_ ?_ ?_ ?_)
 ·intro e he;rw[mS he];rfl
 ·intro e he u hu
  rw[mS he] at hu
  simp only[Qz,List.mem_cons,List.not_mem_nil,or_false] at hu
  rcases hu with rfl|rfl|rfl|rfl <;> rfl
 ·have:=HLN.out;simp only[List.length_map,List.length_singleton];omega
 ·rw[World.size_alloc];have:=HZ4.out;have:=HZ34.out;omega
 intro ga gn gc w6 hr6 hg6 hq6
 have hgs:=hg6.size
 rw[World.size_alloc] at hgs
 have hz2:=HZ2.out
 have hz34:=HZ34.out
 have hz4:=HZ4.out
 have hown:=HOWN.out
 obtain⟨tb,cap,hva,htb1,htb2,hpais⟩:=XX (E:=E) hr6 HZ.out (by have:=HLN.out;omega)
 have hb6:Below (w.heap.size+2) W4 w6:=((Below.refl _ W4).alloc (by omega) (.cells (Qz (ZY E)).toArray 99)).grown hg6 (by rw[World.size_alloc];omega) (fun k hk=>by have:=hown k hk;omega)
 obtain⟨W7,hW7⟩:∃W7,w6.alloc (.cells #[.slice ga gn gc] 101)=W7:=⟨_,rfl⟩
 obtain⟨P,hPe⟩:∃P,w6.heap.size=P:=⟨_,rfl⟩
 rw[hW7,hPe] at hpais
 have hb7:Below (w.heap.size+2) W4 W7:=by rw[<-hW7];exact hb6.alloc (by omega) _
 have hPl:w.heap.size+2<=P:=by omega
 have hP7:P<W7.heap.size:=hpais.lt
 have y17:=(hb7.block w.heap.size (by omega)).trans HY1.out
 have y27:=(hb7.block (w.heap.size+1) (by omega)).trans HY2.out
 have hbw7:Below w.heap.size w W7:=HB4.out.trans (hb7.mono (by omega))
 have HPA:=hid hpais
 have HY17:=hid y17
 have HY27:=hid y27
 have HBW7:=hid hbw7
 have HW7:=hid hW7
 have HPE:=hid hPe
 have hBP:B<=P:=by have:=HE.out.size;omega
 have HE7:=hid (HE.out.to hbw7)
 have HFP:=hid (HP.out P tb W7 hBP HE7.out hpais)
 clear hr6 hg6 hq6 hgs hva htb1 htb2 hpais hb6 hb7 y17 y27 hbw7 hW7 hPe hz2 hz34 hz4 hown
 cases h1:F ts with
 |bad er r=>
  have HE5:Hid (pfin F big (s.size:Int) ts= .inr (er,posE E r)):=hid (by unfold pfin;rw[h1,HEQ.out])
  rw[h1] at HFP
  go_wp2_with fail
  rw[HW7.out,HPE.out]
  refine HFP.out.mono ?_
  rintro e w8⟨rfl,hb8⟩
  (try dsimp only)
  refine leaves_cons (f:=47) (args:=#[.pointer (some ⟨w.heap.size+1,0,none⟩)]) (by simp) (by simp[go_sem]) ?_
  have xf:=((hb8.block (w.heap.size+1) (by omega) (by omega)).trans HY27.out)
  have xt:=((hb8.block w.heap.size (by have:=HPE.out;omega) (by omega)).trans HY17.out)
  refine(ZO (w.heap.size+1) er (posE E r) 0 0 [] w8 xf).mono ?_
  rintro e u' w''⟨rfl,rfl,rfl⟩
  obtain⟨W',hW',yt',yf',hbl2⟩:=Ze xt xf (HBW7.out.trans (hb8.below (by omega) HBW7.out.size)) er (posE E r)
  rw[hW']
  obtain⟨⟨y0,y1,y2,y3,y4,y5,y6,y7,y8,y9,y10,y11,y12⟩,-⟩:=c13p yt'
  have g0:W'.cell? ⟨w.heap.size+1,0,none⟩=some (.int .i64 er):=by simp[World.cell?,yf']
  have g1:W'.cell? ⟨w.heap.size+1,1,none⟩=some (.int .i64 (posE E r)):=by simp[World.cell?,yf']
  clear hW' xf xt yf' yt'
  refine⟨.tuple #[.agg z13,.agg #[.int .i64 er,.int .i64 (posE E r)]],by simp[results,Tryz.results23,go_sem,y0,y1,y2,y3,y4,y5,y6,y7,y8,y9,y10,y11,y12,g0,g1],?_⟩
  rw[HE5.out];exact⟨rfl,hbl2⟩
 |ok x r=>
  rw[h1] at HFP
  have HB2G:=hid (fun b v W hg=>HBG.out x r h1 b v W hg)
  go_wp2_with fail
  rw[HW7.out,HPE.out]
  refine HFP.out.mono ?_
  rintro e w8⟨⟨v,rfl,hg⟩,hp8,hb8⟩
  have hg0:=hg
  obtain⟨da,dn,dc,la,ln,lc,aa,an,ac,ta,tn,tc,ua,un,uc,ka,kn,kc,rfl⟩:=PgVal.open13 hg
  have HG8:=hid hg0
  have HP8:=hid hp8
  have HB8:=hid hb8
  clear hg hg0 hp8 hb8
  go_upto_region 7 with fail
  obtain⟨W9,hW9⟩:∃W9,w8.alloc (.cells #[.slice da dn dc,.int .i64 x.m.k,.string x.m.c,.string x.m.x,.slice la ln lc,.slice aa an ac,.int .i64 x.m.t.k,.int .i64 x.m.t.p,.string x.m.t.n,.int .i64 x.m.t.s,.slice ta tn tc,.slice ua un uc,.slice ka kn kc] 33)=W9:=⟨_,rfl⟩
  obtain⟨Xt,hXt⟩:∃Xt,w8.heap.size=Xt:=⟨_,rfl⟩
  have hb9:=(made hW9).1
  have x9:W9.heap[Xt]? =some (.cells #[.slice da dn dc,.int .i64 x.m.k,.string x.m.c,.string x.m.x,.slice la ln lc,.slice aa an ac,.int .i64 x.m.t.k,.int .i64 x.m.t.p,.string x.m.t.n,.int .i64 x.m.t.s,.slice ta tn tc,.slice ua un uc,.slice ka kn kc] 33 (0,0)):=by rw[<-hW9,<-hXt];exact World.alloc_heap_new _ _
  have hz9:=HB8.out.size
  have hXP:Xt≠P:=by omega
  have hX7:W7.heap.size<=Xt:=by omega
  have HP9:=hid (HP8.out.to hb9)
  have HB9:Hid (But P W7 W9):=hid (HB8.out.to hb9)
  have HX9:=hid x9
  have HG9:=hid (show GPg W7.heap.size W9 x _ from lyPg.mono (fun k hk=>⟨hk.1,lL hk.2 hb9.size⟩) (lyPg.keep (w':=W9) (fun k o hk ho _=>(hb9.block k hk.2).trans ho) HG8.out))
  rw[hW9,hXt]
  clear hW9 hXt hb9 x9 hz9 HG8 HP8 HB8
  by_cases hr:r=[]
  case neg=>
   go_wp2_with (go_at_call 48;refine(JW P tb E _ _ HP9.out).mono ?_;rw[if_neg hr];rintro e w10⟨rfl,hb10⟩;have HB10:=hid (HB9.out.trans hb10);clear hb10)
   have HE5:Hid (pfin F big (s.size:Int) ts= .inr (1,posE E r)):=hid (by unfold pfin;rw[h1,HEQ.out];show(if r=[] then _ else _)=_;rw[if_neg hr])
   refine leaves_cons (f:=47) (args:=#[.pointer (some ⟨w.heap.size+1,0,none⟩)]) (by simp) (by simp[go_sem]) ?_
   have xf:=((HB10.out.block (w.heap.size+1) (by omega) (by omega)).trans HY27.out)
   have xt:=((HB10.out.block w.heap.size (by omega) (by omega)).trans HY17.out)
   refine(ZO (w.heap.size+1) 1 (posE E r) 0 0 [] w10 xf).mono ?_
   rintro e u' w''⟨rfl,rfl,rfl⟩
   obtain⟨W',hW',yt',yf',hbl2⟩:=Ze xt xf (HBW7.out.trans (HB10.out.below (by omega) HBW7.out.size)) 1 (posE E r)
   rw[hW']
   obtain⟨⟨y0,y1,y2,y3,y4,y5,y6,y7,y8,y9,y10,y11,y12⟩,-⟩:=c13p yt'
   have g0:W'.cell? ⟨w.heap.size+1,0,none⟩=some (.int .i64 1):=by simp[World.cell?,yf']
   have g1:W'.cell? ⟨w.heap.size+1,1,none⟩=some (.int .i64 (posE E r)):=by simp[World.cell?,yf']
   clear hW' xf xt yf' yt'
   refine⟨.tuple #[.agg z13,.agg #[.int .i64 1,.int .i64 (posE E r)]],by simp[results,Tryz.results23,go_sem,y0,y1,y2,y3,y4,y5,y6,y7,y8,y9,y10,y11,y12,g0,g1],?_⟩
   rw[HE5.out];exact⟨rfl,hbl2⟩
  case pos=>
   subst hr
   go_upto_region 8 with(go_at_call 48;refine(JW P tb E _ _ HP9.out).mono ?_;rw[if_pos rfl];rintro e w10⟨⟨_,rfl,_⟩,hp10,hb10⟩;have HP10:=hid hp10;have HG10:=hid (show GPg W7.heap.size w10 x _ from lyPg.mono (fun k hk=>⟨hk.1,lL hk.2 hb10.size⟩) (lyPg.keep (hb10.keeps (fun k hk=>⟨hk.2,by have:=hk.1;omega⟩)) HG9.out));have HX10:=hid ((hb10.block Xt (gl HX9.out) hXP).trans HX9.out);have HB10:=hid (HB9.out.trans hb10);clear hb10 hp10)
   obtain⟨⟨q0,q1,q2,q3,q4,q5,q6,q7,q8,q9,q10,q11,q12⟩,-⟩:=c13p HX10.out
   have HBC:=hid (HB2G.out _ _ w10 HG10.out)
   cases hbg:big x with
   |true=>
    rw[hbg] at HBC
    go_wp2_with fail
    refine HBC.out.mono ?_
    rintro e w11⟨rfl,hb11⟩
    have HB11:=hid hb11
    have HP11:=hid (HP10.out.to hb11)
    clear hb11
    go_wp2_with (go_at_call 49;refine(Zo P tb E [] 2 _ HP11.out).mono ?_;rintro e w12⟨rfl,hb12⟩;have HB12:=hid ((HB10.out.to HB11.out).trans hb12);clear hb12)
    have HE5:Hid (pfin F big (s.size:Int) ts= .inr (2,E)):=hid (by unfold pfin;rw[h1,HEQ.out];show(if ([]:List Tk)=[] then _ else _)=_;rw[if_pos rfl,if_pos hbg])
    refine leaves_cons (f:=47) (args:=#[.pointer (some ⟨w.heap.size+1,0,none⟩)]) (by simp) (by simp[go_sem]) ?_
    have xf:=((HB12.out.block (w.heap.size+1) (by omega) (by omega)).trans HY27.out)
    have xt:=((HB12.out.block w.heap.size (by omega) (by omega)).trans HY17.out)
    refine(ZO (w.heap.size+1) 2 E 0 0 [] w12 xf).mono ?_
    rintro e u' w''⟨rfl,rfl,rfl⟩
    obtain⟨W',hW',yt',yf',hbl2⟩:=Ze xt xf (HBW7.out.trans (HB12.out.below (by omega) HBW7.out.size)) 2 E
    rw[hW']
    obtain⟨⟨y0,y1,y2,y3,y4,y5,y6,y7,y8,y9,y10,y11,y12⟩,-⟩:=c13p yt'
    have g0:W'.cell? ⟨w.heap.size+1,0,none⟩=some (.int .i64 2):=by simp[World.cell?,yf']
    have g1:W'.cell? ⟨w.heap.size+1,1,none⟩=some (.int .i64 E):=by simp[World.cell?,yf']
    clear hW' xf xt yf' yt'
    refine⟨.tuple #[.agg z13,.agg #[.int .i64 2,.int .i64 E]],by simp[results,Tryz.results23,go_sem,y0,y1,y2,y3,y4,y5,y6,y7,y8,y9,y10,y11,y12,g0,g1],?_⟩
    rw[HE5.out];exact⟨rfl,hbl2⟩
   |false=>
    rw[hbg] at HBC
    go_wp2_with fail
    refine HBC.out.mono ?_
    rintro e w11⟨rfl,hb11⟩
    have HB11:=hid (HB10.out.to hb11)
    have x11:=(hb11.block Xt (gl HX10.out)).trans HX10.out
    have HG11:=hid (show GPg W7.heap.size w11 x _ from lyPg.mono (fun k hk=>⟨hk.1,lL hk.2 hb11.size⟩) (lyPg.keep (w':=w11) (fun k o hk ho _=>(hb11.block k hk.2).trans ho) HG10.out))
    have y1:=(HB11.out.block w.heap.size (by omega) (by omega)).trans HY17.out
    have y2:=(HB11.out.block (w.heap.size+1) (by omega) (by omega)).trans HY27.out
    clear hb11 q0 q1 q2 q3 q4 q5 q6 q7 q8 q9 q10 q11 q12
    obtain⟨⟨q0,q1,q2,q3,q4,q5,q6,q7,q8,q9,q10,q11,q12⟩,-⟩:=c13p x11
    obtain⟨⟨r0,r1,r2,r3,r4,r5,r6,r7,r8,r9,r10,r11,r12⟩,z0,z1,z2,z3,z4,z5,z6,z7,z8,z9,z10,z11,z12⟩:=c13p y1
    have g0:w11.cell? ⟨w.heap.size+1,0,none⟩=some iZ:=by simp[World.cell?,y2]
    have g1:w11.cell? ⟨w.heap.size+1,1,none⟩=some iZ:=by simp[World.cell?,y2]
    have f0:=Qc y2 0
    have f1:=Qc y2 1
    have HY1:=hid y1
    have HY2:=hid y2
    clear x11 y1 y2
    have HE5:Hid (pfin F big (s.size:Int) ts= .inl x):=hid (by unfold pfin;rw[h1];show(if ([]:List Tk)=[] then _ else _)=_;rw[if_pos rfl,if_neg (by rw[hbg];simp)])
    have hX1X:w.heap.size≠w.heap.size+1:=by omega
    clear h1
    go_wp2_with fail
    refine leaves_cons (f:=47) (args:=#[.pointer (some ⟨w.heap.size+1,0,none⟩)]) (by simp) (by simp[go_sem]) ?_
    refine(GT (w.heap.size+1) _).mono ?_
    rintro e u' w''⟨rfl,rfl,rfl⟩
    obtain⟨W',hW',v4,v3,hbl,v5,v6⟩:=Fe HY1.out HY2.out (HBW7.out.trans (HB11.out.below (by omega) HBW7.out.size)) (.slice da dn dc) (.int .i64 x.m.k) (.string x.m.c) (.string x.m.x) (.slice la ln lc) (.slice aa an ac) (.int .i64 x.m.t.k) (.int .i64 x.m.t.p) (.string x.m.t.n) (.int .i64 x.m.t.s) (.slice ta tn tc) (.slice ua un uc) (.slice ka kn kc) 0 0
    rw[hW']
    replace v5:Keeps (fun k=>W7.heap.size<=k/\k<w11.heap.size) w11 W':=fun k o hk ho _=>(v5 k (by have:=hk.1;omega) (by have:=hk.1;omega)).trans ho
    clear hW' q0 q1 q2 q3 q4 q5 q6 q7 q8 q9 q10 q11 q12 r0 r1 r2 r3 r4 r5 r6 r7 r8 r9 r10 r11 r12 z0 z1 z2 z3 z4 z5 z6 z7 z8 z9 z10 z11 z12 g0 g1 f0 f1
    obtain⟨⟨y0,y1,y2,y3,y4,y5,y6,y7,y8,y9,y10,y11,y12⟩,-⟩:=c13p v4
    have g0:W'.cell? ⟨w.heap.size+1,0,none⟩=some iZ:=by simp[World.cell?,v3]
    have g1:W'.cell? ⟨w.heap.size+1,1,none⟩=some iZ:=by simp[World.cell?,v3]
    clear v3 v4
    refine⟨.tuple #[.agg #[.slice da dn dc,.int .i64 x.m.k,.string x.m.c,.string x.m.x,.slice la ln lc,.slice aa an ac,.int .i64 x.m.t.k,.int .i64 x.m.t.p,.string x.m.t.n,.int .i64 x.m.t.s,.slice ta tn tc,.slice ua un uc,.slice ka kn kc],.agg #[.int .i64 0,.int .i64 0]],by simp[results,Tryz.results23,go_sem,y0,y1,y2,y3,y4,y5,y6,y7,y8,y9,y10,y11,y12,g0,g1],?_⟩
    rw[HE5.out]
    exact⟨⟨_,rfl,lyPg.mono (fun k hk=>⟨lT HBW7.out.size hk.1,by rw[v6];exact hk.2⟩) (lyPg.keep v5 HG11.out)⟩,hbl⟩
end Go.Proofs.YtmnbheplkidfaaaGreatDoor
