/- Parsing: every text is the program, or has the fault, of the reference. (and what follows from it) -/
import Derived.Test.YtmnbheplkidfaaaGreatDoorPw20
import Derived.Test.YtmnbheplkidfaaaGreatDoorRows
import Derived.LaidMore
import Derived.OpenShut
import Derived.Stop.LaidErr
set_option maxHeartbeats 16000000
set_option maxRecDepth 100000
namespace Go.Proofs.YtmnbheplkidfaaaGreatDoor
open Go.Lib (hid)
open Go.RowKit Go.Deep Go.Shelf
theorem GPg.to_{b:Nat}{w w':World}{g:Pg}{v:Value}(h:GPg b w g v)(hb:Below w.heap.size w w'):GPg b w' g v:=
 PgVal.mono (fun _ hk=>⟨hk.1,lL hk.2 hb.size⟩) (PgVal.keep (w':=w') (fun k _ hk ho _=>(hb.block k hk.2).trans ho) h)
def OutG(x:Pg)(mk:Value->Value)(w:World)(e:Ending)(w':World):Prop:=∃da dn dc la ln lc aa an ac ta tn tc ua un uc ka kn kc,e= .returned (mk (.agg #[.slice da dn dc,.int .i64 x.m.k,.string x.m.c,.string x.m.x,.slice la ln lc,.slice aa an ac,.int .i64 x.m.t.k,.int .i64 x.m.t.p,.string x.m.t.n,.int .i64 x.m.t.s,.slice ta tn tc,.slice ua un uc,.slice ka kn kc]))/\GPg w.heap.size w' x (.agg #[.slice da dn dc,.int .i64 x.m.k,.string x.m.c,.string x.m.x,.slice la ln lc,.slice aa an ac,.int .i64 x.m.t.k,.int .i64 x.m.t.p,.string x.m.t.n,.int .i64 x.m.t.s,.slice ta tn tc,.slice ua un uc,.slice ka kn kc])/\Below w.heap.size w w'
theorem LL(q:Pg ⊕ (Int×Int)):∃(x:Pg) (fe fp:Int),(∀w e w',WRes w q GPg (.agg z13) e w'->OutG x (fun v=> .tuple #[v,.agg #[.int .i64 fe,.int .i64 fp]]) w e w')/\∀w e w',RRes w q GPg (.agg z13) e w'->OutG x (fun v=> .tuple #[v,.int .i64 fe,.int .i64 fp]) w e w':=by
 have hz:∀b w,GPg b w ⟨[],.mk 0 ⟨#[]⟩ ⟨#[]⟩ [] [] zT []⟩ (.agg z13):=fun b w=>⟨_,_,_,_,_,_,rfl,LN _ _,(GPr.node (t:=zT) (Nat.zero_le _) (Nat.zero_le _) (Jv _ _) (JK _ _) (YF _ _) (XQ _ _):GPr b w _ _)⟩
 match q with
 | .inl x=>
  refine⟨x,0,0,?_,?_⟩ <;>
  ·rintro w e w'⟨⟨v,rfl,hg⟩,hb⟩
   obtain⟨da,dn,dc,la,ln,lc,aa,an,ac,ta,tn,tc,ua,un,uc,ka,kn,kc,rfl⟩:=PgVal.open13 hg
   exact⟨da,dn,dc,la,ln,lc,aa,an,ac,ta,tn,tc,ua,un,uc,ka,kn,kc,rfl,hg,hb⟩
 | .inr (er,p)=>exact⟨⟨[],.mk 0 ⟨#[]⟩ ⟨#[]⟩ [] [] zT []⟩,er,p,fun w e w' ⟨h,hb⟩=>⟨none,0,0,none,0,0,none,0,0,none,0,0,none,0,0,none,0,0,h,hz _ _,hb⟩,fun w e w' ⟨h,hb⟩=>⟨none,0,0,none,0,0,none,0,0,none,0,0,none,0,0,none,0,0,h,hz _ _,hb⟩⟩
theorem Ud(s:ByteArray)(hs:s.size<=maxLen)(B:Nat)(w:World)(he:Tok.Env B w):Calls Tryz.prog 3 #[.string s] w fun e w'=>e= .returned (.bool true)/\Below w.heap.size w w':=by
 have HAW:=hid (fun W (hW:Below w.heap.size w W)=>DN B W (YY he hW))
 have HB:Hid (Below w.heap.size w w):=hid bR
 have HZ:=hid hs
 obtain⟨r,hr⟩:=WM s
 obtain⟨x,fe,fp,h1,h2⟩:=LL (ZP KF Pg.tooBig s r)
 have HT:=hid (fun W (hW:Below w.heap.size w W)=>(Ul s r hr B W (YY he hW)).mono (h1 W))
 have HRT:=hid (fun W=>(RX s r hr W).mono (h2 W))
 clear he h1 h2 hr
 obtain⟨d1,d2⟩|hc:(decide ((3000:Int)<(s.size:Int))=true/\decide ((s.size:Int)<=(65536:Int))=true)\/(decide ((3000:Int)<(s.size:Int))=true/\decide ((s.size:Int)<=(65536:Int))=false\/decide ((3000:Int)<(s.size:Int))=false):=by
  cases decide ((3000:Int)<(s.size:Int)) <;> cases decide ((s.size:Int)<=(65536:Int)) <;> simp
 ·go_enter Tryz.func3,Tryz.ntmps3
  go_wp2_with (go_at_call 8;refine(HAW.out _ HB.out).mono ?_;rintro en wa⟨rfl,hb⟩;replace HB:=hid (Qf HB.out hb);clear hb)
  go_ret
  exact⟨rfl,HB.out⟩
 rcases hc with⟨d1,d2⟩|d1
 all_goals
  go_enter Tryz.func3,Tryz.ntmps3
  go_upto_region 4 with(first|(go_at_call 8;refine(HAW.out _ HB.out).mono ?_;rintro en wa⟨rfl,hb⟩;replace HB:=hid (Qf HB.out hb);clear hb)|(go_at_call 9;refine(HT.out _ HB.out).mono ?_;rintro en w1⟨da,dn,dc,la,ln,lc,aa,an,ac,ta,tn,tc,ua,un,uc,ka,kn,kc,rfl,hg,hb⟩;have HG:=hid hg;replace HB:=hid (Qf HB.out hb);clear hb hg))
  obtain⟨a1,ha1⟩:=exw w1.heap.size
  have htw:=Zt w1 #[.slice da dn dc,.int .i64 x.m.k,.string x.m.c,.string x.m.x,.slice la ln lc,.slice aa an ac,.int .i64 x.m.t.k,.int .i64 x.m.t.p,.string x.m.t.n,.int .i64 x.m.t.s,.slice ta tn tc,.slice ua un uc,.slice ka kn kc] #[.int .i64 fe,.int .i64 fp] 33 36
  obtain⟨W1,hW1⟩:=exw ((w1.alloc (.cells #[.slice da dn dc,.int .i64 x.m.k,.string x.m.c,.string x.m.x,.slice la ln lc,.slice aa an ac,.int .i64 x.m.t.k,.int .i64 x.m.t.p,.string x.m.t.n,.int .i64 x.m.t.s,.slice ta tn tc,.slice ua un uc,.slice ka kn kc] 33)).alloc (.cells #[.int .i64 fe,.int .i64 fp] 36))
  rw[hW1] at htw |-
  have HG1:=hid (HG.out.to_ htw.2.2)
  replace HB:=hid (Qf HB.out htw.2.2)
  rw[ha1] at htw |-
  clear ha1 hW1
  have HX1:=hid htw
  clear htw
  go_upto_region 5 with(go_at_call 10;refine(HRT.out _).mono ?_;rintro en w2⟨da',dn',dc',la',ln',lc',aa',an',ac',ta',tn',tc',ua',un',uc',ka',kn',kc',rfl,hg,hb⟩;have HG2:=hid hg;have HC2:=hid hb;replace HB:=hid (Qf HB.out hb);clear hb hg)
  obtain⟨W2,hW2⟩:=exw (w2.alloc (.cells #[.slice da' dn' dc',.int .i64 x.m.k,.string x.m.c,.string x.m.x,.slice la' ln' lc',.slice aa' an' ac',.int .i64 x.m.t.k,.int .i64 x.m.t.p,.string x.m.t.n,.int .i64 x.m.t.s,.slice ta' tn' tc',.slice ua' un' uc',.slice ka' kn' kc'] 33))
  have hb2:=(made hW2).1
  have x2:=(made hW2).2
  rw[hW2]
  replace HB:=hid (Qf HB.out hb2)
  clear hW2
  have h12:=Qf HC2.out hb2
  have q1:=(h12.block _ (Array.getElem?_eq_some_iff.1 HX1.out.1).1).trans HX1.out.1
  have q3:=(h12.block _ (Array.getElem?_eq_some_iff.1 HX1.out.2.1).1).trans HX1.out.2.1
  obtain⟨⟨c0,c1,c2,c3,c4,c5,c6,c7,c8,c9,c10,c11,c12⟩,-⟩:=c13p q1
  obtain⟨⟨e0,e1,e2,e3,e4,e5,e6,e7,e8,e9,e10,e11,e12⟩,-⟩:=c13p x2
  have f0:W2.cell? ⟨a1+1,0,none⟩=some (.int .i64 fe):=by simp only[World.cell?,q3];rfl
  have f1:W2.cell? ⟨a1+1,1,none⟩=some (.int .i64 fp):=by simp only[World.cell?,q3];rfl
  have HS:=hid (Ur (fun k=>k<W2.heap.size) x x _ _ W2 (fun _ h=>h) (PgVal.mono (fun _ h=>h.2) (HG1.out.to_ h12)) (PgVal.mono (fun _ h=>h.2) (HG2.out.to_ hb2)))
  rw[SG] at HS
  have HFA:=hid (fun W=>DK fe fp W)
  have HF0:=hid (fun W (hW:Below W2.heap.size W2 W)=>And.intro ((hW.cell (p:=⟨a1+1,0,none⟩) (gl q3)).trans f0) ((hW.cell (p:=⟨a1+1,1,none⟩) (gl q3)).trans f1))
  clear q1 q3 x2 h12 hb2 f0 f1
  have heq:=fun W a b=>LZ W a b
  go_wp2_with (first|(go_at_call 11;refine HS.out.mono ?_;rintro en w3⟨rfl,hb⟩;obtain⟨f0,f1⟩:=HF0.out _ hb;replace HB:=hid (Qf HB.out hb);clear hb)|(go_at_call 12;refine(HFA.out _).mono ?_;rintro en w4⟨rfl,hb⟩;replace HB:=hid (Qf HB.out hb);clear hb))
  go_ret
  exact⟨rfl,HB.out⟩
end Go.Proofs.YtmnbheplkidfaaaGreatDoor
namespace Go.Proofs.YtmnbheplkidfaaaGreatDoor
open Go.RowKit Go.ChangeShapes Tok
abbrev Uu:List (String×DataW Unit):=Rows.parseTypesRow.laid
theorem UZ{P:Program}{w:World}:∀ {l:List (String×DataW Unit)} {ps:List MemPlace},DataW.LaidVars P w l ps->∀n d,(n,d)∈l->
 ∃g t cs fuel p,P.globalNamed n=some g/\(P.globals[g]?).map (·.type)=some t/\w.var? P n=some cs/\DataW.trod (fun _=>()) P w 0 (fun _=>true) false fuel t cs.toList=some (d,p)
 |[],_,_,_,_,hm=>by cases hm
 |(n',d')::r,ps,h,n,d,hm=>by
  obtain⟨g,t,cs,fuel,p,q,h1,h2,h3,h4,h5,_⟩:=h
  rcases List.mem_cons.1 hm with e|e
  ·cases e
   exact⟨g,t,cs,fuel,p,h1,h2,h3,h4⟩
  ·exact UZ h5 n d e
theorem GK{H:Type}{enc:TypeId×Value->H}{P:Program}{w:World}{base:Nat}{sp:Nat->Bool}{held:Bool}{fuel:Nat}{t:TypeId}{ms:Array (String×TypeId)}{cs:List Value}{nm:String}{d:DataW H}{p:List MemPlace}
 (ht:P.underlying t=some (.interface ms)) (h:DataW.trod enc P w base sp held fuel t cs=some (.iface nm d,p)):∃u v,cs=[.iface u v]:=by
 cases fuel with
 |zero=>simp[DataW.trod] at h
 |succ fuel=>
  unfold DataW.trod at h
  rw[ht] at h
  split at h <;> first|(rename_i heq;cases heq;done)|skip
  all_goals (first|(cases h;done)|exact⟨_,_,rfl⟩|skip)
theorem RN{H:Type}{enc:TypeId×Value->H}{P:Program}{w:World}{base:Nat}{sp:Nat->Bool}{held:Bool}{fuel:Nat}{t e:TypeId}{n:Nat}{cs:List Value}{ls:List (List UInt8)}{p:List MemPlace}
 (ht:P.underlying t=some (.array n e)) (he:P.underlying e=some .string) (hce:P.cellsOf e=1) (hct:P.cellsOf t=n)
 (h:DataW.trod enc P w base sp held fuel t cs=some (.agg (ls.map fun l=> .lit (.string l)),p)):cs=ls.map fun l=>Value.string ⟨l.toArray⟩:=by
 obtain⟨xs,m,_,hx,hlen,hxl,hat⟩:=DataW.trod_array ht h
 have hxs:xs.map (·.1)=ls.map fun l=>(DataW.lit (.string l):DataW H):=by
  have:=congrArg Prod.fst hx
  simpa using this.symm
 have hll:ls.length=n:=by
  have:=congrArg List.length hxs
  simp at this;omega
 apply List.ext_getElem?
 intro i
 by_cases hi:i<n
 ·have hf:=hat i hi
  rw[hce,Nat.mul_one] at hf
  obtain⟨x,hxi⟩:∃x,xs[i]? =some x:=⟨_,List.getElem?_eq_getElem (by omega)⟩
  rw[hxi] at hf
  obtain⟨s,hc,rfl,_⟩:=DataW.trod_string he hf
  have h1:cs[i]? =some (.string s):=by
   have:=congrArg (·[0]?) hc
   simpa [List.getElem?_take,List.getElem?_drop] using this
  have h2:(xs.map (·.1))[i]? =some (DataW.lit (.string s.data.toList):DataW H):=by simp[hxi]
  rw[hxs] at h2
  simp only[List.getElem?_map,Option.map_eq_some_iff,DataW.lit.injEq,Lit.string.injEq] at h2
  obtain⟨l,hl,hls⟩:=h2
  rw[h1,List.getElem?_map,hl,hls]
  rfl
 ·rw[List.getElem?_eq_none (by omega),List.getElem?_eq_none (by simp;omega)]
theorem rangeType:(Tryz.prog.globals[3]?).map (·.type)=some 177:=by kernel_rfl
theorem wordsType:(Tryz.prog.globals[0]?).map (·.type)=some 180:=by kernel_rfl
theorem SM:Tryz.prog.cellsOf 9=1:=by kernel_rfl
theorem Ra:Tryz.prog.cellsOf 180=10:=by kernel_rfl
theorem SF:∃ms,Tryz.prog.underlying 177=some (.interface ms):=⟨_,Tryz.underlying177⟩
theorem GM{W:World}(h:laidMetH Tryz.prog Uu W):Tok.Env W.heap.size W:=by
 rw[MakeChecks.laidMetH_plain _ _ _ (by kernel_rfl)] at h
 obtain⟨ps,hv,_⟩:=h
 obtain⟨g,t,cs,fuel,p,hg,ht,hvar,hd⟩:=UZ hv "strconv.ErrRange" Rows.laid_strconv_ErrRange (by simp[Uu,Rows.parseTypesRow])
 obtain rfl:=Option.some.inj (gRange.symm.trans hg)
 obtain rfl:=Option.some.inj (rangeType.symm.trans ht)
 obtain⟨ms,hms⟩:=SF
 obtain⟨u,v,hcs⟩:=GK hms hd
 obtain⟨g',t',cs',fuel',p',hg',ht',hvar',hd'⟩:=UZ hv "duologue/lex.keywords" Rows.laid_duologue_lex_keywords (by simp[Uu,Rows.parseTypesRow])
 obtain rfl:=Option.some.inj (gWords.symm.trans hg')
 obtain rfl:=Option.some.inj (wordsType.symm.trans ht')
 have hws:=RN (ls:=[[100,101,102],[109,97,105,110],[115,116,111,112],[110,101,119],[105,110,116],[98,111,111,108],[101,110,100],[114,101,99],[116,114,117,101],[102,97,108,115,101]]) kwU Tryz.underlying9 SM Ra hd'
 have lt:∀ {n:String} {g:Nat} {cs:Array Value},Tryz.prog.globalNamed n=some g->W.var? Tryz.prog n=some cs->g<W.heap.size:=by
  intro n g cs hg hv
  unfold World.var? at hv
  simp only[hg,Option.bind_some] at hv
  rcases Nat.lt_or_ge g W.heap.size with h'|h'
  ·exact h'
  ·rw[Array.getElem?_eq_none h'] at hv;cases hv
 refine⟨⟨u,v,?_⟩,?_,⟨lt gRange hvar,lt gWords hvar'⟩,lR⟩
 ·rw[hvar];obtain⟨l⟩:=cs;simp at hcs;rw[hcs]
 ·rw[hvar'];obtain⟨l⟩:=cs';simp only at hws;rw[hws];rfl
theorem SJ(os:Os)(args:Array Value):laidMetH Tryz.prog Uu ((World.doorLaid Tryz.prog 4000 os).forCall (fun _ _=>0) ⟨#[],args,[]⟩).memory:=
 laidMetH_of_parts3 (fuel:=10) (laidMet_of_run' 10 (by kernel_rfl) (by kernel_rfl)) (by kernel_rfl) (by kernel_rfl)
end Go.Proofs.YtmnbheplkidfaaaGreatDoor
